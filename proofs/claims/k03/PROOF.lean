import PyProof.Rows.All
import Wide.All
import OpenK.AllK
import Wide.FinOn
import PyProof.EqAt
import PyProof.EqKinds
import PyProof.TupleCall
import HandS.ForMost
import HandS.Conv
import HandS.Style
import HandS.Wide
import HandS.Strs
import HandS.SetFor
import HandS.SortRule
import HandS.SortInts
import HandS.IsInst
import HandS.RaiseMore
import HandS.EndBits
import HandS.Star
import PySem.Challenge.RW_scanmisses_k03_parts_of_lists
set_option Elab.async false
set_option linter.all false
set_option maxRecDepth 100000
set_option maxHeartbeats 4000000
namespace Kb
open PySem PySem.Spec PyProof.Rows L2

/-! ### heaps that grow -/
def Ex (H H' : Hp) : Prop := ∀ a o, H a = some o → H' a = some o
theorem Ex.refl (H : Hp) : Ex H H := fun _ _ h => h
theorem Ex.trans {H H1 H2 : Hp} (a : Ex H H1) (b : Ex H1 H2) : Ex H H2 := fun x o h => b x o (a x o h)
theorem Ex.new {H : Hp} {p : Addr} {o : HO} (h : H p = none) : Ex H (upd H p o) := fun a u e => by
  rw [upd_ne (ne_of_none e h)]
  exact e
theorem Ex.mut {H H' : Hp} {p : Addr} {o : HO} (e : Ex H H') (h : H p = none) : Ex H (upd H' p o) := fun a u ha => by
  rw [upd_ne (ne_of_none ha h)]
  exact e a u ha
theorem Ex.add {H H' : Hp} {p : Addr} {o : HO} (e : Ex H H') (h : H' p = none) : Ex H (upd H' p o) := e.trans (Ex.new h)
theorem Ex.back {H H' : Hp} {p : Addr} (e : Ex H H') (h : H' p = none) : H p = none := by
  cases h1 : H p with
  | none => rfl
  | some o =>
    rw [e p o h1] at h
    cases h

/-! ### a def that is there -/
structure Df (P : Program) (w : World) (K : PySem.W.Frag) (mg : Str → Option Value) (base : Heap) (x : Str) (k : Nat) (ps : List Str) (sp : Sp) : Prop where
  ex : ∃ f fd, mg x = some (.ref f) ∧ PySem.W.keepIn K (.ref f) = true ∧ Binds K fd ps [] ∧ FnOk P w K mg base CX0 k f fd ps sp
theorem pe_df {X : Cx} {x : Str} {k k' : Nat} {ps : List Str} {sp : Sp} {p pos : Pos} {e : Expr} {es : List Expr} {t : TA} (D : Df X.prog X.w X.K X.mg X.base x k ps sp) (hr : Room k' X.A) (ha : PA X (e :: es) t) (hk : k ≤ k' := by decide) (hg : Gl X x := by rfl)
    (hdb : (x == ("__debug__" : Str)) = false := by decide) (he : starEach (e :: es) X.env = (false, eval e X.env) :: starEach es X.env := by rfl) (hpl : (backTo pos (starEach es X.env)).any (·.1) = false := by rfl) :
    PE X (.Call (.Name x p) (e :: es) [] pos) (tCall sp [] E0 t) := by
  obtain ⟨f, fd, h1, h2, h3, h4⟩ := D.ex
  exact pe_call h4 (hr.mono hk) hg h1 h2 h3 .nil pass0 ha hdb he hpl
/-- what a def hands back: this value, and the heap has grown -/
def RetV (v : V) (H : Hp) (Q : VK) : Prop := ∀ H', Ex H H' → Q v H'
theorem RetV.go {v : V} {H H' : Hp} {Q : VK} (k : RetV v H Q) (e : Ex H H') : Q v H' := k H' e

/-! ### pairs, lists of pairs -/
abbrev Sc := Int × Int
def IsSc (H : Hp) (v : V) (s : Sc) : Prop := ∃ t, v = .ref t ∧ H t = some (.tup [.int s.1, .int s.2])
theorem IsSc.mono {H H' : Hp} {v : V} {s : Sc} (e : Ex H H') (h : IsSc H v s) : IsSc H' v s := by
  obtain ⟨t, h1, h2⟩ := h
  exact ⟨t, h1, e _ _ h2⟩
theorem Pa.mono {H H' : Hp} (e : Ex H H') : ∀ {vs : List V} {ss : List Sc}, Paired (IsSc H) vs ss → Paired (IsSc H') vs ss
  | _, _, .nil => .nil
  | _, _, .cons h t => .cons (h.mono e) (Pa.mono e t)
theorem Pa.len {H : Hp} : ∀ {vs : List V} {ss : List Sc}, Paired (IsSc H) vs ss → vs.length = ss.length
  | _, _, .nil => rfl
  | _, _, .cons h t => congrArg (· + 1) (Pa.len t)
theorem Pa.get {H : Hp} : ∀ {vs : List V} {ss : List Sc} {i : Nat} {v : V}, Paired (IsSc H) vs ss → vs[i]? = some v → ∃ s, ss[i]? = some s ∧ IsSc H v s
  | _, _, i, v, .nil, e => by simp at e
  | _, _, 0, v, .cons h t, e => by
    cases e
    exact ⟨_, rfl, h⟩
  | _, _, i + 1, v, .cons h t, e => Pa.get (i := i) t e
theorem Pa.get2 {H : Hp} : ∀ {vs : List V} {ss : List Sc} {i : Nat} {s : Sc}, Paired (IsSc H) vs ss → ss[i]? = some s → ∃ v, vs[i]? = some v ∧ IsSc H v s
  | _, _, i, s, .nil, e => by simp at e
  | _, _, 0, s, .cons h t, e => by
    cases e
    exact ⟨_, rfl, h⟩
  | _, _, i + 1, s, .cons h t, e => Pa.get2 (i := i) t e
theorem Pa.app {H : Hp} : ∀ {vs us : List V} {ss ts : List Sc}, Paired (IsSc H) vs ss → Paired (IsSc H) us ts → Paired (IsSc H) (vs ++ us) (ss ++ ts)
  | _, _, _, _, .nil, b => b
  | _, _, _, _, .cons h t, b => .cons h (Pa.app t b)
theorem Pa.rev {H : Hp} : ∀ {vs : List V} {ss : List Sc}, Paired (IsSc H) vs ss → Paired (IsSc H) vs.reverse ss.reverse
  | _, _, .nil => .nil
  | _, _, .cons h t => by
    rw [List.reverse_cons, List.reverse_cons]
    exact Pa.app (Pa.rev t) (.cons h .nil)
theorem Pa.erase {H : Hp} : ∀ {vs : List V} {ss : List Sc} (i : Nat), Paired (IsSc H) vs ss → Paired (IsSc H) (vs.eraseIdx i) (ss.eraseIdx i)
  | _, _, _, .nil => .nil
  | _, _, 0, .cons h t => t
  | _, _, i + 1, .cons h t => .cons h (Pa.erase i t)
def Scs (H : Hp) (a : Addr) (ss : List Sc) : Prop := ∃ vs, H a = some (.lst vs) ∧ Paired (IsSc H) vs ss
theorem Scs.mono {H H' : Hp} {a : Addr} {ss : List Sc} (e : Ex H H') (h : Scs H a ss) : Scs H' a ss := by
  obtain ⟨vs, h1, h2⟩ := h
  exact ⟨vs, e _ _ h1, Pa.mono e h2⟩

/-! ### a bag: a list of three ints that is not looked into from outside -/
def bagP (b : Addr) (h : Heap) : Prop := ∃ (x c t : Int) (its : List Value) (n : Nat), Vals [V.int x, V.int c, V.int t] its ∧ h.get? b = some { cls := .type "list", data := .seq its.toArray n }
def bagO (b : Addr) : HO := .ext (bagP b)
theorem bag_ok {P : Program} {w : World} {H H1 : Hp} {h : Heap} {b : Addr} {x c t : Int} (e : ObjOk P w H h b (.lst [.int x, .int c, .int t])) : ObjOk P w H1 h b (bagO b) := by
  obtain ⟨_, its, n, r, g⟩ := e
  exact ⟨⟨x, c, t, its, n, r, g⟩, ⟨_, g⟩, fun h1 h2 p k => by
    obtain ⟨x, c, t, its, n, r, g⟩ := p
    exact ⟨x, c, t, its, n, r, k _ g⟩⟩
theorem bag_open {P : Program} {w : World} {H : Hp} {h : Heap} {b : Addr} (ok : HOk P w H h) (e : H b = some (bagO b)) : ∃ x c t : Int, HOk P w (upd H b (.lst [.int x, .int c, .int t])) h := by
  obtain ⟨⟨x, c, t, its, n, r, g⟩, _, _⟩ : ObjOk P w H h b (.ext (bagP b)) := ok b _ e
  refine ⟨x, c, t, fun a o q => ?_⟩
  by_cases hb : a = b
  · subst hb
    rw [upd_same] at q
    cases q
    exact ⟨by show 3 ≤ sizeLine; decide, its, n, r, g⟩
  · rw [upd_ne hb] at q
    refine (ok a o q).stay (fun _ _ _ z => z) (fun d z => ?_) fun d xs z => ?_
    · rw [upd_ne]
      · exact z
      · intro y
        rw [y, e] at z
        cases (show HO.ext (bagP b) = .own a from Option.some.inj z)
    · rw [upd_ne]
      · exact z
      · intro y
        rw [y, e] at z
        cases (show HO.ext (bagP b) = .tup xs from Option.some.inj z)
theorem bag_close {P : Program} {w : World} {H : Hp} {h : Heap} {b : Addr} {x c t : Int} (ok : HOk P w H h) (e : H b = some (.lst [.int x, .int c, .int t])) : HOk P w (upd H b (bagO b)) h := fun a o q => by
  by_cases hb : a = b
  · subst hb
    rw [upd_same] at q
    cases q
    exact bag_ok (ok a _ e)
  · rw [upd_ne hb] at q
    refine (ok a o q).stay (fun _ _ _ z => z) (fun d z => ?_) fun d xs z => ?_
    · rw [upd_ne]
      · exact z
      · intro y
        rw [y, e] at z
        cases z
    · rw [upd_ne]
      · exact z
      · intro y
        rw [y, e] at z
        cases z
/-- a promise about a list of three ints, said of a bag -/
theorem bag_fn {P : Program} {w : World} {K : PySem.W.Frag} {mg : Str → Option Value} {base : Heap} {k : Nat} {f : Addr} {fd : FuncData} {ps : List Str} {sp sp' : Sp} (F : FnOk P w K mg base CX0 k f fd ps sp)
    (h : ∀ vs H Q E, sp' vs H Q E → vs.length = ps.length ∧ ∃ b, H b = some (bagO b) ∧ ∀ x c t : Int, sp vs (upd H b (.lst [.int x, .int c, .int t])) (fun v H2 => ∃ x c t : Int, H2 b = some (.lst [.int x, .int c, .int t]) ∧ Q v (upd H2 b (bagO b))) E) :
    FnOk P w K mg base CX0 k f fd ps sp' := by
  refine ⟨fun vs H Q E q => (h _ _ _ _ q).1, fun A outer s H args us vs Q E hr he hb hv hs => ?_⟩
  obtain ⟨_, b, eb, q⟩ := h _ _ _ _ hs
  obtain ⟨x, c, t, ok⟩ := bag_open he.hok eb
  have ne : ∀ {d : Addr}, H d = none → d ≠ b := fun {d} n z => by
    rw [z, eb] at n
    cases n
  have e2 : Env0 P w K mg base A outer s (upd H b (.lst [.int x, .int c, .int t])) :=
    ⟨he.frames, he.mod, fun d o z => ⟨(he.bs d o z).1, by rw [upd_ne (ne (he.bs d o z).2)]; exact (he.bs d o z).2⟩, he.bsz, he.funs, fun d z => by rw [upd_ne (ne (he.frf d z))]; exact he.frf d z, ok, he.bare⟩
  refine codeAny_mono (F.run A outer s _ args us vs _ E hr e2 hb hv (q x c t)) fun r s' hq => ?_
  cases r with
  | error e => exact hq
  | ok fl =>
    cases fl with
    | next => exact hq
    | brk => exact hq
    | cont => exact hq
    | ret u =>
      obtain ⟨v, H2, os, bare, un, hok, r, x', c', t', e3, q3⟩ := hq
      have ne2 : ∀ {d : Addr}, H2 d = none → d ≠ b := fun {d} n z => by
        rw [z, e3] at n
        cases n
      have nb : ∀ {d : Addr} {o : HO}, H d = some o → o ≠ bagO b → d ≠ b := fun {d o} z y e => by
        rw [e, eb] at z
        exact y (Option.some.inj z).symm
      refine ⟨v, _, os, bare, ?_, bag_close hok e3, r, q3⟩
      exact {
        keep := fun d o g n hf hx => un.keep d o g (by rw [upd_ne (ne n)]; exact n) hf hx
        slot := fun d o g n hf hx => un.slot d o g (by rw [upd_ne (ne n)]; exact n) hf hx
        free := fun d o g n hx => by
          have y := un.free d o g (by rw [upd_ne (ne n)]; exact n) hx
          rw [upd_ne (ne2 y)]
          exact y
        there := fun d o g hx => un.there d o g hx
        tups := fun d xs z => by
          have y : d ≠ b := nb z (by intro q; cases (show HO.tup xs = HO.ext (bagP b) from q))
          rw [upd_ne y]
          exact un.tups d xs (by rw [upd_ne y]; exact z)
        frzs := fun d o u z => by
          have y : d ≠ b := nb z (by intro q; cases (show HO.frz o u = HO.ext (bagP b) from q))
          rw [upd_ne y]
          exact un.frzs d o u (by rw [upd_ne y]; exact z)
        tbls := fun d xs z => by
          have y : d ≠ b := nb z (by intro q; cases (show HO.tbl xs = HO.ext (bagP b) from q))
          rw [upd_ne y]
          exact un.tbls d xs (by rw [upd_ne y]; exact z) }
end Kb

namespace Kb
open PySem PySem.Spec PyProof.Rows L2

/-! ### a bag that is made -/
theorem bag_new {P : Program} {w : World} {K : PySem.W.Frag} {mg : Str → Option Value} {base : Heap} {k : Nat} {f : Addr} {fd : FuncData} {ps : List Str} {sp sp' : Sp} (F : FnOk P w K mg base CX0 k f fd ps sp)
    (h : ∀ vs H Q E, sp' vs H Q E → vs.length = ps.length ∧ sp vs H (fun v H2 => ∃ (b : Addr) (x c t : Int), v = .ref b ∧ H b = none ∧ H2 b = some (.lst [.int x, .int c, .int t]) ∧ Q v (upd H2 b (bagO b))) E) :
    FnOk P w K mg base CX0 k f fd ps sp' := by
  refine ⟨fun vs H Q E q => (h _ _ _ _ q).1, fun A outer s H args us vs Q E hr he hb hv hs => ?_⟩
  refine codeAny_mono (F.run A outer s _ args us vs _ E hr he hb hv (h _ _ _ _ hs).2) fun r s' hq => ?_
  cases r with
  | error e => exact hq
  | ok fl =>
    cases fl with
    | next => exact hq
    | brk => exact hq
    | cont => exact hq
    | ret u =>
      obtain ⟨v, H2, os, bare, un, hok, r, b, x', c', t', ev, e0, e3, q3⟩ := hq
      have ne2 : ∀ {d : Addr}, H2 d = none → d ≠ b := fun {d} n z => by
        rw [z, e3] at n
        cases n
      refine ⟨v, _, os, bare, ?_, bag_close hok e3, r, q3⟩
      exact {
        keep := un.keep
        slot := un.slot
        free := fun d o g n hx => by
          have y := un.free d o g n hx
          rw [upd_ne (ne2 y)]
          exact y
        there := un.there
        tups := fun d xs z => by
          rw [upd_ne (ne_of_none z e0)]
          exact un.tups d xs z
        frzs := fun d o u z => by
          rw [upd_ne (ne_of_none z e0)]
          exact un.frzs d o u z
        tbls := fun d xs z => by
          rw [upd_ne (ne_of_none z e0)]
          exact un.tbls d xs z }

/-! ### set(xs), xs a list of ints -/
section
variable {P : Program} {w : World} {A : Around} {E : Value → Shared → Prop} {s : Shared}
abbrev bare0 (w : World) : Obj := { cls := .type "set", dict := none, data := .set #[] 0 (.fresh 0 0 (!w.params.followText "set-order")) }
abbrev with0 (w : World) (s : Shared) : Shared := { s with heap := s.heap.push (bare0 w) }
set_option maxHeartbeats 6400000 in
theorem set_of_list {l : Addr} {its : Array Value} (ns : List Int) {Q : Value → Shared → Prop} (ah : A.handled = none) (hl : s.heap.IsList l its) (ia : IntsAre its.toList ns) (room : ns.length + 1 < scanBound)
    (h : ∀ (g : Heap) (tk c : Nat), SetR w g s.heap.objs.size (fun j => decide (j ∈ ns)) c → c ≤ ns.length → (∀ b o, s.heap.get? b = some o → g.get? b = some o) → Q (.ref s.heap.objs.size) { s with heap := g, toks := tk }) :
    wpAny (model P w) A (call (.type "set") [.ref l]) Q E s := by
  have sz : its.size = ns.length := by
    have q := IntsAre.length ia
    rwa [Array.length_toList] at q
  obtain ⟨c0, tl0, mro0⟩ := F.called_set.mro
  have m1 := F.called_set.made
  have m2 := F.called_set.sub
  refine wpAny_call (codeAny_of_tree (show wpAny _ _ (callAny (.type "set") _) _ _ _ from wpAny_pure ⟨Code.quiet_builtin _ (by decide +kernel), codeAny_builtin F.entry_type_call ?_⟩))
  rw [Around.under_plain (weight_type_call_type "set" [.ref l] []) rfl]
  have m3 := F.called_set.notType
  have m4 := F.called_set.canCreate
  have m5 := F.typeCall_set_1 (.ref l)
  repeat (any_goals (first | assumption | wp_step))
  refine codeAny_mono (code_set_led1 (.ref l) (E := E) (Q₁ := fun ob s1 => ob = .ref s.heap.objs.size ∧ s1 = with0 w s) ⟨rfl, rfl⟩) fun r s1 hr => ?_
  cases r with
  | error e => exact hr
  | ok fl =>
    cases fl with
    | ret obj =>
      obtain ⟨rfl, rfl⟩ := hr
      have gS : (s.heap.push (bare0 w)).get? s.heap.objs.size = some (bare0 w) := Heap.get?_push_size _ rfl
      have tS : Shared.TypeIs (with0 w s) (.ref s.heap.objs.size) "set" := ⟨_, gS, rfl⟩
      have n1 := F.called_set.init.lookup
      have n2 := F.called_set.init.bind (.ref s.heap.objs.size)
      repeat (any_goals (first | assumption | wp_step))
      refine codeAny_mono (codeAny_call_builtin (R := wants (fun r s2 => r = .none ∧ ∃ g tk c, s2 = { s with heap := g, toks := tk } ∧ SetR w g s.heap.objs.size (fun j => decide (j ∈ ns)) c ∧ c ≤ ns.length ∧
          ∀ b o, s.heap.get? b = some o → g.get? b = some o) E) F.called_set.init.plain F.entry_set_init (check_set_init_1 tS ?_)) fun r2 s2 hr2 => ?_
      · obtain ⟨ol, gl, hcl, nl, hdl⟩ := hl
        obtain ⟨ocls, odict, odata, oslots⟩ := ol
        simp only at hcl hdl
        subst hcl
        subst hdl
        have gl2 : (s.heap.push (bare0 w)).get? l = some { cls := .type "list", dict := odict, data := .seq its nl, slots := oslots } := Heap.get?_push_of_some _ gl
        have k1 := F.sub_list_set
        have k2 := F.sub_list_frozenset
        have k3 : (Value.type "list" == Value.type "dict") = false := by decide
        have il : (s.heap.push (bare0 w)).IsList l its := ⟨_, gl2, rfl, nl, rfl⟩
        unfold Builtin.«set.__init__» noKeywords Builtin.Frozenset.updateFrom
        generalize eP : pyIter = PI
        wp_walk
        subst eP
        refine wpAny_pyIter_list il (wpAny_bind (wpAny_runValue ?_))
        have lS : l < s.heap.objs.size := Heap.lt_size gl
        have ah3 : A.in1.in1.in1.handled = none := by simp [ah]
        have zS : (s.heap.push (bare0 w)).objs.size = s.heap.objs.size + 1 := Heap.size_push ..
        have neI : l ≠ (s.heap.push (bare0 w)).objs.size := by
          rw [zS]
          exact Nat.ne_of_lt (Nat.lt_succ_of_lt lS)
        have fS : s.heap.objs.size ∉ [(s.heap.push (bare0 w)).objs.size, l] := by
          rw [zS]
          simp only [List.mem_cons, List.mem_singleton, List.not_mem_nil, or_false, not_or]
          exact ⟨Nat.ne_of_lt (Nat.lt_succ_self _), Nat.ne_of_gt lS⟩
        have vals : ∀ (i : Nat) (v : Value), its[i]? = some v → ∃ k t, ns[i]? = some k ∧ v = .int k t := fun i v hv => by
          have li : i < ns.length := by
            rw [← sz]
            exact (Array.getElem?_eq_some_iff.mp hv).1
          obtain ⟨t, e⟩ := PyProof.Rows.IntsAre.int_at ia i v (by rw [Array.getElem?_toList]; exact hv)
          refine ⟨ns[i], t, List.getElem?_eq_getElem li, e.trans ?_⟩
          rw [List.getD_eq_getElem?_getD, List.getElem?_eq_getElem li] <;> rfl
        refine set_update_ints ((Walks.list ah3 _ l neI its).toS) s.heap.objs.size fS ns sz room vals (its.size - 0) 0 _ (by omega) (Nat.zero_le _) ⟨⟨_, Heap.get?_push_size _ rfl, rfl, rfl⟩, il.push _⟩
          ⟨0, Nat.le_refl 0, setR_new_at (Heap.get?_push_of_some _ gS)⟩ fun s3 c3 hm hc3 hS3 => ?_
        obtain ⟨g, g2, d3, tk3, os3⟩ := s3
        obtain rfl : g2 = s.gens := hm.gens
        obtain rfl : d3 = s.drawn := hm.drawn
        obtain rfl : os3 = s.os := hm.os
        rw [sz] at hc3
        show wpAny _ _ _ _ _ _
        refine wpAny_pure ?_
        show wpAny _ _ (ret Value.none) _ _ _
        refine wpAny_pure ⟨rfl, g, tk3, c3, rfl, hS3, hc3, fun b o e => ?_⟩
        have lb : b < s.heap.objs.size := Heap.lt_size e
        refine hm.heap b o ?_ (Heap.get?_push_of_some _ (Heap.get?_push_of_some _ e))
        simp only [List.mem_cons, List.mem_singleton, List.not_mem_nil, or_false, not_or]
        refine ⟨Nat.ne_of_lt lb, ?_⟩
        rw [zS]
        exact Nat.ne_of_lt (Nat.lt_succ_of_lt lb)
      · cases r2 with
        | error e => exact hr2
        | ok fl2 =>
          cases fl2 with
          | ret r =>
            obtain ⟨rfl, g, tk, c, rfl, z1, z2, z3⟩ := hr2
            repeat (any_goals (first | assumption | wp_step))
            exact h _ _ _ z1 z2 z3
          | _ => exact hr2.elim
    | _ => exact hr.elim
end
section
variable {X : Cx}
theorem cr_set (hc : X.calm = true) : CallR X (.type "set") (fun xs H Q => ∃ (l : Addr) (ns : List Int), xs = [.ref l] ∧ SqL X.K H l (ns.map V.int) ∧ ns.length ≤ 60 ∧
    ∀ (a : Addr) (c : Nat), H a = none → c ≤ ns.length → Q (.ref a) (upd H a (SetO X.w a (fun j => decide (j ∈ ns)) c))) := by
  intro pins s σ H xs us Q I r h
  obtain ⟨l, ns, rfl, hq, hl, q⟩ := h
  rw [Vals.ref1 r]
  obtain ⟨its, rv, pt, hz⟩ := I.list hq
  refine set_of_list (its := its.toArray) ns (I.ok.hd hc) pt.isList (ints_of_vals rv) (by unfold scanBound; omega) fun g tk c R hc k => ?_
  have n : H s.heap.objs.size = none := I.hok.fresh (Nat.le_refl _)
  exact ⟨.ref _, _, I.laid (t' := tk) k (Nat.le_refl _) (setO_new R), rfl, q _ c n hc⟩
theorem cr_repr : CallR X (.builtin "repr") (fun xs H Q => (∃ i, xs = [.int i] ∧ i.natAbs.log2 < 1920 ∧ Q (.str (toString i)) H) ∨ (xs = [.non] ∧ Q (.str "None") H)) := by
  intro pins s σ H xs us Q I r h
  rcases h with ⟨i, rfl, hz, q⟩ | ⟨rfl, q⟩
  · obtain ⟨u, rfl, t, rfl⟩ := vals1 r
    exact PySem.P.repr_of_int hz ⟨.str _, H, I.tok _, ⟨_, rfl⟩, q⟩
  · obtain ⟨u, rfl, ru⟩ := vals1 r
    obtain rfl : u = Value.none := ru
    exact PySem.P.repr_of_none ⟨.str _, H, I.tok _, ⟨_, rfl⟩, q⟩
end
end Kb

namespace Kb
open PySem PySem.Spec PyProof.Rows L2
theorem bo_len : bootBuiltins "len" = some (.builtin "len") := by decide +kernel
theorem bo_abs : bootBuiltins "abs" = some (.builtin "abs") := by decide +kernel
theorem bo_max : bootBuiltins "max" = some (.builtin "max") := by decide +kernel
theorem bo_min : bootBuiltins "min" = some (.builtin "min") := by decide +kernel
theorem bo_sum : bootBuiltins "sum" = some (.builtin "sum") := by decide +kernel
theorem bo_all : bootBuiltins "all" = some (.builtin "all") := by decide +kernel
theorem bo_repr : bootBuiltins "repr" = some (.builtin "repr") := by decide +kernel
theorem bo_sorted : bootBuiltins "sorted" = some (.builtin "sorted") := by decide +kernel
theorem bo_isinstance : bootBuiltins "isinstance" = some (.builtin "isinstance") := by decide +kernel
theorem bo_int : bootBuiltins "int" = some (.type "int") := by decide +kernel
theorem bo_bool : bootBuiltins "bool" = some (.type "bool") := by decide +kernel
theorem bo_list : bootBuiltins "list" = some (.type "list") := by decide +kernel
theorem bo_tuple : bootBuiltins "tuple" = some (.type "tuple") := by decide +kernel
theorem bo_set : bootBuiltins "set" = some (.type "set") := by decide +kernel
theorem bo_str : bootBuiltins "str" = some (.type "str") := by decide +kernel
/-- names that are still the built-in ones -/
structure Bt (mg : Str → Option Value) : Prop where
  len : mg "len" = none
  abs : mg "abs" = none
  max : mg "max" = none
  min : mg "min" = none
  sum : mg "sum" = none
  all : mg "all" = none
  repr : mg "repr" = none
  sorted : mg "sorted" = none
  isinstance : mg "isinstance" = none
  int : mg "int" = none
  bool : mg "bool" = none
  list : mg "list" = none
  tuple : mg "tuple" = none
  set : mg "set" = none
  range : mg "range" = none
  zip : mg "zip" = none

/-! ### xs[::k], k reckoned, 1 or -1 -/
theorem pick_one (its : Array Value) : slicePick its none none (some 1) = its := by
  unfold slicePick
  have b : sliceBounds none none (some 1) its.size = (0, (its.size : Int), 1) := by first | rfl | simp [sliceBounds]
  rw [b]
  have e : sliceRange 0 (its.size : Int) 1 = List.range its.size := by
    unfold sliceRange
    by_cases h : (its.size : Int) > 0
    · have e1 : ((its.size : Int) - 0 + 1 - 1) / 1 = (its.size : Int) := by
        rw [Int.ediv_one]
        omega
      simp only [show ((1 : Int) > 0) from by decide, if_true, show (0 : Int) < (its.size : Int) from h, e1, Int.toNat_natCast]
      refine (List.map_congr_left fun k hk => ?_).trans (List.map_id _)
      show ((0 : Int) + 1 * (k : Int)).toNat = id k
      simp
    · have z : its.size = 0 := by omega
      rw [z]
      simp
  show ((sliceRange 0 (its.size : Int) 1).filterMap (its[·]?)).toArray = its
  rw [e, PySem.W.krv_all, Array.toArray_toList]
def tStep (K : PySem.W.Frag) (te ts : TE) : TE := fun σ H Q => te σ H fun x H1 => tPart ts σ H1 fun o H2 => ∃ a xs k, x = .ref a ∧ o = some k ∧ SqL K H2 a xs ∧
  ((k = 1 ∧ ∀ p, H2 p = none → Q (.ref p) (upd H2 p (.lst xs))) ∨ (k = -1 ∧ ∀ p, H2 p = none → Q (.ref p) (upd H2 p (.lst xs.reverse))))
theorem pe_slstep {X : Cx} {e st : Expr} {te ts : TE} {p3 pos : Pos} (he : PE X e te) (hst : PE X st ts) : PE X (.Subscript e (.Slice none none (some st) p3) pos) (tStep X.K te ts) := by
  refine ⟨fun pins s σ H Q I h => ?_⟩
  refine Subscript_ (thn (he.run pins s σ H _ I h) fun v s1 ⟨x, H1, I1, r1, q1⟩ => ?_)
  refine wpAny_Slice (thn (po_none.run pins s1 σ H1 (fun o H2 => o = none ∧ H2 = H1) I1 ⟨rfl, rfl⟩) fun vl s2 ⟨l, H2, I2, pl, el, e2⟩ => ?_)
  subst el e2
  refine thn (po_none.run pins s2 σ H2 (fun o H3 => o = none ∧ H3 = H2) I2 ⟨rfl, rfl⟩) fun vu s3 ⟨u, H3, I3, pu, eu, e3⟩ => ?_
  subst eu e3
  refine thn ((po_some hst).run pins s3 σ H3 _ I3 q1) fun vs s4 ⟨o, H4, I4, ps, a, xs, k, ex, eo, hx, q⟩ => ?_
  subst ex eo
  cases r1
  have I5 : Inv X pins σ H4 { s4 with heap := s4.heap.push { cls := .type "slice", data := .fields #[vl, vu, vs] } } := I4.kept (t' := s4.toks) fun b ob q => Heap.get?_push_of_some _ q
  obtain ⟨its, r, ht, hz⟩ := I5.list hx
  have hlen := r.length
  show wpAny (model X.prog X.w) X.A (subscriptTail e (.Slice none none (some st) p3) (.ref a) (.ref s4.heap.objs.size)) (EP X pins σ Q) X.xe { s4 with heap := s4.heap.push { cls := .type "slice", data := .fields #[vl, vu, vs] } }
  refine tail_any (ops := [.ref a, .ref s4.heap.objs.size]) ht.isList.typeIs (PySem.slot_list_getitem.lookup) ?_ rfl
  have bz : its.toArray.size ≤ sizeLine := by
    rw [List.size_toArray]
    omega
  rcases q with ⟨ek, q⟩ | ⟨ek, q⟩
  · subst ek
    refine wpAny_getItem_list_slice ht.isList (Heap.IsSliceOf.new _ vl vu vs) pl pu ps (by decide) ?_ bz
    rw [pick_one]
    exact ⟨.ref _, _, I5.laid (t' := s4.toks) (o := .lst xs) (fun b ob q => Heap.get?_push_of_some _ q) (Nat.le_refl _) ⟨hz, _, 0, r, Heap.get?_push_size _ rfl⟩, rfl, q _ (I5.hok.fresh (Nat.le_refl _))⟩
  · subst ek
    refine wpAny_getItem_list_slice ht.isList (Heap.IsSliceOf.new _ vl vu vs) pl pu ps (by decide) ?_ bz
    rw [PySem.W.krv_pick]
    exact ⟨.ref _, _, I5.laid (t' := s4.toks) (o := .lst xs.reverse) (fun b ob q => Heap.get?_push_of_some _ q) (Nat.le_refl _) ⟨by rw [List.length_reverse]; exact hz, _, 0, r.reverse, Heap.get?_push_size _ rfl⟩, rfl, q _ (I5.hok.fresh (Nat.le_refl _))⟩

/-! ### list(range(i, j, c)) -/
def tLstRg3 (ta : TA) : TE := fun σ H Q => ta σ H fun vs H1 => ∃ (i j c : Int) (n : Nat), vs = [.int i, .int j, .int c] ∧ RgC i j c n ∧ n ≤ 2 ^ 20 ∧ ∀ q, H1 q = none → Q (.ref q) (upd H1 q (.lst ((List.range n).map fun (m : Nat) => V.int (i + (m : Int) * c))))
theorem pe_listRg3 {X : Cx} {a b c : Expr} {ta : TA} {p p2 pos pos2 : Pos} (hc : X.calm = true) (hg : Gl X "list") (hm : X.mg "list" = none) (hm2 : X.mg "range" = none) (ha : PA X [a, b, c] ta) (hg2 : Gl X "range" := by rfl)
    (hs : starEach [a, b, c] X.env = (false, eval a X.env) :: starEach [b, c] X.env := by rfl) (hpl : (backTo pos2 (starEach [b, c] X.env)).any (·.1) = false := by rfl)
    (na : starEach [.Call (.Name "range" p2) [a, b, c] [] pos2] X.env = (false, eval (.Call (.Name "range" p2) [a, b, c] [] pos2) X.env) :: starEach [] X.env := by rfl) :
    PE X (.Call (.Name "list" p) [.Call (.Name "range" p2) [a, b, c] [] pos2] [] pos) (tLstRg3 ta) := by
  refine ⟨fun pins s σ H Q I h => ?_⟩
  refine Call_ (ld_blt I hg hm boot_list (PyProof.Rows.callWith_type1 (args_cons ?_ na) na))
  refine Call_ (ld_blt I hg2 hm2 boot_range (PyProof.Rows.callWith_type1 (thn (ha.run pos2 pins s σ H _ I h) fun us s1 ⟨vs, H1, I1, r1, q1⟩ => ?_) hs hpl))
  obtain ⟨i, j, k, n, e, ⟨c0, c1, c2, c3⟩, hn, q⟩ := q1
  subst e
  cases r1 with
  | cons r rr =>
    cases rr with
    | cons r' rr =>
      cases rr with
      | cons r'' rr =>
        cases rr
        obtain ⟨t, rfl⟩ := r
        obtain ⟨t', rfl⟩ := r'
        obtain ⟨t'', rfl⟩ := r''
        refine call_range_3 c0 ?_ (.inl (PyProof.noPylong_small c1))
        refine args_nil ?_
        have I2 : Inv X pins σ H1 { s1 with heap := s1.heap.push { cls := .type "range", data := .fields #[.int i t, .int j t', .int k t''] } } := I1.kept (t' := s1.toks) fun b o e => Heap.get?_push_of_some _ e
        refine call_list_range (n := n) (I2.ok.hd hc) (IsRange.new _ _ _ _ _ _ _) c2 c3 (Nat.le_trans hn (by decide)) fun h' tk acc c' hk e' hi => ?_
        have el : acc.toList.length = n := by
          rw [Array.length_toList]
          exact hi.1
        have hv : Vals ((List.range n).map fun (m : Nat) => V.int (i + (m : Int) * k)) acc.toList := by
          rw [← el]
          refine vals_of_get acc.toList _ fun m u hm => ?_
          obtain ⟨tt, rfl⟩ := hi.2 m u (by rw [← hm, Array.getElem?_toList])
          exact ⟨tt, rfl⟩
        refine ⟨.ref _, upd H1 _ (.lst _), I2.laid hk (Nat.le_refl _) (show ObjOk X.prog X.w _ _ _ (.lst ((List.range n).map fun (m : Nat) => V.int (i + (m : Int) * k))) from ⟨?_, acc.toList, c', hv, ?_⟩), rfl, q _ (I2.hok.fresh (Nat.le_refl _))⟩
        · rw [List.length_map, List.length_range, sizeLine_eq]
          omega
        · rw [Array.toArray_toList]
          exact e'
end Kb

namespace Kb
open PySem PySem.Spec PyProof.Rows L2
section
variable {K : PySem.W.Frag} {a b : Addr} {xs ys : List V} {n : Nat} {g : TG}
theorem for_zip {tb : TS} {D : Ends} {σ : L2.St} {H : Hp} (hn : n = min xs.length ys.length) (Pv : Nat → L2.St → Hp → Prop) (h0 : Pv 0 σ H) (hl : ∀ i σ H, i ≤ n → Pv i σ H → SqL K H a xs ∧ SqL K H b ys)
    (hs : ∀ i x y T σ H, i < n → xs[i]? = some x → ys[i]? = some y → H T = none → Pv i σ H → g (.ref T) σ (upd H T (.tup [x, y])) fun σ2 H2 => tb { D with nx := Pv (i + 1), ct := Pv (i + 1), bk := D.nx } σ2 H2) (hd : ∀ σ H, Pv n σ H → D.nx σ H) :
    ∃ W : Nat → Nat → L2.St → Hp → Prop, (∃ m, W 0 m σ H) ∧ ∀ i m σ H, W i m σ H →
      ((Itz K a b).stop i H ∧ D.nx σ H) ∨ ((Itz K a b).go i H ∧ ∃ N : L2.St → Hp → Prop, (∀ σ' H', N σ' H' → ∃ m', m' < m ∧ W (i + 1) m' σ' H') ∧ ∀ x H', (Itz K a b).yld i H x H' → g x σ H' fun σ2 H2 => tb { D with nx := N, ct := N, bk := D.nx } σ2 H2) := by
  refine ⟨fun i m σ H => m = n - i ∧ i ≤ n ∧ Pv i σ H, ⟨n, by simp, Nat.zero_le _, h0⟩, ?_⟩
  rintro i m σ H ⟨rfl, hi, p⟩
  obtain ⟨q1, q2⟩ := hl i σ H hi p
  by_cases hlt : i < n
  · have l1 : i < xs.length := by omega
    have l2 : i < ys.length := by omega
    have g1 : xs[i]? = some xs[i] := List.getElem?_eq_getElem l1
    have g2 : ys[i]? = some ys[i] := List.getElem?_eq_getElem l2
    refine .inr ⟨⟨_, _, _, _, q1, q2, g1, g2⟩, Pv (i + 1), fun σ' H' p' => ⟨n - (i + 1), by omega, rfl, hlt, p'⟩, fun v H' y => ?_⟩
    obtain ⟨T, x1, x2, rfl, nT, rfl, f1, f2⟩ := y
    exact hs i x1 x2 T σ H hlt (f1 xs q1) (f2 ys q2) nT p
  · have e : i = n := by omega
    subst e
    exact .inl ⟨⟨xs, ys, q1, q2, by omega⟩, hd σ H p⟩
theorem lc_zip {tt : TT} {te : TE} {vs : List Nat} {σ : L2.St} {H1 : Hp} {D : Addr} {Qd : Hp → Prop} (hn : n = min xs.length ys.length) (Pv : Nat → Hp → Prop) (h0 : Pv 0 (upd H1 D (.lst []))) (hl : ∀ i H, i ≤ n → Pv i H → SqL K H a xs ∧ SqL K H b ys)
    (hs : ∀ i x y T H, i < n → xs[i]? = some x → ys[i]? = some y → H T = none → Pv i H → g (.ref T) (wipe σ vs) (upd H T (.tup [x, y])) fun σ2 H2 => wipe σ2 vs = wipe σ vs ∧ tt σ2 H2 fun b H3 =>
      if b = true then te σ2 H3 fun y H4 => ∃ acc, H4 D = some (.lst acc) ∧ acc.length < sizeLine ∧ Pv (i + 1) (upd H4 D (.lst (acc ++ [y]))) else Pv (i + 1) H3) (hd : ∀ H, Pv n H → Qd H) :
    ∃ W : Nat → Nat → Hp → Prop, (∃ m, W 0 m (upd H1 D (.lst []))) ∧ ∀ i m H, W i m H →
      ((Itz K a b).stop i H ∧ Qd H) ∨ ((Itz K a b).go i H ∧ ∃ Nx : Hp → Prop, (∀ H', Nx H' → ∃ m', m' < m ∧ W (i + 1) m' H') ∧ ∀ x H', (Itz K a b).yld i H x H' → g x (wipe σ vs) H' fun σ2 H2 => wipe σ2 vs = wipe σ vs ∧ tt σ2 H2 fun b H3 =>
        if b = true then te σ2 H3 fun y H4 => ∃ acc, H4 D = some (.lst acc) ∧ acc.length < sizeLine ∧ Nx (upd H4 D (.lst (acc ++ [y]))) else Nx H3) := by
  refine ⟨fun i m H => m = n - i ∧ i ≤ n ∧ Pv i H, ⟨n, by simp, Nat.zero_le _, h0⟩, ?_⟩
  rintro i m H ⟨rfl, hi, p⟩
  obtain ⟨q1, q2⟩ := hl i H hi p
  by_cases hlt : i < n
  · have l1 : i < xs.length := by omega
    have l2 : i < ys.length := by omega
    have g1 : xs[i]? = some xs[i] := List.getElem?_eq_getElem l1
    have g2 : ys[i]? = some ys[i] := List.getElem?_eq_getElem l2
    refine .inr ⟨⟨_, _, _, _, q1, q2, g1, g2⟩, Pv (i + 1), fun H' p' => ⟨n - (i + 1), by omega, rfl, hlt, p'⟩, fun v H' y => ?_⟩
    obtain ⟨T, x1, x2, rfl, nT, rfl, f1, f2⟩ := y
    exact hs i x1 x2 T H hlt (f1 xs q1) (f2 ys q2) nT p
  · have e : i = n := by omega
    subst e
    exact .inl ⟨⟨xs, ys, q1, q2, by omega⟩, hd H p⟩
end
/-! ### a list in the making, and what else stands -/
theorem IsSc.lset {H : Hp} {D : Addr} {us us' : List V} {v : V} {s : Sc} (hD : H D = some (.lst us)) (h : IsSc H v s) : IsSc (upd H D (.lst us')) v s := by
  obtain ⟨t, e, ht⟩ := h
  refine ⟨t, e, ?_⟩
  rw [upd_ne (ne_of ht hD (by intro z; cases z))]
  exact ht
theorem Pa.lset {H : Hp} {D : Addr} {us us' : List V} (hD : H D = some (.lst us)) : ∀ {vs : List V} {ss : List Sc}, Paired (IsSc H) vs ss → Paired (IsSc (upd H D (.lst us'))) vs ss
  | _, _, .nil => .nil
  | _, _, .cons h t => .cons (h.lset hD) (Pa.lset hD t)
theorem Pa.snoc {H : Hp} {vs : List V} {ss : List Sc} {v : V} {s : Sc} (h : Paired (IsSc H) vs ss) (k : IsSc H v s) : Paired (IsSc H) (vs ++ [v]) (ss ++ [s]) := Pa.app h (.cons k .nil)
/-- the pair that a value stands for -/
def kOf (H : Hp) : V → Int × Int
  | .ref t => match H t with
    | some (.tup [.int x, .int y]) => (x, y)
    | _ => (0, 0)
  | _ => (0, 0)
theorem kOf_eq {H : Hp} {v : V} {s : Sc} (h : IsSc H v s) : kOf H v = s := by
  obtain ⟨t, rfl, e⟩ := h
  show (match H t with
    | some (.tup [.int x, .int y]) => (x, y)
    | _ => (0, 0)) = s
  rw [e]
theorem Pa.kOf {H : Hp} : ∀ {vs : List V} {ss : List Sc}, Paired (IsSc H) vs ss → vs.map (Kb.kOf H) = ss
  | _, _, .nil => rfl
  | _, _, .cons h t => by rw [List.map_cons, kOf_eq h, Pa.kOf t]
theorem Pa.of_map {H : Hp} : ∀ {vs : List V}, (∀ v ∈ vs, ∃ s, IsSc H v s) → Paired (IsSc H) vs (vs.map (Kb.kOf H))
  | [], _ => .nil
  | v :: r, h => by
    obtain ⟨s, hs⟩ := h v List.mem_cons_self
    have e := kOf_eq hs
    refine .cons ?_ (Pa.of_map fun u hu => h u (List.mem_cons_of_mem _ hu))
    rw [e]
    exact hs
theorem Pa.mem {H : Hp} : ∀ {vs : List V} {ss : List Sc}, Paired (IsSc H) vs ss → ∀ v ∈ vs, ∃ s, s ∈ ss ∧ IsSc H v s
  | _, _, .nil, v, hv => by cases hv
  | _, _, .cons h t, v, hv => by
    rcases List.mem_cons.mp hv with e | e
    · subst e
      exact ⟨_, List.mem_cons_self, h⟩
    · obtain ⟨s, m, q⟩ := Pa.mem t v e
      exact ⟨s, List.mem_cons_of_mem _ m, q⟩
/-- sorted pairs: what a call of sorted hands back, by pairs -/
theorem Pa.sorted {H : Hp} {us vs : List V} {ss : List Sc} (h : Paired (IsSc H) vs ss) (s1 : SrtO.Srtd (ltP (Kb.kOf H)) us) (s2 : SrtO.Stb (ltP (Kb.kOf H)) us vs) :
    ∃ ts : List Sc, Paired (IsSc H) us ts ∧ ts.Perm ss ∧ ts.Pairwise fun p q => p.1 ≤ q.1 := by
  refine ⟨us.map (Kb.kOf H), Pa.of_map fun v hv => ?_, ?_, ?_⟩
  · obtain ⟨s, _, q⟩ := Pa.mem h v (s2.perm.mem_iff.mp hv)
    exact ⟨s, q⟩
  · rw [← Pa.kOf h]
    exact s2.perm.map _
  · refine List.pairwise_map.mpr (s1.imp fun {x y} q => ?_)
    have z := SrtO.lexB_no.mp q
    omega
end Kb
namespace Kb
open PySem PySem.Spec PyProof.Rows L2
structure Br (mg : Str → Option Value) : Prop where
  reversed : mg "reversed" = none
theorem lc_rev {K : PySem.W.Frag} {a : Addr} {xs : List V} {g : TG} {tt : TT} {te : TE} {vs : List Nat} {σ : L2.St} {H1 : Hp} {D : Addr} {Qd : Hp → Prop} (Pv : Nat → Hp → Prop) (h0 : Pv 0 (upd H1 D (.lst []))) (hl : ∀ i H, i ≤ xs.length → Pv i H → SqL K H a xs)
    (hs : ∀ i x H, xs.reverse[i]? = some x → Pv i H → g x (wipe σ vs) H fun σ2 H2 => wipe σ2 vs = wipe σ vs ∧ tt σ2 H2 fun b H3 =>
      if b = true then te σ2 H3 fun y H4 => ∃ acc, H4 D = some (.lst acc) ∧ acc.length < sizeLine ∧ Pv (i + 1) (upd H4 D (.lst (acc ++ [y]))) else Pv (i + 1) H3) (hd : ∀ H, Pv xs.length H → Qd H) :
    ∃ W : Nat → Nat → Hp → Prop, (∃ m, W 0 m (upd H1 D (.lst []))) ∧ ∀ i m H, W i m H →
      ((Itv K a xs.length).stop i H ∧ Qd H) ∨ ((Itv K a xs.length).go i H ∧ ∃ Nx : Hp → Prop, (∀ H', Nx H' → ∃ m', m' < m ∧ W (i + 1) m' H') ∧ ∀ x H', (Itv K a xs.length).yld i H x H' → g x (wipe σ vs) H' fun σ2 H2 => wipe σ2 vs = wipe σ vs ∧ tt σ2 H2 fun b H3 =>
        if b = true then te σ2 H3 fun y H4 => ∃ acc, H4 D = some (.lst acc) ∧ acc.length < sizeLine ∧ Nx (upd H4 D (.lst (acc ++ [y]))) else Nx H3) := by
  refine ⟨fun i m H => m = xs.length - i ∧ i ≤ xs.length ∧ Pv i H, ⟨xs.length, by simp, Nat.zero_le _, h0⟩, ?_⟩
  rintro i m H ⟨rfl, hi, p⟩
  have q := hl i H hi p
  by_cases hlt : i < xs.length
  · have ix : xs.length - 1 - i < xs.length := by omega
    refine .inr ⟨⟨hlt, xs, xs[xs.length - 1 - i], q, List.getElem?_eq_getElem ix⟩, Pv (i + 1), fun H' p' => ⟨xs.length - (i + 1), by omega, rfl, hlt, p'⟩, fun x H' y => ?_⟩
    obtain ⟨e, y⟩ := y
    subst e
    refine hs i x _ ?_ p
    rw [List.getElem?_reverse hlt]
    exact y xs q
  · have e : i = xs.length := by omega
    subst e
    exact .inl ⟨Nat.le_refl _, hd H p⟩
end Kb

namespace Kb
open PySem PySem.Spec PyProof.Rows L2
/-! ### defs that print lists: they are called where no list is being printed -/
structure FnG (P : Program) (w : World) (K : PySem.W.Frag) (mg : Str → Option Value) (base : Heap) (k : Nat) (f : Addr) (fd : FuncData) (ps : List Str) (sp : Sp) : Prop where
  len : ∀ vs H Q E, sp vs H Q E → vs.length = ps.length
  run : ∀ (A : Around) (outer : List Env) (s : Shared) (H : Hp) (args : Args) (us : List Value) (vs : List V) (Q : VK) (E : XK), Room k A → A.guards = some [] → Env0 P w K mg base A outer s H → BindsTo s fd args (ps.zip us) → Vals vs us → sp vs H Q E →
    codeAny (model P w) A (.call (.ref f) args) (CR CX0 outer P w H s Q E) s
section
variable {P : Program} {w : World} {K : PySem.W.Frag} {mg : Str → Option Value} {base : Heap}
theorem okG {x qual : Str} {st : Stmt} {f : Addr} {fd : FuncData} {N ps : List Str} {k : Nat} {sp : Sp} (F : Fun K x qual st f fd) (S : FnScope N ps (defScope st)) (len : ∀ vs H Q E, sp vs H Q E → vs.length = ps.length)
    (hbody : ∀ (cdv : Value) (A : Around) (outer : List Env) (s : Shared) (H : Hp) (vs : List V) (Q : VK) (E : XK), Room k (A.deeper (envOfC qual (defScope st) s.heap.objs.size f cdv)) → A.guards = some [] → sp vs H Q E →
      ∃ t, PSs (cxOf CX0 P w K mg base N qual (defScope st) f cdv A outer s H E).nox (defBody st) t ∧ t { nx := fun _ H' => Q .non H', rt := Q } (start N vs) H) : FnG P w K mg base (k + 1) f fd ps sp := by
  obtain ⟨oc, od, kV, doc, pm, an, cdv, ct, osl, rfl, lk, code⟩ := F.ex
  refine ⟨len, fun A outer s H args us vs Q E room g e0 bnd r hs => ?_⟩
  have kin : K.In s.heap := e0.mod.kin.keeps fun b o z => (e0.bs b o z).1
  have nl : s.heap.NoLimit := e0.mod.nolimit.keeps fun b o z => (e0.bs b o z).1
  have hl := len _ _ _ _ hs
  have lc : ∀ y ∈ ps.zip us, (defScope st).names.lookup y.1 = some .local ∨ ((defScope st).names.lookup y.1 = some .cell ∧ ((cellsFrom (s.heap.objs.size + 1) (defScope st).names []).lookup y.1).isSome = true) := by
    rintro ⟨n, v⟩ hy
    exact (S.par n (List.of_mem_zip hy).1).imp id fun z => ⟨z, PySem.W.cellsFrom_some _ _ _ (.inl z)⟩
  refine codeAny_call_function room.depth (kin _ _ lk) rfl S.co S.gen rfl (PySem.W.codeRec_of kin code) (bnd _ _ _ _ (wpAny_newFunctionEnv_cells S.kind lc fun env ev s1 ic => ?_))
  subst ev
  refine ⟨nl.keeps ic.toInCall.keep, codeAny_func ?_⟩
  obtain ⟨t, ht, hq⟩ := hbody cdv A outer s H vs Q E (room.deeper _) g hs
  have I := inv_start (CX := CX0) (P := P) (E := E) S room.hd e0 hl r ic
  refine wpAny_mono (ht.nox.run [] s1 _ H _ I hq) (fun fl s2 z => ?_) fun _ _ z => z
  cases fl with
  | next =>
    obtain ⟨σ', H', J, y⟩ := z
    exact ⟨.non, H', J.os, J.bare, J.base, J.hok, rfl, y⟩
  | ret u =>
    obtain ⟨v, σ', H', J, rv, y⟩ := z
    exact ⟨v, H', J.os, J.bare, J.base, J.hok, rv, y⟩
  | brk =>
    obtain ⟨_, _, _, y⟩ := z
    exact y.elim
  | cont =>
    obtain ⟨_, _, _, y⟩ := z
    exact y.elim
structure DfG (P : Program) (w : World) (K : PySem.W.Frag) (mg : Str → Option Value) (base : Heap) (x : Str) (k : Nat) (ps : List Str) (sp : Sp) : Prop where
  ex : ∃ f fd, mg x = some (.ref f) ∧ PySem.W.keepIn K (.ref f) = true ∧ Binds K fd ps [] ∧ FnG P w K mg base k f fd ps sp
theorem FnG.lift {k k' : Nat} {f : Addr} {fd : FuncData} {ps : List Str} {sp : Sp} (F : FnG P w K mg base k f fd ps sp) (h : k ≤ k') : FnG P w K mg base k' f fd ps sp :=
  ⟨F.len, fun A outer s H args us vs Q E hr => F.run A outer s H args us vs Q E (hr.mono h)⟩
end
theorem pe_dg {X : Cx} {x : Str} {k k' : Nat} {ps : List Str} {sp : Sp} {p pos : Pos} {e : Expr} {es : List Expr} {t : TA} (D : DfG X.prog X.w X.K X.mg X.base x k ps sp) (hr : Room k' X.A) (g : X.A.guards = some []) (ha : PA X (e :: es) t) (hk : k ≤ k' := by decide) (hg : Gl X x := by rfl)
    (hdb : (x == ("__debug__" : Str)) = false := by decide) (he : starEach (e :: es) X.env = (false, eval e X.env) :: starEach es X.env := by rfl) (hpl : (backTo pos (starEach es X.env)).any (·.1) = false := by rfl) :
    PE X (.Call (.Name x p) (e :: es) [] pos) (tCall sp [] E0 t) := by
  obtain ⟨f, fd, hm, hkp, hb, F⟩ := D.ex
  refine ⟨fun pins s σ H Q I h => wpAny_Call_Name_kw (ld_glob I hg hm ?_ hdb)⟩
  refine PySem.W.callWith_K (h₀ := X.base) I.ok.mod.kin hkp (thn (ha.run pos pins s σ H _ I h) fun us s1 ⟨vs, H1, I1, r, q⟩ => ⟨I1.kIn, ?_⟩) he hpl
  have q' : sp vs H1 Q E0 := by
    rw [← List.append_nil vs]
    exact q
  have hl : (us ++ []).length = ps.length := by
    rw [List.append_nil, ← r.length]
    exact F.len _ _ _ _ q'
  have bd := hb s1 us I1.kIn hl
  rw [List.append_nil] at bd
  refine wpAny_call (codeAny_mono (F.run X.A X.stack s1 H1 ⟨us, []⟩ us vs Q E0 (hr.mono hk) g I1.env0 bd r q') fun y s2 z => ?_)
  cases y with
  | error er => exact z.elim
  | ok fl =>
    cases fl with
    | ret u => exact I1.after z
    | next => exact z.elim
    | brk => exact z.elim
    | cont => exact z.elim
/-! ### repr of data of any depth -/
theorem cr_reprD {X : Cx} (g : X.A.guards = some []) (hu : X.A.units + 64 < cLine) : CallR X (.builtin "repr") (fun xs H Q => ∃ (a : Addr) (d : PyData), xs = [.ref a] ∧ Dp X.K H (.ref a) d ∧ d.showable = true ∧ d.hasDict = false ∧ d.depth ≤ 60 ∧ d.shown.length ≤ sizeLine ∧ Q (.str d.shown) H) := by
  intro pins s σ H xs us Q I r h
  obtain ⟨a, d, rfl, hd, h1, h2, h3, h4, q⟩ := h
  rw [Vals.ref1 r]
  obtain ⟨as, hr⟩ := Dp.reads I d _ _ hd rfl
  exact PySem.repr_of_reads' hr h1 (fun z => by rw [h2] at z; cases z) g (by omega) (fun _ _ z => z) (fun h' u tk k => ⟨.str d.shown, H, I.kept (t' := tk) k, ⟨u, rfl⟩, q⟩) h4
/-! ### the law's own call -/
section
variable {P : Program} {w : World} {K : PySem.W.Frag} {mg mb : Str → Option Value}
theorem law_run {k : Nat} {fa a : Addr} {fd : FuncData} {x : Str} {sp : Sp} {s1 : Shared} {vs : List Value} {ns : List Int} (kin : K.In s1.heap) (hns : s1.heap.Ns mainGlobals mg) (hb : s1.heap.Ns builtinsNs mb) (hbb : ∀ x : Str, x ≠ "__name__" → mb x = bootBuiltins x)
    (hlim : s1.heap.NoLimit) (hg : s1.gens = #[]) (ha : s1.heap.get? a = some { cls := .type "list", data := .seq vs.toArray }) (hia : IntsAre vs ns) (hl : ns.length ≤ sizeLine) (room : Room k callerA)
    (F : ∀ base : Heap, K.In base → base.Ns mainGlobals mg → FnG P w K mg base k fa fd [x] sp) (bnd : ∀ (s : Shared) (u : Value), BindsTo s fd ⟨[u], []⟩ [(x, u)])
    (hsp : ∀ H : Hp, Only H → SqL K H a (ns.map V.int) → sp [.ref a] H (fun v _ => v = .bl true) E0) :
    codeAny (model P w) callerA (.call (.ref fa) ⟨[.ref a], []⟩) (fun r s' => r = .ok (.ret (.bool true)) ∧ OldK s1.heap s'.heap ∧ s'.os = s1.os ∧ AllBare s'.gens) s1 := by
  have go : ∀ H : Hp, Only H → SqL K H a (ns.map V.int) → HOk P w H s1.heap → (∀ b, b ≠ a → H b = none) → (H a = none ∨ K.lookup a = none) →
      codeAny (model P w) callerA (.call (.ref fa) ⟨[.ref a], []⟩) (fun r s' => r = .ok (.ret (.bool true)) ∧ OldK s1.heap s'.heap ∧ s'.os = s1.os ∧ AllBare s'.gens) s1 := by
    intro H only hS ok off aK
    have dct : ∀ {b : Addr} {o : Obj} {es : Array DictEntry} {ep : Nat}, s1.heap.get? b = some o → o.data = .dict es ep → H b = none := by
      intro b o es ep e d
      refine off b fun z => ?_
      subst z
      rw [ha] at e
      cases e
      cases (show Data.seq vs.toArray _ = Data.dict es ep from d)
    have nsOf : ∀ {b : Addr} {m : Str → Option Value}, s1.heap.Ns b m → (hidT s1.heap H).Ns b m := by
      rintro b m ⟨o, es, ep, e, d, r⟩
      exact ⟨o, es, ep, hidT_get e (dct e d), d, r⟩
    have kin2 : K.In (hidT s1.heap H) := by
      intro b o e
      refine hidT_get (kin b o e) ?_
      by_cases z : b = a
      · subst z
        rcases aK with y | y
        · exact y
        · rw [y] at e
          cases e
      · exact off b z
    have lim2 : (hidT s1.heap H).NoLimit := by
      obtain ⟨mc, y1, y2⟩ := hlim
      exact ⟨mc, nsOf y1, y2⟩
    have env : Env0 P w K mg (hidT s1.heap H) callerA [] s1 H :=
      { frames := rfl, mod := ⟨kin2, nsOf hns, ⟨mb, nsOf hb, hbb⟩, lim2⟩, bs := fun b o e => of_hidT e, bsz := Nat.le_of_eq (hidT_size _ _), funs := trivial, frf := fun b z => (by cases (show b ∈ ([] : List Addr) from z)), hok := ok, bare := .of_eq hg }
    refine codeAny_mono ((F _ kin2 (nsOf hns)).run callerA [] s1 H ⟨[.ref a], []⟩ [.ref a] [.ref a] _ _ room rfl env (bnd s1 (.ref a)) (.cons rfl .nil) (hsp H only hS)) fun r s2 z => ?_
    cases r with
    | error e => exact z.elim
    | ok fl =>
      cases fl with
      | next => exact z.elim
      | brk => exact z.elim
      | cont => exact z.elim
      | ret u =>
        obtain ⟨v, H2, os, bare, un, ok2, rv, y⟩ := z
        have y' : v = .bl true := y
        subst y'
        obtain rfl : u = Value.bool true := rv
        refine ⟨rfl, OldK.of_keep fun b o e => ?_, os, bare⟩
        rcases only b with n | ⟨ob, xs, n⟩
        · exact un.keep b o e n (fun q => by cases (show b ∈ ([] : List Addr) from q)) (by simp)
        · obtain ⟨g1, _⟩ := ok b _ n
          obtain ⟨g2, _⟩ := ok2 b _ (un.frzs b ob _ n)
          exact g2.trans (g1.symm.trans e)
  have rv : Vals (ns.map V.int) vs := vals_ints hia
  cases hk : K.lookup a with
  | some o =>
    have e := kin a o hk
    rw [ha] at e
    cases e
    refine go (fun _ => none) (fun _ => .inl rfl) (.inr ⟨_, vs.toArray, _, hk, rfl, rfl, rfl, ?_, by simpa using rv⟩) (fun b u z => by cases (show (none : Option HO) = some u from z)) (fun _ _ => rfl) (.inl rfl)
    rw [List.size_toArray, hia.length]
    exact hl
  | none =>
    have at_a : (fun b => if b = a then some (HO.frz { cls := .type "list", data := .seq vs.toArray } (.lst (ns.map V.int))) else none : Hp) a = some (.frz { cls := .type "list", data := .seq vs.toArray } (.lst (ns.map V.int))) := if_pos rfl
    refine go (fun b => if b = a then some (.frz { cls := .type "list", data := .seq vs.toArray } (.lst (ns.map V.int))) else none) (fun b => ?_) (.inl (.inr ⟨_, at_a⟩)) (fun b u z => ?_) (fun b z => if_neg z) (.inr hk)
    · by_cases z : b = a
      · exact .inr ⟨_, _, if_pos z⟩
      · exact .inl (if_neg z)
    · by_cases y : b = a
      · subst y
        cases at_a.symm.trans z
        exact ⟨ha, by rw [List.length_map]; exact hl, vs, _, rv, ha⟩
      · cases (if_neg y).symm.trans z
theorem walk_g {l : PySem.W.OpenLaw} {n k : Nat} {q : Program} {loose : List Str} {XP : (Str → Option Value) → Heap → Prop} {YP : World → Heap → Prop} {d : DefRec} {K : Params → PySem.W.Frag} {sp : World → Sp} {x : Str} (hn : l.most = some n) (hn2 : n ≤ sizeLine) (hdf : d.params.defaults = []) (room : Room k callerA)
    (hY : ∀ (w : World) (h : Heap), YP w h → (K w.params).In h)
    (F : ∀ (w : World) (mg : Str → Option Value) (fa : Addr) (h : Heap), (K w.params).In h → h.Ns mainGlobals mg → mg d.name = some (.ref fa) →
      ∃ fd : FuncData, (∀ (s : Shared) (u : Value), BindsTo s fd ⟨[u], []⟩ [(x, u)]) ∧ ∀ base : Heap, (K w.params).In base → base.Ns mainGlobals mg → FnG l.prog w (K w.params) mg base k fa fd [x] (sp w))
    (hsp : ∀ (w : World) (H : Hp) (a : Addr) (ns : List Int), ns.length ≤ n → Only H → SqL (K w.params) H a (ns.map V.int) → sp w [.ref a] H (fun v _ => v = .bl true) E0) :
    PySem.W.WalkO q loose XP YP l.row.toRowW d [] (fun f vs => PySem.call f vs) := by
  refine Att.attach_call hn hdf fun w s0 s1 mg mb fa o pm cd doc a vs ns G Y ho hd code hmg obj hia hlen gens => ?_
  have kin := hY w _ Y
  obtain ⟨fd, bnd, hF⟩ := F w mg fa _ kin G.T.g hmg
  exact law_run kin G.T.g G.T.b G.T.builtins G.T.nolimit gens obj hia (Nat.le_trans hlen hn2) room hF bnd fun H only hS => hsp w H a ns hlen only hS
end
end Kb

namespace Kb
open PySem PySem.Spec PyProof.Rows L2
/-! ### the mathematics of scans -/
def lo (s : Sc) : Int := if s.2 < s.1 then s.2 else s.1
def hi (s : Sc) : Int := if s.2 > s.1 then s.2 else s.1
def Nn (s : Sc) : Prop := 0 ≤ s.1 ∧ 0 ≤ s.2
def Apart (s t : Sc) : Prop := hi s < lo t ∨ hi t < lo s
structure Good (ss : List Sc) : Prop where
  nn : ∀ s ∈ ss, Nn s
  dis : ss.Pairwise Apart
  few : ss.length ≤ 1000
def spn (s : Sc) : Sc := (lo s, hi s)
theorem spn_le (s : Sc) : (spn s).1 ≤ (spn s).2 := by
  show lo s ≤ hi s
  unfold lo hi
  split <;> split <;> omega
theorem Good.next {ss zs : List Sc} (G : Good ss) (p : zs.Perm (ss.map spn)) (o : zs.Pairwise fun a b => a.1 ≤ b.1) {i : Nat} {x y : Sc} (hx : zs[i]? = some x) (hy : zs[i + 1]? = some y) : x.2 < y.1 := by
  have d1 : (ss.map spn).Pairwise fun a b => a.2 < b.1 ∨ b.2 < a.1 := List.pairwise_map.mpr (G.dis.imp fun h => h)
  have d2 : zs.Pairwise fun a b => a.2 < b.1 ∨ b.2 < a.1 := (p.pairwise_iff (R := fun a b : Sc => a.2 < b.1 ∨ b.2 < a.1) (fun {a b} h => h.symm)).mpr d1
  obtain ⟨l1, rfl⟩ := List.getElem?_eq_some_iff.mp hx
  obtain ⟨l2, rfl⟩ := List.getElem?_eq_some_iff.mp hy
  have a := List.pairwise_iff_getElem.mp d2 i (i + 1) l1 l2 (Nat.lt_succ_self i)
  have b := List.pairwise_iff_getElem.mp o i (i + 1) l1 l2 (Nat.lt_succ_self i)
  have w : ∀ z ∈ zs, z.1 ≤ z.2 := fun z hz => by
    obtain ⟨s, _, rfl⟩ := List.mem_map.mp (p.mem_iff.mp hz)
    exact spn_le s
  have c := w _ (List.getElem_mem l2)
  have d := w _ (List.getElem_mem l1)
  omega
def slen (s : Sc) : Int := (if s.2 - s.1 < 0 then -(s.2 - s.1) else s.2 - s.1) + 1
/-! ### promises -/
def spIsInteger : Sp := fun vs H Q _ => ∃ i : Int, vs = [.int i] ∧ RetV (.bl true) H Q
def spFromZero : Sp := fun vs H Q _ => ∃ i : Int, vs = [.int i] ∧ 0 ≤ i ∧ RetV (.bl true) H Q
def spIsScan : Sp := fun vs H Q _ => ∃ (v : V) (s : Sc), vs = [v] ∧ IsSc H v s ∧ Nn s ∧ RetV (.bl true) H Q
def spIsList : Sp := fun vs H Q _ => ∃ (a : Addr) (ss : List Sc), vs = [.ref a] ∧ Scs H a ss ∧ Good ss ∧ RetV (.bl true) H Q
def spCheckList : Sp := fun vs H Q _ => ∃ (a : Addr) (ss : List Sc), vs = [.ref a] ∧ Scs H a ss ∧ Good ss ∧ RetV .non H Q
def spCheckAddress : Sp := fun vs H Q _ => ∃ i : Int, vs = [.int i] ∧ 0 ≤ i ∧ RetV .non H Q
def spCheckIndex : Sp := fun vs H Q _ => ∃ i n : Int, vs = [.int i, .int n] ∧ 0 ≤ i ∧ i < n ∧ RetV .non H Q
/-! ### the addresses of scans, one by one -/
def stp (s : Sc) : Int := if s.1 ≤ s.2 then 1 else -1
def rd (s : Sc) : List Int := (List.range (slen s).toNat).map fun (m : Nat) => s.1 + (m : Int) * stp s
def rdL : List Sc → List Int
  | [] => []
  | s :: r => rd s ++ rdL r
def psum : List Sc → Int
  | [] => 0
  | s :: r => slen s + psum r
def absI (z : Int) : Int := if z < 0 then -z else z
def plc : List Sc → Int → Int → V
  | [], _, _ => .non
  | s :: r, acc, a => if lo s ≤ a ∧ a ≤ hi s then .int (acc + absI (a - s.1)) else plc r (acc + slen s) a
theorem slen_pos (s : Sc) : 1 ≤ slen s := by
  unfold slen
  split <;> omega
theorem rd_len (s : Sc) : (rd s).length = (slen s).toNat := by
  unfold rd
  rw [List.length_map, List.length_range]
theorem rd_get {s : Sc} {i : Nat} (h : i < (slen s).toNat) : (rd s)[i]? = some (if s.1 ≤ s.2 then s.1 + i else s.1 - i) := by
  unfold rd stp
  rw [List.getElem?_map, List.getElem?_range h]
  show some (s.1 + (i : Int) * (if s.1 ≤ s.2 then 1 else -1)) = some _
  congr 1
  split <;> omega
theorem slen_eq (s : Sc) : slen s = hi s - lo s + 1 := by
  unfold slen hi lo
  split <;> split <;> split <;> omega
theorem mem_rd {s : Sc} {a : Int} : a ∈ rd s ↔ lo s ≤ a ∧ a ≤ hi s := by
  constructor
  · intro h
    obtain ⟨i, hi⟩ := List.mem_iff_getElem?.mp h
    have hl : i < (slen s).toNat := by
      rw [← rd_len]
      exact (List.getElem?_eq_some_iff.mp hi).1
    rw [rd_get hl] at hi
    have e := Option.some.inj hi
    have z := slen_eq s
    have p := slen_pos s
    unfold lo Kb.hi at *
    revert e z
    split <;> split <;> split <;> intro e z <;> omega
  · rintro ⟨h1, h2⟩
    have z := slen_eq s
    have p := slen_pos s
    have hl : (if s.1 ≤ s.2 then a - s.1 else s.1 - a).toNat < (slen s).toNat := by
      unfold lo Kb.hi at *
      revert z h1 h2
      split <;> split <;> split <;> intros <;> omega
    refine List.mem_iff_getElem?.mpr ⟨_, (rd_get hl).trans ?_⟩
    congr 1
    unfold lo Kb.hi at *
    revert h1 h2
    split <;> split <;> split <;> intros <;> omega
theorem rdL_app (a b : List Sc) : rdL (a ++ b) = rdL a ++ rdL b := by
  induction a with
  | nil => rfl
  | cons s r ih =>
    show rd s ++ rdL (r ++ b) = (rd s ++ rdL r) ++ rdL b
    rw [ih, List.append_assoc]
theorem psum_app (a b : List Sc) : psum (a ++ b) = psum a + psum b := by
  induction a with
  | nil =>
    show psum b = 0 + psum b
    omega
  | cons s r ih =>
    show slen s + psum (r ++ b) = slen s + psum r + psum b
    rw [ih]
    omega
theorem rdL_len (ss : List Sc) : ((rdL ss).length : Int) = psum ss := by
  induction ss with
  | nil => rfl
  | cons s r ih =>
    show (((rd s ++ rdL r).length : Nat) : Int) = slen s + psum r
    rw [List.length_append, rd_len]
    have := slen_pos s
    omega
theorem drop_at {ss : List Sc} {j : Nat} {s : Sc} (h : ss[j]? = some s) : ss.drop j = s :: ss.drop (j + 1) := by
  obtain ⟨l, rfl⟩ := List.getElem?_eq_some_iff.mp h
  exact List.drop_eq_getElem_cons l
theorem psum_snoc {ss : List Sc} {j : Nat} {s : Sc} (h : ss[j]? = some s) : psum (ss.take (j + 1)) = psum (ss.take j) + slen s := by
  rw [List.take_add_one, h, psum_app]
  show _ + (slen s + 0) = _
  omega
theorem mem_rdL {ss : List Sc} {a : Int} : a ∈ rdL ss ↔ ∃ s ∈ ss, lo s ≤ a ∧ a ≤ hi s := by
  induction ss with
  | nil =>
    constructor
    · intro h
      cases h
    · rintro ⟨s, h, _⟩
      cases h
  | cons s r ih =>
    show a ∈ rd s ++ rdL r ↔ _
    rw [List.mem_append, mem_rd, ih]
    constructor
    · rintro (h | ⟨t, ht, h⟩)
      · exact ⟨s, List.mem_cons_self, h⟩
      · exact ⟨t, List.mem_cons_of_mem _ ht, h⟩
    · rintro ⟨t, ht, h⟩
      rcases List.mem_cons.mp ht with e | e
      · subst e
        exact .inl h
      · exact .inr ⟨t, e, h⟩
theorem plc_at : ∀ {ss : List Sc} (acc : Int) {j : Nat} {a : Int}, ss.Pairwise Apart → (rdL ss)[j]? = some a → plc ss acc a = .int (acc + j)
  | [], acc, j, a, _, h => by simp [rdL] at h
  | s :: r, acc, j, a, d, h => by
    have h' : (rd s ++ rdL r)[j]? = some a := h
    have p := slen_pos s
    obtain ⟨d1, d2⟩ := List.pairwise_cons.mp d
    show (if lo s ≤ a ∧ a ≤ hi s then V.int (acc + absI (a - s.1)) else plc r (acc + slen s) a) = _
    by_cases hj : j < (rd s).length
    · rw [List.getElem?_append_left hj] at h'
      have m := mem_rd.mp (List.mem_of_getElem? h')
      rw [if_pos m]
      rw [rd_get (by rw [← rd_len]; exact hj)] at h'
      have e := Option.some.inj h'
      congr 2
      unfold absI
      revert e
      split <;> split <;> intro e <;> omega
    · rw [List.getElem?_append_right (by omega)] at h'
      have m := mem_rdL.mp (List.mem_of_getElem? h')
      obtain ⟨t, ht, m1, m2⟩ := m
      have ap := d1 t ht
      rw [if_neg (by unfold Apart at ap; omega), plc_at (acc + slen s) d2 h']
      congr 1
      rw [rd_len] at hj ⊢
      omega
theorem plc_no : ∀ {ss : List Sc} (acc : Int) {a : Int}, a ∉ rdL ss → plc ss acc a = .non
  | [], acc, a, _ => rfl
  | s :: r, acc, a, h => by
    have h' : a ∉ rd s ++ rdL r := h
    rw [List.mem_append, mem_rd] at h'
    show (if lo s ≤ a ∧ a ≤ hi s then V.int (acc + absI (a - s.1)) else plc r (acc + slen s) a) = _
    rw [if_neg (fun z => h' (.inl z)), plc_no _ fun z => h' (.inr z)]
/-! ### promises -/
def spScanLength : Sp := fun vs H Q _ => ∃ (v : V) (s : Sc), vs = [v] ∧ IsSc H v s ∧ RetV (.int (slen s)) H Q
def spAddressIn : Sp := fun vs H Q _ => ∃ (v : V) (s : Sc) (p : Int), vs = [v, .int p] ∧ IsSc H v s ∧ RetV (.int (if s.1 ≤ s.2 then s.1 + p else s.1 - p)) H Q
def spPlaceIn : Sp := fun vs H Q _ => ∃ (v : V) (s : Sc) (a : Int), vs = [v, .int a] ∧ IsSc H v s ∧ RetV (if lo s ≤ a ∧ a ≤ hi s then .int (absI (a - s.1)) else .non) H Q
def spCount : Sp := fun vs H Q _ => ∃ (a : Addr) (ss : List Sc), vs = [.ref a] ∧ Scs H a ss ∧ Good ss ∧ RetV (.int (psum ss)) H Q
def spPlaceOf : Sp := fun vs H Q _ => ∃ (a : Addr) (ss : List Sc) (x : Int), vs = [.ref a, .int x] ∧ Scs H a ss ∧ Good ss ∧ 0 ≤ x ∧ RetV (plc ss 0 x) H Q
def spNth : Sp := fun vs H Q _ => ∃ (a : Addr) (ss : List Sc) (k : Nat) (x : Int), vs = [.ref a, .int k] ∧ Scs H a ss ∧ Good ss ∧ (rdL ss)[k]? = some x ∧ RetV (.int x) H Q
/-! ### data of depth two -/
def pdS (s : Sc) : PyData := .tuple [.int s.1, .int s.2]
def pdL (ss : List Sc) : PyData := .list (ss.map pdS)
def pdI (ns : List Int) : PyData := .list (ns.map .int)
theorem shaped_L (ss : List Sc) : SeqAt.shaped (pdL ss) = true := by
  have h1 : PyData.canLayAll0 (ss.map pdS) = true := by
    induction ss with
    | nil => rfl
    | cons s r ih =>
      show (PyData.canLay0 (pdS s) && PyData.canLayAll0 (r.map pdS)) = true
      rw [ih]
      rfl
  have h2 : PyData.depthAll (ss.map pdS) ≤ 1 := by
    induction ss with
    | nil => exact Nat.zero_le _
    | cons s r ih =>
      show max (PyData.depth (pdS s)) (PyData.depthAll (r.map pdS)) ≤ 1
      have : PyData.depth (pdS s) = 1 := rfl
      have := ih (by
        have z : (PyData.canLay0 (pdS s) && PyData.canLayAll0 (r.map pdS)) = true := h1
        exact (Bool.and_eq_true_iff.mp z).2)
      omega
  show (PyData.canLayAll0 (ss.map pdS) && decide (PyData.depthAll (ss.map pdS) + 1 ≤ 64)) = true
  rw [h1, decide_eq_true (by omega)]
  rfl
theorem shaped_I (ns : List Int) : SeqAt.shaped (pdI ns) = true := by
  have h1 : PyData.canLayAll0 (ns.map PyData.int) = true := by
    induction ns with
    | nil => rfl
    | cons s r ih =>
      show (true && PyData.canLayAll0 (r.map PyData.int)) = true
      rw [ih]
      rfl
  have h2 : PyData.depthAll (ns.map PyData.int) = 0 := by
    clear h1
    induction ns with
    | nil => rfl
    | cons s r ih =>
      show max 0 (PyData.depthAll (r.map PyData.int)) = 0
      omega
  show (PyData.canLayAll0 (ns.map PyData.int) && decide (PyData.depthAll (ns.map PyData.int) + 1 ≤ 64)) = true
  rw [h1, h2]
  rfl
theorem eqv_S (s t : Sc) : PyData.eqv (pdS s) (pdS t) = decide (s = t) := by
  obtain ⟨a, b⟩ := s
  obtain ⟨c, d⟩ := t
  show ((a == c) && ((b == d) && true)) = _
  rw [Bool.eq_iff_iff]
  simp
theorem eqv_L : ∀ ss ts : List Sc, PyData.eqv (pdL ss) (pdL ts) = decide (ss = ts)
  | [], [] => rfl
  | [], _ :: _ => rfl
  | _ :: _, [] => rfl
  | s :: r, t :: q => by
    show (PyData.eqv (pdS s) (pdS t) && PyData.eqv (pdL r) (pdL q)) = _
    rw [eqv_S, eqv_L r q, Bool.eq_iff_iff]
    simp
theorem eqv_I : ∀ ns ms : List Int, PyData.eqv (pdI ns) (pdI ms) = decide (ns = ms)
  | [], [] => rfl
  | [], _ :: _ => rfl
  | _ :: _, [] => rfl
  | s :: r, t :: q => by
    show ((s == t) && PyData.eqv (pdI r) (pdI q)) = _
    rw [eqv_I r q, Bool.eq_iff_iff]
    simp
theorem Scs.dp {K : PySem.W.Frag} {H : Hp} {a : Addr} {ss : List Sc} (h : Scs H a ss) : Dp K H (.ref a) (pdL ss) := by
  obtain ⟨vs, ha, pa⟩ := h
  have all : ∀ {vs : List V} {ss : List Sc}, Paired (IsSc H) vs ss → DpAll K H vs (ss.map pdS) := by
    intro vs ss p
    induction p with
    | nil => exact .nil
    | cons h t ih =>
      obtain ⟨t0, rfl, ht⟩ := h
      exact .cons (.tup (SqT.of ht) (.cons (.int _) (.cons (.int _) .nil))) ih
  exact .lst (SqL.of ha) (all pa)
theorem dp_ints {K : PySem.W.Frag} {H : Hp} {a : Addr} {ns : List Int} (h : H a = some (.lst (ns.map V.int))) : Dp K H (.ref a) (pdI ns) := by
  have all : ∀ ns : List Int, DpAll K H (ns.map V.int) (ns.map PyData.int) := by
    intro ns
    induction ns with
    | nil => exact .nil
    | cons n r ih => exact .cons (.int n) ih
  exact .lst (SqL.of h) (all ns)
/-! ### promises -/
def RetL (xs : List V) (H : Hp) (Q : VK) : Prop := ∀ p H', H p = none → Ex H H' → H' p = some (.lst xs) → Q (.ref p) H'
def spBag : Sp := fun vs H Q _ => ∃ c : Int, vs = [.int c] ∧ ∀ b H', H b = none → Ex H H' → H' b = some (bagO b) → Q (.ref b) H'
def spBag0 : Sp := fun vs H Q _ => ∃ c : Int, vs = [.int c] ∧ ∀ b H' x y z, H b = none → Ex H H' → H' b = some (.lst [.int x, .int y, .int z]) → Q (.ref b) H'
def spPick : Sp := fun vs H Q _ => ∃ (b : Addr) (many : Int), vs = [.ref b, .int many] ∧ H b = some (bagO b) ∧ 1 ≤ many ∧ many ≤ 10 ^ 100 ∧ ∀ n H', 0 ≤ n → n < many → Ex H H' → Q (.int n) H'
def spPick0 : Sp := fun vs H Q _ => ∃ (b : Addr) (many x c t : Int), vs = [.ref b, .int many] ∧ H b = some (.lst [.int x, .int c, .int t]) ∧ 1 ≤ many ∧ many ≤ 10 ^ 100 ∧
  ∀ n H' x' t', 0 ≤ n → n < many → (∀ a o, a ≠ b → H a = some o → H' a = some o) → H' b = some (.lst [.int x', .int c, .int t']) → Q (.int n) H'
def spReads : Sp := fun vs H Q _ => ∃ (a : Addr) (ss : List Sc), vs = [.ref a] ∧ Scs H a ss ∧ (∀ s ∈ ss, Nn s ∧ s.1 ≤ 10000 ∧ s.2 ≤ 10000) ∧ ss.length ≤ 1000 ∧ RetL ((rdL ss).map V.int) H Q
def spMixed : Sp := fun vs H Q _ => ∃ (b a : Addr) (ss : List Sc), vs = [.ref b, .ref a] ∧ H b = some (bagO b) ∧ Scs H a ss ∧ ss.length ≤ 1000 ∧ ∀ p H' ts, H p = none → Ex H H' → Scs H' p ts → ts.Perm ss → Q (.ref p) H'
def spList : Sp := fun vs H Q _ => ∃ (b : Addr) (many wide : Int), vs = [.ref b, .int many, .int wide] ∧ H b = some (bagO b) ∧ 1 ≤ many ∧ many ≤ 50 ∧ 1 ≤ wide ∧ wide ≤ 10 ^ 100 ∧
  ∀ p H' ss, H p = none → Ex H H' → Scs H' p ss → Good ss → (∀ s ∈ ss, s.1 < wide ∧ s.2 < wide) → ss.length ≤ 60 → Q (.ref p) H'
theorem nox_w {CX : CXT} {P : Program} {w : World} {K : PySem.W.Frag} {mg : Str → Option Value} {base : Heap} {N : List Str} {q : Str} {sc : Scope} {f : Addr} {cd : Value} {A : Around} {outer : List Env} {s : Shared} {H : Hp} {E : XK} : (cxOf CX P w K mg base N q sc f cd A outer s H E).nox.w = w := rfl
theorem ixq {i : Int} {n : Nat} (h0 : 0 ≤ i) (h1 : i < n) : seqIndex? i n = some i.toNat := seqIndex_of h0 h1
theorem perm_pick {α : Type} {l f ss : List α} {i : Nat} {s : α} (h : (l ++ f).Perm ss) (e : l[i]? = some s) : (l.eraseIdx i ++ (f ++ [s])).Perm ss := by
  obtain ⟨hl, rfl⟩ := List.getElem?_eq_some_iff.mp e
  refine List.Perm.trans ?_ h
  have h1 : (l.eraseIdx i ++ (f ++ [l[i]])).Perm ([l[i]] ++ (l.eraseIdx i ++ f)) := by
    rw [← List.append_assoc]
    exact List.perm_append_comm
  refine h1.trans ?_
  rw [← List.append_assoc]
  refine List.Perm.append_right f ?_
  rw [List.eraseIdx_eq_take_drop_succ]
  have h2 : l = l.take i ++ (l[i] :: l.drop (i + 1)) := by
    rw [← List.drop_eq_getElem_cons hl, List.take_append_drop]
  refine List.Perm.trans ?_ (List.Perm.of_eq h2.symm)
  show (l[i] :: (l.take i ++ l.drop (i + 1))).Perm (l.take i ++ l[i] :: l.drop (i + 1))
  exact List.perm_middle.symm
theorem Good.perm {fs ts : List Sc} (n : ∀ s ∈ fs, 0 ≤ lo s) (d : fs.Pairwise fun s t => hi s < lo t) (few : fs.length ≤ 1000) (p : ts.Perm fs) : Good ts := by
  refine ⟨fun s hs => ?_, (p.pairwise_iff (R := Apart) (fun {a b} h => h.symm)).mpr (d.imp fun h => .inl h), by rw [p.length_eq]; exact few⟩
  have z := n s (p.mem_iff.mp hs)
  unfold lo at z
  unfold Nn
  revert z
  split <;> intro z <;> omega
theorem top_of {s : Sc} {w : Int} (h : hi s < w) : s.1 < w ∧ s.2 < w := by
  unfold hi at h
  revert h
  split <;> intro h <;> omega
theorem first_at {a : Int} : ∀ {l : List Int}, a ∈ l → ∃ j : Nat, l[j]? = some a ∧ ∀ m : Nat, m < j → l[m]? ≠ some a
  | [], h => by cases h
  | b :: r, h => by
    by_cases e : b = a
    · exact ⟨0, by rw [e]; rfl, fun m hm => absurd hm (Nat.not_lt_zero m)⟩
    · have h' : a ∈ r := by
        rcases List.mem_cons.mp h with z | z
        · exact absurd z.symm e
        · exact z
      obtain ⟨j, h1, h2⟩ := first_at h'
      refine ⟨j + 1, h1, fun m hm => ?_⟩
      cases m with
      | zero =>
        intro z
        exact e (Option.some.inj z)
      | succ m => exact h2 m (by omega)
theorem flat_ints (ns : List Int) : (ns.map V.int).all flatV = true := by
  induction ns with
  | nil => rfl
  | cons n r ih => exact ih
theorem inV_ints (ns : List Int) (a : Int) : inV (.int a) (ns.map V.int) = decide (a ∈ ns) := by
  induction ns with
  | nil => rfl
  | cons n r ih =>
    show ((n == a) || inV (.int a) (r.map V.int)) = _
    rw [ih, Bool.eq_iff_iff, Bool.or_eq_true, beq_iff_eq, decide_eq_true_eq, decide_eq_true_eq, List.mem_cons]
    exact ⟨fun h => h.imp Eq.symm id, fun h => h.imp Eq.symm id⟩
theorem iteSame {x : V} {A B : Prop} (h : B) : if (!decide (x = x)) = true then A else B := by
  rw [decide_eq_true rfl]
  exact iteF h
theorem Good.rev {ss : List Sc} (G : Good ss) : Good ss.reverse := by
  refine ⟨fun s hs => G.nn s (List.mem_reverse.mp hs), ?_, by rw [List.length_reverse]; exact G.few⟩
  exact ((List.reverse_perm ss).pairwise_iff (R := Apart) (fun {a b} h => h.symm)).mpr G.dis
def Small (ss : List Sc) : Prop := Good ss ∧ ∀ s ∈ ss, s.1 < 40 ∧ s.2 < 40
theorem Small.rev {ss : List Sc} (h : Small ss) : Small ss.reverse := ⟨h.1.rev, fun s hs => h.2 s (List.mem_reverse.mp hs)⟩
theorem Small.bd {ss : List Sc} (h : Small ss) : ∀ s ∈ ss, Nn s ∧ s.1 ≤ 10000 ∧ s.2 ≤ 10000 := fun s hs => ⟨h.1.nn s hs, by have := h.2 s hs; omega, by have := h.2 s hs; omega⟩
theorem Small.len {ss : List Sc} (h : Small ss) : (rdL ss).length ≤ 1000 * 40 := by
  have few := h.1.few
  have g : ∀ l : List Sc, (∀ s ∈ l, s ∈ ss) → (rdL l).length ≤ l.length * 40 := by
    intro l
    induction l with
    | nil => intro _; exact Nat.le_refl _
    | cons s r ih =>
      intro hm
      have z := h.2 s (hm s List.mem_cons_self)
      have y := h.1.nn s (hm s List.mem_cons_self)
      have i := ih fun t ht => hm t (List.mem_cons_of_mem _ ht)
      show (rd s ++ rdL r).length ≤ (r.length + 1) * 40
      rw [List.length_append, rd_len]
      have sl : slen s ≤ 40 := by
        obtain ⟨y1, y2⟩ := y
        unfold slen
        split <;> omega
      omega
  have := g ss fun _ h => h
  have := Nat.mul_le_mul_right 40 few
  omega
def spRight : Sp := fun vs H Q _ => ∃ (a : Addr) (ss : List Sc), vs = [.ref a] ∧ Scs H a ss ∧ Small ss ∧ RetV (.bl true) H Q
def spLaw (K : PySem.W.Frag) : Sp := fun vs H Q _ => ∃ (a : Addr) (ns : List Int), vs = [.ref a] ∧ SqL K H a (ns.map V.int) ∧ ns.length ≤ 63 ∧ ∀ H', Q (.bl true) H'
theorem Good.nil : Good [] := ⟨fun s hs => (by cases hs), List.Pairwise.nil, Nat.zero_le _⟩
theorem Good.one {z : Int} (h : 0 ≤ z) : Good [(z, z)] := ⟨fun s hs => by
  rw [List.mem_singleton.mp hs]
  exact ⟨h, h⟩, List.pairwise_singleton _ _, by show 1 ≤ 1000; decide⟩
theorem plc_one (z : Int) : plc [(z, z)] 0 z = .int 0 := by
  have e : (rdL [(z, z)])[0]? = some z := by
    show (rd (z, z) ++ [])[0]? = some z
    rw [List.append_nil]
    have l : slen (z, z) = 1 := by
      show (if z - z < 0 then -(z - z) else z - z) + 1 = 1
      split <;> omega
    rw [rd_get (by rw [l]; decide)]
    show some (if z ≤ z then z + ((0 : Nat) : Int) else z - ((0 : Nat) : Int)) = some z
    rw [if_pos (Int.le_refl z)]
    congr 1
    omega
  exact plc_at 0 (List.pairwise_singleton _ _) e
theorem pick2 {x y n : Int} {p : Int → Prop} (h0 : 0 ≤ n) (h1 : n < 2) (hx : p x) (hy : p y) : ∃ m, atI [V.int x, V.int y] n = some (.int m) ∧ p m := by
  have c : n = 0 ∨ n = 1 := by omega
  rcases c with rfl | rfl
  · exact ⟨x, rfl, hx⟩
  · exact ⟨y, rfl, hy⟩
end Kb

namespace Kb
open PySem PySem.Spec PyProof.Rows L2
/-! ### scans joined -/
def jstep (acc : List Sc) (s : Sc) : List Sc := match acc.getLast? with
  | some t => if absI (s.1 - t.2) = 1 then acc.dropLast ++ [(t.1, s.2)] else acc ++ [s]
  | none => [s]
def jn (ss : List Sc) : List Sc := ss.foldl jstep []
theorem jstep_nil (s : Sc) : jstep [] s = [s] := rfl
theorem jstep_snoc (pre : List Sc) (t s : Sc) : jstep (pre ++ [t]) s = if absI (s.1 - t.2) = 1 then pre ++ [(t.1, s.2)] else pre ++ [t] ++ [s] := by
  unfold jstep
  rw [List.getLast?_concat, List.dropLast_concat]
theorem jn_snoc (ss : List Sc) (s : Sc) : jn (ss ++ [s]) = jstep (jn ss) s := by
  unfold jn
  rw [List.foldl_append]
  rfl
def dup (ns : List Int) : List Sc := ns.map fun a => (a, a)
def al (x c : Int) (n : Nat) : List Int := (List.range n).map fun (m : Nat) => x + (m : Int) * c
theorem jstep_shape (acc : List Sc) (x : Int) : ∃ (pre : List Sc) (u : Int), ∀ z, jstep acc (x, z) = pre ++ [(u, z)] := by
  rcases List.eq_nil_or_concat acc with e | ⟨pre, t, e⟩
  · subst e
    exact ⟨[], x, fun z => rfl⟩
  · rw [List.concat_eq_append] at e
    subst e
    by_cases h : absI (x - t.2) = 1
    · exact ⟨pre, t.1, fun z => by rw [jstep_snoc, if_pos h]⟩
    · exact ⟨pre ++ [t], x, fun z => by rw [jstep_snoc, if_neg h]⟩
theorem fold_al (acc : List Sc) (x c : Int) (hc : c = 1 ∨ c = -1) : ∀ n : Nat, (dup (al x c (n + 1))).foldl jstep acc = jstep acc (x, x + (n : Int) * c)
  | 0 => by
    show jstep acc (x + ((0 : Nat) : Int) * c, x + ((0 : Nat) : Int) * c) = _
    have e : x + ((0 : Nat) : Int) * c = x := by simp
    rw [e]
  | n + 1 => by
    have e : al x c (n + 1 + 1) = al x c (n + 1) ++ [x + ((n + 1 : Nat) : Int) * c] := by
      unfold al
      rw [List.range_succ, List.map_append]
      rfl
    rw [e]
    unfold dup
    rw [List.map_append, List.foldl_append]
    have ih := fold_al acc x c hc n
    unfold dup at ih
    rw [ih]
    obtain ⟨pre, u, h⟩ := jstep_shape acc x
    rw [h, h]
    show jstep (pre ++ [(u, x + (n : Int) * c)]) (x + ((n + 1 : Nat) : Int) * c, x + ((n + 1 : Nat) : Int) * c) = _
    rw [jstep_snoc]
    have e2 : x + ((n + 1 : Nat) : Int) * c - (x + (n : Int) * c) = c := by
      rw [Int.natCast_add, Int.add_mul]
      show x + ((n : Int) * c + ((1 : Nat) : Int) * c) - (x + (n : Int) * c) = c
      rw [show ((1 : Nat) : Int) * c = c from Int.one_mul c]
      omega
    rw [if_pos]
    show absI (x + ((n + 1 : Nat) : Int) * c - (x + (n : Int) * c)) = 1
    rw [e2]
    rcases hc with rfl | rfl <;> rfl
theorem fold_rd (acc : List Sc) (s : Sc) : (dup (rd s)).foldl jstep acc = jstep acc s := by
  have p := slen_pos s
  obtain ⟨n, hn⟩ : ∃ n : Nat, (slen s).toNat = n + 1 := ⟨(slen s).toNat - 1, by omega⟩
  have e : rd s = al s.1 (stp s) (n + 1) := by
    unfold rd al
    rw [hn]
  have hc : stp s = 1 ∨ stp s = -1 := by
    unfold stp
    split
    · exact .inl rfl
    · exact .inr rfl
  rw [e, fold_al acc _ _ hc]
  congr 1
  have z := hn
  unfold slen at z
  unfold stp
  refine Prod.ext rfl ?_
  show s.1 + (n : Int) * (if s.1 ≤ s.2 then 1 else -1) = s.2
  revert z
  split <;> split <;> intro z <;> omega
theorem fold_rdL : ∀ (ss : List Sc) (acc : List Sc), (dup (rdL ss)).foldl jstep acc = ss.foldl jstep acc
  | [], acc => rfl
  | s :: r, acc => by
    show ((rd s ++ rdL r).map fun a => (a, a)).foldl jstep acc = (r.foldl jstep (jstep acc s))
    rw [List.map_append, List.foldl_append]
    have h1 := fold_rd acc s
    have h2 := fold_rdL r (jstep acc s)
    unfold dup at h1 h2
    rw [h1, h2]
theorem jn_rdL (ss : List Sc) : jn (dup (rdL ss)) = jn ss := fold_rdL ss []
def swp (s : Sc) : Sc := (s.2, s.1)
theorem rd_swp (s : Sc) : rd (swp s) = (rd s).reverse := by
  have l : slen (swp s) = slen s := by
    unfold slen swp
    show (if s.1 - s.2 < 0 then -(s.1 - s.2) else s.1 - s.2) + 1 = _
    split <;> split <;> omega
  refine List.ext_getElem? fun i => ?_
  by_cases h : i < (slen s).toNat
  · rw [rd_get (by rw [l]; exact h), List.getElem?_reverse (by rw [rd_len]; exact h), rd_len, rd_get (by omega)]
    congr 1
    have z2 : (((slen s).toNat : Nat) : Int) = (if s.2 - s.1 < 0 then -(s.2 - s.1) else s.2 - s.1) + 1 := by
      have := slen_pos s
      show _ = slen s
      omega
    generalize (slen s).toNat = n at h z2 ⊢
    show (if s.2 ≤ s.1 then s.2 + (i : Int) else s.2 - (i : Int)) = _
    revert z2
    split <;> split <;> split <;> intro z2 <;> omega
  · rw [List.getElem?_eq_none (by rw [rd_len, l]; omega), List.getElem?_eq_none (by rw [List.length_reverse, rd_len]; omega)]
theorem rdL_rev : ∀ ss : List Sc, rdL (ss.reverse.map swp) = (rdL ss).reverse
  | [] => rfl
  | s :: r => by
    rw [List.reverse_cons, List.map_append, rdL_app, rdL_rev r]
    show (rdL r).reverse ++ (rd (swp s) ++ []) = (rd s ++ rdL r).reverse
    rw [List.append_nil, rd_swp, List.reverse_append]
theorem jn_len : ∀ (ss : List Sc), (jn ss).length ≤ ss.length := by
  have key : ∀ (ss acc : List Sc), (ss.foldl jstep acc).length ≤ acc.length + ss.length := by
    intro ss
    induction ss with
    | nil => intro acc; exact Nat.le_refl _
    | cons s r ih =>
      intro acc
      have h := ih (jstep acc s)
      have h2 : (jstep acc s).length ≤ acc.length + 1 := by
        rcases List.eq_nil_or_concat acc with e | ⟨pre, t, e⟩
        · subst e
          exact Nat.le_refl _
        · rw [List.concat_eq_append] at e
          subst e
          rw [jstep_snoc]
          split
          · rw [List.length_append, List.length_append]
            show pre.length + 1 ≤ pre.length + 1 + 1
            omega
          · rw [List.length_append]
            exact Nat.le_refl _
      show (r.foldl jstep (jstep acc s)).length ≤ acc.length + (r.length + 1)
      omega
  intro ss
  have := key ss []
  simpa [jn] using this
/-- what a joined list's ends are -/
def Cd (B : Int) (ss : List Sc) : Prop := ∀ s ∈ ss, 0 ≤ s.1 ∧ s.1 < B ∧ 0 ≤ s.2 ∧ s.2 < B
theorem jn_cd {B : Int} {ss : List Sc} (h : Cd B ss) : Cd B (jn ss) := by
  have key : ∀ (ss acc : List Sc), Cd B ss → Cd B acc → Cd B (ss.foldl jstep acc) := by
    intro ss
    induction ss with
    | nil => intro acc _ ha; exact ha
    | cons s r ih =>
      intro acc hs ha
      refine ih _ (fun t ht => hs t (List.mem_cons_of_mem _ ht)) ?_
      have hs1 := hs s List.mem_cons_self
      rcases List.eq_nil_or_concat acc with e | ⟨pre, t, e⟩
      · subst e
        intro t ht
        rw [List.mem_singleton.mp ht]
        exact hs1
      · rw [List.concat_eq_append] at e
        subst e
        have ht1 := ha t (List.mem_append_right _ (List.mem_singleton.mpr rfl))
        rw [jstep_snoc]
        split
        · intro u hu
          rcases List.mem_append.mp hu with hu | hu
          · exact ha u (List.mem_append_left _ hu)
          · rw [List.mem_singleton.mp hu]
            exact ⟨ht1.1, ht1.2.1, hs1.2.2.1, hs1.2.2.2⟩
        · intro u hu
          rcases List.mem_append.mp hu with hu | hu
          · exact ha u hu
          · rw [List.mem_singleton.mp hu]
            exact hs1
  exact key ss [] h fun _ hu => by cases hu
/-! ### joined lists as they are printed -/
theorem short_int {z : Int} (h0 : 0 ≤ z) (h : z < 60) : (PyData.shown (.int z)).length ≤ 100 := by
  have e := PyProof.Rows.len_str_of_int z
  show (Str.ofString (toString z)).length ≤ 100
  omega
theorem show_L {ss : List Sc} {B : Nat} (hB : 100 ≤ B) (h : Cd 60 ss) : (pdL ss).showable = true ∧ (pdL ss).hasDict = false ∧ (pdL ss).leavesShort B = true ∧ (pdL ss).bulk ≤ 10 * ss.length + 10 := by
  have l2 : ∀ z : Int, 0 ≤ z → z < 60 → decide (z.natAbs.log2 < 1920) = true := fun z a b => decide_eq_true (Nat.lt_trans (PySem.Flt.log2_lt_of (k := 6) (by decide) (by omega)) (by decide))
  have key : ∀ l : List Sc, Cd 60 l → PyData.showableAll (l.map pdS) = true ∧ PyData.hasDictAll (l.map pdS) = false ∧ PyData.leavesShortAll B (l.map pdS) = true ∧ PyData.bulkAll (l.map pdS) ≤ 10 * l.length := by
    intro l
    induction l with
    | nil => intro _; exact ⟨rfl, rfl, rfl, Nat.zero_le _⟩
    | cons s r ih =>
      intro hl
      obtain ⟨i1, i2, i3, i4⟩ := ih fun t ht => hl t (List.mem_cons_of_mem _ ht)
      obtain ⟨a1, a2, a3, a4⟩ := hl s List.mem_cons_self
      refine ⟨?_, ?_, ?_, ?_⟩
      · show ((decide (s.1.natAbs.log2 < 1920) && (decide (s.2.natAbs.log2 < 1920) && true)) && PyData.showableAll (r.map pdS)) = true
        rw [l2 _ a1 a2, l2 _ a3 a4, i1]
        rfl
      · show ((false || (false || false)) || PyData.hasDictAll (r.map pdS)) = false
        rw [i2]
        rfl
      · show ((decide ((PyData.shown (.int s.1)).length ≤ B) && (decide ((PyData.shown (.int s.2)).length ≤ B) && true)) && PyData.leavesShortAll B (r.map pdS)) = true
        rw [decide_eq_true (Nat.le_trans (short_int a1 a2) hB), decide_eq_true (Nat.le_trans (short_int a3 a4) hB), i3]
        rfl
      · simp only [List.map_cons, PyData.bulkAll, pdS, PyData.bulk, List.length_cons]
        omega
  obtain ⟨i1, i2, i3, i4⟩ := key ss h
  refine ⟨i1, i2, i3, ?_⟩
  simp only [pdL, PyData.bulk]
  omega
/-! ### a joined list stays so -/
def Loose (l : List Sc) : Prop := ∀ (i : Nat) (a b : Sc), l[i]? = some a → l[i + 1]? = some b → absI (b.1 - a.2) ≠ 1
theorem snoc_at {α : Type} {pre : List α} {t b : α} {i : Nat} (h : (pre ++ [t])[i]? = some b) : (i < pre.length ∧ pre[i]? = some b) ∨ (i = pre.length ∧ b = t) := by
  by_cases z : i < pre.length
  · rw [List.getElem?_append_left z] at h
    exact .inl ⟨z, h⟩
  · rw [List.getElem?_append_right (by omega)] at h
    have y : i - pre.length = 0 := by
      have := (List.getElem?_eq_some_iff.mp h).1
      rw [List.length_singleton] at this
      omega
    rw [y] at h
    exact .inr ⟨by omega, (Option.some.inj h).symm⟩
theorem Loose.init {pre : List Sc} {t : Sc} (h : Loose (pre ++ [t])) : Loose pre := fun i a b ha hb => by
  have l1 := (List.getElem?_eq_some_iff.mp ha).1
  have l2 := (List.getElem?_eq_some_iff.mp hb).1
  exact h i a b (by rw [List.getElem?_append_left l1]; exact ha) (by rw [List.getElem?_append_left l2]; exact hb)
theorem loose_step {acc : List Sc} (h : Loose acc) (s : Sc) : Loose (jstep acc s) := by
  rcases List.eq_nil_or_concat acc with e | ⟨pre, t, e⟩
  · subst e
    intro i a b _ hb
    have := (List.getElem?_eq_some_iff.mp hb).1
    rw [jstep_nil, List.length_singleton] at this
    omega
  · rw [List.concat_eq_append] at e
    subst e
    rw [jstep_snoc]
    by_cases hc : absI (s.1 - t.2) = 1
    · rw [if_pos hc]
      intro i a b ha hb
      rcases snoc_at hb with ⟨z, hb'⟩ | ⟨z, rfl⟩
      · refine h i a b ?_ (by rw [List.getElem?_append_left z]; exact hb')
        rw [List.getElem?_append_left (by omega)] at ha ⊢
        exact ha
      · refine h i a t ?_ (by rw [z, List.getElem?_append_right (Nat.le_refl _), Nat.sub_self]; rfl)
        rw [List.getElem?_append_left (by omega)] at ha ⊢
        exact ha
    · rw [if_neg hc]
      intro i a b ha hb
      rcases snoc_at hb with ⟨z, hb'⟩ | ⟨z, rfl⟩
      · refine h i a b ?_ hb'
        rw [List.getElem?_append_left (by omega)] at ha
        exact ha
      · rw [List.getElem?_append_left (by omega)] at ha
        rw [List.length_append, List.length_singleton] at z
        have z2 : i = pre.length := by omega
        rw [z2, List.getElem?_append_right (Nat.le_refl _), Nat.sub_self] at ha
        cases (Option.some.inj (show some t = some a from ha))
        exact hc
theorem loose_jn (ss : List Sc) : Loose (jn ss) := by
  have key : ∀ (ss acc : List Sc), Loose acc → Loose (ss.foldl jstep acc) := by
    intro ss
    induction ss with
    | nil => intro acc h; exact h
    | cons s r ih => intro acc h; exact ih _ (loose_step h s)
  exact key ss [] fun i a b ha _ => by
    have z : (none : Option Sc) = some a := ha
    cases z
theorem jn_fix : ∀ (n : Nat) (l : List Sc), l.length = n → Loose l → jn l = l
  | 0, l, e, _ => by
    cases l with
    | nil => rfl
    | cons a r => cases e
  | n + 1, l, e, h => by
    rcases List.eq_nil_or_concat l with z | ⟨pre, s, z⟩
    · subst z
      rfl
    · rw [List.concat_eq_append] at z
      subst z
      rw [List.length_append, List.length_singleton] at e
      rw [jn_snoc, jn_fix n pre (by omega) h.init]
      rcases List.eq_nil_or_concat pre with y | ⟨q, t, y⟩
      · subst y
        rfl
      · rw [List.concat_eq_append] at y
        subst y
        rw [jstep_snoc, if_neg]
        refine h q.length t s ?_ ?_
        · rw [List.append_assoc, List.getElem?_append_right (Nat.le_refl _), Nat.sub_self]
          rfl
        · rw [List.getElem?_append_right (by rw [List.length_append]; exact Nat.le_refl _), List.length_append, List.length_singleton, Nat.sub_self]
          rfl
theorem jn_jn (ss : List Sc) : jn (jn ss) = jn ss := jn_fix _ _ rfl (loose_jn ss)
theorem lo_hi (s : Sc) : lo s ≤ hi s := spn_le s
theorem merge {t s : Sc} (a : Apart t s) (h : absI (s.1 - t.2) = 1) : (lo (t.1, s.2) = lo t ∧ hi (t.1, s.2) = hi s ∧ hi t + 1 = lo s) ∨ (lo (t.1, s.2) = lo s ∧ hi (t.1, s.2) = hi t ∧ hi s + 1 = lo t) := by
  obtain ⟨u, v⟩ := t
  obtain ⟨x, y⟩ := s
  unfold Apart lo hi absI at *
  revert a h
  show ((if v > u then v else u) < (if y < x then y else x) ∨ (if y > x then y else x) < (if v < u then v else u)) → (if x - v < 0 then -(x - v) else x - v) = 1 →
    ((if y < u then y else u) = (if v < u then v else u) ∧ (if y > u then y else u) = (if y > x then y else x) ∧ (if v > u then v else u) + 1 = (if y < x then y else x)) ∨
    ((if y < u then y else u) = (if y < x then y else x) ∧ (if y > u then y else u) = (if v > u then v else u) ∧ (if y > x then y else x) + 1 = (if v < u then v else u))
  split <;> split <;> split <;> split <;> split <;> split <;> split <;> intros <;> omega
theorem merge_apart {t s z : Sc} (a : Apart t s) (h : absI (s.1 - t.2) = 1) (h1 : Apart z t) (h2 : Apart z s) : Apart z (t.1, s.2) := by
  have m := merge a h
  have c := lo_hi z
  unfold Apart at h1 h2 ⊢
  omega
theorem Apart.symm {s t : Sc} (h : Apart s t) : Apart t s := Or.symm h
theorem apart_step {acc r : List Sc} {s : Sc} (h : (acc ++ s :: r).Pairwise Apart) : (jstep acc s ++ r).Pairwise Apart := by
  rcases List.eq_nil_or_concat acc with e | ⟨pre, t, e⟩
  · subst e
    exact h
  · rw [List.concat_eq_append] at e
    subst e
    rw [jstep_snoc]
    by_cases hc : absI (s.1 - t.2) = 1
    · rw [if_pos hc]
      rw [List.append_assoc] at h ⊢
      obtain ⟨p1, p2, p3⟩ := List.pairwise_append.mp h
      obtain ⟨q1, q2⟩ := List.pairwise_cons.mp (show (t :: (s :: r)).Pairwise Apart from p2)
      obtain ⟨q3, q4⟩ := List.pairwise_cons.mp q2
      have ats := q1 s List.mem_cons_self
      refine List.pairwise_append.mpr ⟨p1, List.pairwise_cons.mpr ⟨fun z hz => ?_, q4⟩, fun a ha b hb => ?_⟩
      · exact (merge_apart ats hc (q1 z (List.mem_cons_of_mem _ hz)).symm (q3 z hz).symm).symm
      · rcases List.mem_cons.mp (show b ∈ (t.1, s.2) :: r from hb) with e | e
        · rw [e]
          exact merge_apart ats hc (p3 a ha t (List.mem_append_left _ (List.mem_singleton.mpr rfl))) (p3 a ha s (List.mem_append_right _ List.mem_cons_self))
        · exact p3 a ha b (List.mem_append_right _ (List.mem_cons_of_mem _ e))
    · rw [if_neg hc, List.append_assoc]
      exact h
theorem apart_jn {ss : List Sc} (h : ss.Pairwise Apart) : (jn ss).Pairwise Apart := by
  have key : ∀ (r acc : List Sc), (acc ++ r).Pairwise Apart → (r.foldl jstep acc).Pairwise Apart := by
    intro r
    induction r with
    | nil =>
      intro acc h
      rw [List.append_nil] at h
      exact h
    | cons s r ih => intro acc h; exact ih _ (apart_step h)
  exact key ss [] h
theorem Good.jn {ss : List Sc} (G : Good ss) {B : Int} (c : Cd B ss) : Good (Kb.jn ss) :=
  ⟨fun s hs => ⟨(jn_cd c s hs).1, (jn_cd c s hs).2.2.1⟩, apart_jn G.dis, Nat.le_trans (jn_len ss) G.few⟩
end Kb

namespace Kb
open PySem PySem.Spec PyProof.Rows L2
theorem small20 {n : Nat} (h : n ≤ 2 ^ 20) : n < sizeLine := Nat.lt_of_le_of_lt h (by decide)
theorem Pa.concat {H : Hp} {pre : List V} {v : V} {l : List Sc} (h : Paired (IsSc H) (pre ++ [v]) l) : ∃ (pre' : List Sc) (t : Sc), l = pre' ++ [t] ∧ Paired (IsSc H) pre pre' ∧ IsSc H v t := by
  have r : Paired (IsSc H) (v :: pre.reverse) l.reverse := by
    have z := Pa.rev h
    rw [List.reverse_append] at z
    exact z
  generalize e : l.reverse = m at r
  cases r with
  | @cons _ t _ q h1 h2 =>
    have z := congrArg List.reverse e
    rw [List.reverse_reverse, List.reverse_cons] at z
    have y := Pa.rev h2
    rw [List.reverse_reverse] at y
    exact ⟨q.reverse, t, z, y, h1⟩
theorem ix_last {α : Type} (pre : List α) (v : α) : ixN (pre ++ [v]).length (-1) = some pre.length := by
  unfold ixN
  rw [List.length_append]
  show (if (0 : Int) ≤ -1 then _ else if -(((pre.length + 1 : Nat)) : Int) ≤ -1 then some ((-1 : Int) + ((pre.length + 1 : Nat) : Int)).toNat else none) = _
  rw [if_neg (by decide), if_pos (by omega)]
  congr 1
  omega
theorem set_last {α : Type} (pre : List α) (v u : α) : (pre ++ [v]).set pre.length u = pre ++ [u] := by
  rw [List.set_append_right (h := Nat.le_refl _), Nat.sub_self]
  rfl
theorem eq_nil_or_snoc {α : Type} (l : List α) : l = [] ∨ ∃ (pre : List α) (t : α), l = pre ++ [t] := by
  rcases List.eq_nil_or_concat l with e | ⟨pre, t, e⟩
  · exact .inl e
  · exact .inr ⟨pre, t, by rw [e, List.concat_eq_append]⟩
theorem absI_sub (a b : Int) : absI (a - b) = absI (b - a) := by
  unfold absI
  split <;> split <;> omega
theorem Pa.swap {H : Hp} {l : Addr} {us : List V} (hl : H l = some (.lst us)) {ss : List Sc} (p : Paired (IsSc H) us ss) : ∀ x ∈ us, x ≠ .ref l := fun x hx e => by
  obtain ⟨s, _, t, rfl, ht⟩ := Pa.mem p x hx
  cases e
  rw [hl] at ht
  cases ht
def spJoined : Sp := fun vs H Q _ => ∃ (a : Addr) (ss : List Sc), vs = [.ref a] ∧ Scs H a ss ∧ ss.length ≤ 2 ^ 20 ∧ ∀ p H', H p = none → Ex H H' → Scs H' p (jn ss) → Q (.ref p) H'
def spTidy : Sp := fun vs H Q _ => ∃ (a : Addr) (ss : List Sc), vs = [.ref a] ∧ Scs H a ss ∧ Good ss ∧ ∀ p H', H p = none → Ex H H' → Scs H' p (jn ss) → Q (.ref p) H'
def spTurned : Sp := fun vs H Q _ => ∃ (a : Addr) (ss : List Sc), vs = [.ref a] ∧ Scs H a ss ∧ Good ss ∧ ∀ p H', H p = none → Ex H H' → Scs H' p (jn (ss.reverse.map swp)) → Q (.ref p) H'
def spTidied : Sp := fun vs H Q _ => ∃ (a : Addr) (ns : List Int), vs = [.ref a] ∧ H a = some (.lst (ns.map V.int)) ∧ ns.length ≤ 2 ^ 20 ∧ ∀ p H', H p = none → Ex H H' → Scs H' p (jn (dup ns)) → Q (.ref p) H'
def JW (H : Hp) (a p : Addr) (ss : List Sc) (i : Nat) (σ : L2.St) (H1 : Hp) : Prop := ∃ y2 y3 us, σ = [some (.ref a), some (.ref p), y2, y3] ∧ Ex H H1 ∧ H1 p = some (.lst us) ∧ Paired (IsSc H1) us (jn (ss.take i))
theorem jw_snoc {H : Hp} {a p : Addr} {ss : List Sc} {i : Nat} {s : Sc} (gs : ss[i]? = some s) : jn (ss.take (i + 1)) = jstep (jn (ss.take i)) s := by
  rw [List.take_add_one, gs]
  exact jn_snoc _ _
theorem jw_app {H H1 : Hp} {a p q : Addr} {ss : List Sc} {i : Nat} {x y : Int} {us : List V} (np : H p = none) (gs : ss[i]? = some (x, y)) (e : Ex H H1) (hp : H1 p = some (.lst us)) (pu : Paired (IsSc H1) us (jn (ss.take i))) (nq : H1 q = none)
    (hj : jstep (jn (ss.take i)) (x, y) = jn (ss.take i) ++ [(x, y)]) {σ : L2.St} (es : ∃ y2 y3, σ = [some (.ref a), some (.ref p), y2, y3]) : JW H a p ss (i + 1) σ (upd (upd H1 q (.tup [.int x, .int y])) p (.lst (us ++ [.ref q]))) := by
  obtain ⟨y2, y3, rfl⟩ := es
  have n : p ≠ q := ne_of_none hp nq
  refine ⟨y2, y3, us ++ [.ref q], rfl, (e.add nq).mut np, upd_same, ?_⟩
  rw [jw_snoc (H := H) (a := a) (p := p) gs, hj]
  exact Pa.lset ((upd_ne n).trans hp) (Pa.snoc (Pa.mono (Ex.new nq) pu) ⟨q, rfl, upd_same⟩)
theorem jw_set {H H1 : Hp} {a p q : Addr} {ss : List Sc} {i : Nat} {x y : Int} {pre : List V} {v : V} {pre' : List Sc} {t : Sc} (np : H p = none) (gs : ss[i]? = some (x, y)) (e : Ex H H1) (hp : H1 p = some (.lst (pre ++ [v]))) (pu : Paired (IsSc H1) pre pre') (nq : H1 q = none)
    (ej : jn (ss.take i) = pre' ++ [t]) (hc : absI (x - t.2) = 1) {σ : L2.St} (es : ∃ y2 y3, σ = [some (.ref a), some (.ref p), y2, y3]) : JW H a p ss (i + 1) σ (upd (upd H1 q (.tup [.int t.1, .int y])) p (.lst ((pre ++ [v]).set pre.length (.ref q)))) := by
  obtain ⟨y2, y3, rfl⟩ := es
  have n : p ≠ q := ne_of_none hp nq
  refine ⟨y2, y3, _, rfl, (e.add nq).mut np, upd_same, ?_⟩
  rw [jw_snoc (H := H) (a := a) (p := p) gs, ej, jstep_snoc, if_pos hc, set_last]
  exact Pa.lset ((upd_ne n).trans hp) (Pa.snoc (Pa.mono (Ex.new nq) pu) ⟨q, rfl, upd_same⟩)
def Sm (ss : List Sc) : Prop := Small ss ∧ ss.length ≤ 60
theorem Sm.cd {ss : List Sc} (h : Sm ss) : Cd 60 ss := fun s hs => by
  have a := h.1.1.nn s hs
  have b := h.1.2 s hs
  exact ⟨a.1, by omega, a.2, by omega⟩
theorem cd_swp {B : Int} {ss : List Sc} (h : Cd B ss) : Cd B (ss.reverse.map swp) := fun s hs => by
  obtain ⟨t, ht, rfl⟩ := List.mem_map.mp hs
  have z := h t (List.mem_reverse.mp ht)
  exact ⟨z.2.2.1, z.2.2.2, z.1, z.2.1⟩
theorem Sm.sum {ss : List Sc} (h : Sm ss) : 0 ≤ psum ss ∧ psum ss ≤ 2400 := by
  have key : ∀ l : List Sc, (∀ s ∈ l, s ∈ ss) → 0 ≤ psum l ∧ psum l ≤ 40 * (l.length : Int) := by
    intro l
    induction l with
    | nil => intro _; exact ⟨Int.le_refl 0, Int.le_refl _⟩
    | cons s r ih =>
      intro hm
      have i := ih fun t ht => hm t (List.mem_cons_of_mem _ ht)
      have a := h.1.1.nn s (hm s List.mem_cons_self)
      have b := h.1.2 s (hm s List.mem_cons_self)
      have p := slen_pos s
      have sl : slen s ≤ 40 := by
        obtain ⟨a1, a2⟩ := a
        unfold slen
        split <;> omega
      show 0 ≤ slen s + psum r ∧ slen s + psum r ≤ 40 * ((r.length + 1 : Nat) : Int)
      omega
  have z := key ss fun _ h => h
  have := h.2
  omega
def pdT (j1 j2 : List Sc) (n : Int) : PyData := .list [pdL j1, pdL j2, .int n]
theorem show_T {j1 j2 : List Sc} {n : Int} (h1 : Cd 60 j1) (h2 : Cd 60 j2) (l1 : j1.length ≤ 60) (l2 : j2.length ≤ 60) (n0 : 0 ≤ n) (n1 : n ≤ 2400) :
    (pdT j1 j2 n).showable = true ∧ (pdT j1 j2 n).hasDict = false ∧ (pdT j1 j2 n).depth ≤ 60 ∧ (pdT j1 j2 n).shown.length ≤ sizeLine := by
  obtain ⟨a1, a2, a3, a4⟩ := show_L (B := 2500) (by decide) h1
  obtain ⟨b1, b2, b3, b4⟩ := show_L (B := 2500) (by decide) h2
  have s1 := PyData.hasDict_of_canLay _ (SeqAt.canLay_of_shaped (shaped_L j1))
  have d1 := SeqAt.depth_of_shaped (shaped_L j1)
  have e1 : ∀ l : List Sc, (pdL l).depth ≤ 2 := fun l => by
    have h2 : PyData.depthAll (l.map pdS) ≤ 1 := by
      induction l with
      | nil => exact Nat.zero_le _
      | cons s r ih =>
        show max (PyData.depth (pdS s)) (PyData.depthAll (r.map pdS)) ≤ 1
        have : PyData.depth (pdS s) = 1 := rfl
        omega
    show PyData.depthAll (l.map pdS) + 1 ≤ 2
    omega
  have x1 := e1 j1
  have x2 := e1 j2
  have li : (PyData.shown (.int n)).length ≤ 2500 := by
    have e := PyProof.Rows.len_str_of_int n
    show (Str.ofString (toString n)).length ≤ 2500
    omega
  refine ⟨?_, ?_, ?_, ?_⟩
  · show ((pdL j1).showable && ((pdL j2).showable && (decide (n.natAbs.log2 < 1920) && true))) = true
    rw [a1, b1, decide_eq_true (Nat.lt_trans (PySem.Flt.log2_lt_of (k := 12) (by decide) (by omega)) (by decide))]
    rfl
  · show ((pdL j1).hasDict || ((pdL j2).hasDict || (false || false))) = false
    rw [a2, b2]
    rfl
  · show max (pdL j1).depth (max (pdL j2).depth (max 0 0)) + 1 ≤ 60
    omega
  · have lv : (pdT j1 j2 n).leavesShort 2500 = true := by
      show ((pdL j1).leavesShort 2500 && ((pdL j2).leavesShort 2500 && (decide ((PyData.shown (.int n)).length ≤ 2500) && true))) = true
      rw [a3, b3, decide_eq_true li]
      rfl
    have bk : (pdT j1 j2 n).bulk ≤ 1300 := by
      simp only [pdT, PyData.bulk, PyData.bulkAll] at *
      omega
    have z := PyData.shown_le_bulk 2500 (by decide) _ lv
    have y := Nat.mul_le_mul_left (2500 + 2) bk
    rw [sizeLine_eq]
    omega
theorem show_S {ss : List Sc} (h : Cd 60 ss) (l : ss.length ≤ 60) : (pdL ss).showable = true ∧ (pdL ss).hasDict = false ∧ (pdL ss).depth ≤ 60 ∧ (pdL ss).shown.length ≤ sizeLine := by
  obtain ⟨a1, a2, a3, a4⟩ := show_L (B := 2500) (by decide) h
  refine ⟨a1, a2, ?_, ?_⟩
  · have h2 : PyData.depthAll (ss.map pdS) ≤ 1 := by
      clear a1 a2 a3 a4 h l
      induction ss with
      | nil => exact Nat.zero_le _
      | cons s r ih =>
        show max (PyData.depth (pdS s)) (PyData.depthAll (r.map pdS)) ≤ 1
        have : PyData.depth (pdS s) = 1 := rfl
        omega
    show PyData.depthAll (ss.map pdS) + 1 ≤ 60
    omega
  · have z := PyData.shown_le_bulk 2500 (by decide) _ a3
    have y := Nat.mul_le_mul_left (2500 + 2) a4
    rw [sizeLine_eq]
    omega
def spRight1 : Sp := fun vs H Q _ => ∃ (a : Addr) (ss : List Sc), vs = [.ref a] ∧ Scs H a ss ∧ Sm ss ∧ RetV (.bl true) H Q
end Kb

namespace Kb
open PySem PySem.Spec PyProof.Rows L2
/-! ### min, max of a pair -/
section
variable {prog : Program} {w : World} {A : Around} {E : Value → Shared → Prop} {s : Shared}
theorem tup_iter {l : Addr} {its : Array Value} {Q : Value → Shared → Prop} (hl : s.heap.IsTuple l its)
    (h : ∀ s2 : Shared, s2 = { s with heap := s.heap.push { cls := .type "tuple_iterator", data := .fields #[.ref l, .int 0 0] } } → (s2.heap.IsTupleIter s.heap.objs.size l 0 ∧ s2.heap.IsTuple l its) → (∀ b ∈ [s.heap.objs.size, l], b < s2.heap.objs.size) → l ≠ s.heap.objs.size → Q (.ref s.heap.objs.size) s2) :
    wpAny (model prog w) A (pyIter (.ref l)) Q E s := by
  have lt : l < s.heap.objs.size := by
    obtain ⟨_, e, _⟩ := hl
    exact Heap.lt_size e
  refine wpAny_pyIter_tuple hl (h _ rfl ⟨⟨_, Heap.get?_push_size _ rfl, rfl, rfl⟩, hl.push _⟩ (fun b hb => ?_) (Nat.ne_of_lt lt))
  show b < (s.heap.push _).objs.size
  rw [Heap.size_push]
  rcases List.mem_cons.mp hb with e | e
  · rw [e]
    exact Nat.lt_succ_self _
  · rw [List.mem_singleton.mp e]
    exact Nat.lt_succ_of_lt lt
end
def fn2 (x y : Int) : Nat → Int := fun i => if i = 0 then x else y
theorem pair_at {x y : Int} {t u : Tok} (i : Nat) (v : Value) (h : (#[Value.int x t, Value.int y u] : Array Value)[i]? = some v) : ∃ k, v = .int (fn2 x y i) k := by
  match i, h with
  | 0, h =>
    cases h
    exact ⟨t, rfl⟩
  | 1, h =>
    cases h
    exact ⟨u, rfl⟩
  | i + 2, h => simp at h
section
variable {X : Cx}
theorem cr_minT (hc : X.calm = true) : CallR X (.builtin "min") (fun vs H Q => ∃ (a : Addr) (x y : Int), vs = [.ref a] ∧ H a = some (.tup [.int x, .int y]) ∧ Q (.int (if y < x then y else x)) H) := by
  intro pins s σ H vs us Q I r h
  obtain ⟨a, x, y, rfl, ha, q⟩ := h
  rw [Vals.ref1 r]
  obtain ⟨its, rv, pt, _⟩ := I.tuple (SqT.of ha)
  obtain ⟨u1, u2, rfl, ⟨t, rfl⟩, ⟨u, rfl⟩⟩ := vals2 rv
  refine call_min_walk (tup_iter (its := #[Value.int x t, Value.int y u]) pt fun s2 e st hfp ne => ?_)
  subst e
  refine ⟨_, _, _, _, _, _, _, rfl, Walks.tuple (A := X.A.in1) (I.ok.hd hc) _ a ne _, st, hfp, Nat.succ_pos 1, CmpOf.ints_lt (fn2 x y) pair_at, fun v h' tk hP hk => ?_⟩
  obtain ⟨k, rfl⟩ := pair_at _ _ hP
  obtain ⟨b1, b2⟩ := argBest_lt (fn2 x y) 1
  have c0 := b2 0 (by decide)
  have c1 := b2 1 (by decide)
  have e : fn2 x y (argBest (fun i j => decide (fn2 x y i < fn2 x y j)) 1) = if y < x then y else x := by
    generalize argBest (fun i j => decide (fn2 x y i < fn2 x y j)) 1 = m at b1 c0 c1
    have d : m = 0 ∨ m = 1 := by omega
    rcases d with rfl | rfl
    · have z : x ≤ y := c1
      show x = _
      rw [if_neg (by omega)]
    · have z : y ≤ x := c0
      show y = _
      split <;> omega
  refine ⟨.int _, H, I.kept (t' := tk) fun b o eo => hk b o (fun hm => ?_) (Heap.get?_push_of_some _ eo), ⟨k, rfl⟩, ?_⟩
  · rcases List.mem_cons.mp hm with e1 | hm
    · exact absurd (e1 ▸ Heap.lt_size eo) (Nat.lt_irrefl _)
    · cases hm
  · show Q (.int (fn2 x y (argBest (fun i j => decide (fn2 x y i < fn2 x y j)) 1))) H
    rw [e]
    exact q
theorem cr_maxT (hc : X.calm = true) : CallR X (.builtin "max") (fun vs H Q => ∃ (a : Addr) (x y : Int), vs = [.ref a] ∧ H a = some (.tup [.int x, .int y]) ∧ Q (.int (if y > x then y else x)) H) := by
  intro pins s σ H vs us Q I r h
  obtain ⟨a, x, y, rfl, ha, q⟩ := h
  rw [Vals.ref1 r]
  obtain ⟨its, rv, pt, _⟩ := I.tuple (SqT.of ha)
  obtain ⟨u1, u2, rfl, ⟨t, rfl⟩, ⟨u, rfl⟩⟩ := vals2 rv
  refine call_max_walk (tup_iter (its := #[Value.int x t, Value.int y u]) pt fun s2 e st hfp ne => ?_)
  subst e
  refine ⟨_, _, _, _, _, _, _, rfl, Walks.tuple (A := X.A.in1) (I.ok.hd hc) _ a ne _, st, hfp, Nat.succ_pos 1, CmpOf.ints_gt (fn2 x y) pair_at, fun v h' tk hP hk => ?_⟩
  obtain ⟨k, rfl⟩ := pair_at _ _ hP
  obtain ⟨b1, b2⟩ := argBest_gt (fn2 x y) 1
  have c0 := b2 0 (by decide)
  have c1 := b2 1 (by decide)
  have e : fn2 x y (argBest (fun i j => decide (fn2 x y i > fn2 x y j)) 1) = if y > x then y else x := by
    generalize argBest (fun i j => decide (fn2 x y i > fn2 x y j)) 1 = m at b1 c0 c1
    have d : m = 0 ∨ m = 1 := by omega
    rcases d with rfl | rfl
    · have z : y ≤ x := c1
      show x = _
      rw [if_neg (by omega)]
    · have z : x ≤ y := c0
      show y = _
      split <;> omega
  refine ⟨.int _, H, I.kept (t' := tk) fun b o eo => hk b o (fun hm => ?_) (Heap.get?_push_of_some _ eo), ⟨k, rfl⟩, ?_⟩
  · rcases List.mem_cons.mp hm with e1 | hm
    · exact absurd (e1 ▸ Heap.lt_size eo) (Nat.lt_irrefl _)
    · cases hm
  · show Q (.int (fn2 x y (argBest (fun i j => decide (fn2 x y i > fn2 x y j)) 1))) H
    rw [e]
    exact q
end
/-! ### parts of scans -/
def seg (a b : Int) : List Int := (List.range (b + 1 - a).toNat).map fun (m : Nat) => a + (m : Int)
theorem seg_nil {a b : Int} (h : b < a) : seg a b = [] := by
  unfold seg
  rw [show (b + 1 - a).toNat = 0 by omega]
  rfl
theorem seg_cons {a b : Int} (h : a ≤ b) : seg a b = a :: seg (a + 1) b := by
  unfold seg
  obtain ⟨n, hn⟩ : ∃ n : Nat, (b + 1 - a).toNat = n + 1 := ⟨(b + 1 - a).toNat - 1, by omega⟩
  rw [hn, show (b + 1 - (a + 1)).toNat = n by omega, List.range_succ_eq_map, List.map_cons, List.map_map]
  congr 1
  · show a + ((0 : Nat) : Int) = a
    omega
  · refine List.map_congr_left fun m _ => ?_
    show a + ((m + 1 : Nat) : Int) = a + 1 + (m : Int)
    omega
theorem seg_cut (l h : Int) (hlh : l ≤ h) : ∀ (n : Nat) (a b : Int), (b + 1 - a).toNat = n → (seg a b).filter (fun z => !decide (l ≤ z ∧ z ≤ h)) = seg a (min b (l - 1)) ++ seg (max a (h + 1)) b
  | 0, a, b, e => by
    rw [seg_nil (by omega), seg_nil (by omega), seg_nil (by omega)]
    rfl
  | n + 1, a, b, e => by
    have hab : a ≤ b := by omega
    rw [seg_cons hab, List.filter_cons]
    have ih := seg_cut l h hlh n (a + 1) b (by omega)
    by_cases h1 : a < l
    · rw [if_pos (by simp; omega), ih, seg_cons (show a ≤ min b (l - 1) by omega)]
      rw [show max (a + 1) (h + 1) = max a (h + 1) by omega]
      rfl
    · by_cases h2 : a ≤ h
      · rw [if_neg (by simp; omega), ih, seg_nil (show min b (l - 1) < a + 1 by omega), seg_nil (show min b (l - 1) < a by omega), show max (a + 1) (h + 1) = max a (h + 1) by omega]
      · rw [if_pos (by simp; omega), ih, seg_nil (show min b (l - 1) < a + 1 by omega), seg_nil (show min b (l - 1) < a by omega), show max a (h + 1) = a by omega, show max (a + 1) (h + 1) = a + 1 by omega, seg_cons hab]
        rfl
theorem rd_up {s : Sc} (h : s.1 ≤ s.2) : rd s = seg s.1 s.2 := by
  unfold rd seg stp slen
  rw [if_pos h, if_neg (by omega), show (s.2 - s.1 + 1).toNat = (s.2 + 1 - s.1).toNat by omega]
  refine List.map_congr_left fun m _ => ?_
  omega
theorem rd_dn {s : Sc} (h : s.2 ≤ s.1) : rd s = (seg s.2 s.1).reverse := by
  have e : s = swp (swp s) := rfl
  rw [e, rd_swp, rd_up (s := swp s) h]
  rfl
def ends (s : Sc) (l h : Int) : List Sc := [(lo s, if l - 1 < hi s then l - 1 else hi s), (if h + 1 > lo s then h + 1 else lo s, hi s)]
def lft (s : Sc) (l h : Int) : List Sc := (ends s l h).filter fun p => decide (p.1 ≤ p.2)
def wo (s : Sc) (l h : Int) : List Sc := if s.1 ≤ s.2 then lft s l h else (lft s l h).reverse.map swp
theorem rdL_lft {s : Sc} {l h : Int} (hl : l ≤ h) : rdL (lft s l h) = (seg (lo s) (hi s)).filter (fun z => !decide (l ≤ z ∧ z ≤ h)) := by
  rw [seg_cut l h hl _ _ _ rfl]
  have one : ∀ a b : Int, rdL ([((a, b) : Sc)].filter fun p => decide (p.1 ≤ p.2)) = seg a b := fun a b => by
    by_cases z : a ≤ b
    · rw [List.filter_cons, if_pos (decide_eq_true z)]
      show rd (a, b) ++ [] = _
      rw [List.append_nil, rd_up z]
    · rw [List.filter_cons, if_neg (by simp; omega), seg_nil (by omega)]
      rfl
  have e1 : (if l - 1 < hi s then l - 1 else hi s) = min (hi s) (l - 1) := by split <;> omega
  have e2 : (if h + 1 > lo s then h + 1 else lo s) = max (lo s) (h + 1) := by split <;> omega
  unfold lft ends
  rw [e1, e2, show [(lo s, min (hi s) (l - 1)), (max (lo s) (h + 1), hi s)] = [((lo s, min (hi s) (l - 1)) : Sc)] ++ [(max (lo s) (h + 1), hi s)] from rfl, List.filter_append, rdL_app, one, one]
theorem rdL_wo {s : Sc} {l h : Int} (hl : l ≤ h) : rdL (wo s l h) = (rd s).filter (fun z => !decide (l ≤ z ∧ z ≤ h)) := by
  unfold wo
  by_cases hs : s.1 ≤ s.2
  · rw [if_pos hs, rdL_lft hl, rd_up hs]
    have a : lo s = s.1 := by unfold lo; split <;> omega
    have b : hi s = s.2 := by unfold hi; split <;> omega
    rw [a, b]
  · rw [if_neg hs, rdL_rev, rdL_lft hl, rd_dn (by omega), List.filter_reverse]
    have a : lo s = s.2 := by unfold lo; split <;> omega
    have b : hi s = s.1 := by unfold hi; split <;> omega
    rw [a, b]
def woL (ss : List Sc) (l h : Int) : List Sc := ss.flatMap fun s => wo s l h
theorem rdL_woL {l h : Int} (hl : l ≤ h) : ∀ ss : List Sc, rdL (woL ss l h) = (rdL ss).filter (fun z => !decide (l ≤ z ∧ z ≤ h))
  | [] => rfl
  | s :: r => by
    show rdL (wo s l h ++ woL r l h) = (rd s ++ rdL r).filter _
    rw [rdL_app, rdL_wo hl, rdL_woL hl r, List.filter_append]
def hd (s : Sc) (m : Int) : Sc := (s.1, if s.1 ≤ s.2 then s.1 + ((if slen s < m then slen s else m) - 1) else s.1 - ((if slen s < m then slen s else m) - 1))
theorem rd_hd {s : Sc} {m : Int} (h : 0 < m) : rd (hd s m) = (rd s).take m.toNat := by
  have p := slen_pos s
  have l : slen (hd s m) = if slen s < m then slen s else m := by
    unfold hd
    generalize hk : (if slen s < m then slen s else m) = k
    have k1 : 1 ≤ k := by rw [← hk]; split <;> omega
    show (if (if s.1 ≤ s.2 then s.1 + (k - 1) else s.1 - (k - 1)) - s.1 < 0 then -((if s.1 ≤ s.2 then s.1 + (k - 1) else s.1 - (k - 1)) - s.1) else (if s.1 ≤ s.2 then s.1 + (k - 1) else s.1 - (k - 1)) - s.1) + 1 = k
    split <;> split <;> omega
  refine List.ext_getElem? fun i => ?_
  by_cases hi : i < (slen (hd s m)).toNat
  · have i1 : i < (slen s).toNat := by
      rw [l] at hi
      revert hi
      split <;> intro hi <;> omega
    have i2 : i < m.toNat := by
      rw [l] at hi
      revert hi
      split <;> intro hi <;> omega
    rw [rd_get hi, List.getElem?_take_of_lt i2, rd_get i1]
    congr 1
    show (if s.1 ≤ (hd s m).2 then s.1 + (i : Int) else s.1 - (i : Int)) = _
    unfold hd
    generalize hk : (if slen s < m then slen s else m) = k at l
    have k1 : 1 ≤ k := by rw [← hk]; split <;> omega
    have hi2 : (i : Int) < k := by rw [l] at hi; omega
    show (if s.1 ≤ (if s.1 ≤ s.2 then s.1 + (k - 1) else s.1 - (k - 1)) then s.1 + (i : Int) else s.1 - (i : Int)) = _
    split <;> split <;> omega
  · rw [List.getElem?_eq_none (by rw [rd_len]; omega)]
    rw [List.getElem?_eq_none]
    rw [List.length_take, rd_len]
    rw [l] at hi
    revert hi
    split <;> intro hi <;> omega
def fpart : List Sc → Int → List Sc
  | [], _ => []
  | s :: r, m => (if 0 < m then [hd s m] else []) ++ fpart r (m - slen s)
theorem rdL_fpart : ∀ (ss : List Sc) (m : Int), rdL (fpart ss m) = (rdL ss).take m.toNat
  | [], m => by
    show [] = List.take _ []
    rw [List.take_nil]
  | s :: r, m => by
    have p := slen_pos s
    show rdL ((if 0 < m then [hd s m] else []) ++ fpart r (m - slen s)) = (rd s ++ rdL r).take m.toNat
    rw [rdL_app, rdL_fpart r, List.take_append, rd_len, show m.toNat - (slen s).toNat = (m - slen s).toNat by omega]
    congr 1
    by_cases h : 0 < m
    · rw [if_pos h]
      show rd (hd s m) ++ [] = _
      rw [List.append_nil, rd_hd h]
    · rw [if_neg h, show m.toNat = 0 by omega]
      rfl
end Kb

namespace Kb
open PySem PySem.Spec PyProof.Rows L2
/-! ### a comprehension of two loops -/
section
variable {K : PySem.W.Frag} {a b : Addr} {xs ys : List V} {g g1 : TG} {tt tt1 : TT} {wi1 : TI} {te : TE} {vs vs1 : List Nat} {σ σ2 : L2.St} {H1 H4 : Hp} {D : Addr} {Qd N : Hp → Prop}
def InOk (g1 : TG) (tt1 : TT) (te : TE) (vs1 : List Nat) (σ2 : L2.St) (D : Addr) (N : Hp → Prop) (J : It) (H4 : Hp) : Prop :=
  ∃ W1 : Nat → Nat → Hp → Prop, (∃ m, W1 0 m H4) ∧ ∀ j k H, W1 j k H →
    (J.stop j H ∧ N H) ∨ (J.go j H ∧ ∃ N1 : Hp → Prop, (∀ H', N1 H' → ∃ k', k' < k ∧ W1 (j + 1) k' H') ∧ ∀ x H', J.yld j H x H' →
      g1 x (wipe σ2 vs1) H' fun σ3 H5 => wipe σ3 vs1 = wipe σ2 vs1 ∧ tt1 σ3 H5 fun c H6 => if c = true then te σ3 H6 fun y H7 => ∃ acc, H7 D = some (.lst acc) ∧ acc.length < sizeLine ∧ N1 (upd H7 D (.lst (acc ++ [y]))) else N1 H6)
theorem in_list (Pw : Nat → Hp → Prop) (h0 : Pw 0 H4) (hl : ∀ j H, j ≤ ys.length → Pw j H → SqL K H b ys)
    (hs : ∀ j x H, ys[j]? = some x → Pw j H → g1 x (wipe σ2 vs1) H fun σ3 H5 => wipe σ3 vs1 = wipe σ2 vs1 ∧ tt1 σ3 H5 fun c H6 => if c = true then te σ3 H6 fun y H7 => ∃ acc, H7 D = some (.lst acc) ∧ acc.length < sizeLine ∧ Pw (j + 1) (upd H7 D (.lst (acc ++ [y]))) else Pw (j + 1) H6)
    (hd : ∀ H, Pw ys.length H → N H) : InOk g1 tt1 te vs1 σ2 D N (Itl K b) H4 := by
  refine ⟨fun j k H => k = ys.length - j ∧ j ≤ ys.length ∧ Pw j H, ⟨ys.length, by simp, Nat.zero_le _, h0⟩, ?_⟩
  rintro j k H ⟨rfl, hj, p⟩
  have q := hl j H hj p
  by_cases lt : j < ys.length
  · refine .inr ⟨⟨ys, ys[j], q, List.getElem?_eq_getElem lt⟩, Pw (j + 1), fun H' p' => ⟨ys.length - (j + 1), by omega, rfl, lt, p'⟩, fun x H' y => ?_⟩
    rw [y.1]
    exact hs j x _ (y.2 ys q) p
  · rw [show j = ys.length by omega] at p ⊢
    exact .inl ⟨⟨ys, q, Nat.le_refl _⟩, hd H p⟩
theorem two_list (Pv : Nat → Hp → Prop) (h0 : Pv 0 (upd H1 D (.lst []))) (hl : ∀ i H, i ≤ xs.length → Pv i H → SqL K H a xs)
    (hs : ∀ i x H, xs[i]? = some x → Pv i H → g x (wipe σ vs) H fun σ2 H2 => wipe σ2 vs = wipe σ vs ∧ tt σ2 H2 fun c H3 => if c = true then wi1 σ2 H3 (InOk g1 tt1 te vs1 σ2 D (Pv (i + 1))) else Pv (i + 1) H3)
    (hd : ∀ H, Pv xs.length H → Qd H) :
    ∃ W : Nat → Nat → Hp → Prop, (∃ m, W 0 m (upd H1 D (.lst []))) ∧ ∀ i m H, W i m H →
      ((Itl K a).stop i H ∧ Qd H) ∨ ((Itl K a).go i H ∧ ∃ N : Hp → Prop, (∀ H', N H' → ∃ m', m' < m ∧ W (i + 1) m' H') ∧ ∀ x H', (Itl K a).yld i H x H' →
        g x (wipe σ vs) H' fun σ2 H2 => wipe σ2 vs = wipe σ vs ∧ tt σ2 H2 fun c H3 => if c = true then wi1 σ2 H3 (InOk g1 tt1 te vs1 σ2 D N) else N H3) := by
  refine ⟨fun i m H => m = xs.length - i ∧ i ≤ xs.length ∧ Pv i H, ⟨xs.length, by simp, Nat.zero_le _, h0⟩, ?_⟩
  rintro i m H ⟨rfl, hi, p⟩
  have q := hl i H hi p
  by_cases lt : i < xs.length
  · refine .inr ⟨⟨xs, xs[i], q, List.getElem?_eq_getElem lt⟩, Pv (i + 1), fun H' p' => ⟨xs.length - (i + 1), by omega, rfl, lt, p'⟩, fun x H' y => ?_⟩
    rw [y.1]
    exact hs i x _ (y.2 xs q) p
  · rw [show i = xs.length by omega] at p ⊢
    exact .inl ⟨⟨xs, q, Nat.le_refl _⟩, hd H p⟩
end
/-! ### promises of the parts -/
def spCheckScan : Sp := fun vs H Q _ => ∃ (v : V) (s : Sc), vs = [v] ∧ IsSc H v s ∧ Nn s ∧ RetV .non H Q
def spCheckFrom : Sp := fun vs H Q _ => ∃ i l : Int, vs = [.int i, .int l] ∧ l ≤ i ∧ RetV .non H Q
def spOthers1 : Sp := fun vs H Q _ => ∃ (a t : Addr) (ss : List Sc) (s : Sc), vs = [.ref a, .ref t] ∧ Scs H a ss ∧ Scs H t [s] ∧ ss.length ≤ 1000 ∧ ∀ p H', H p = none → Ex H H' → Scs H' p (woL ss (lo s) (hi s)) → Q (.ref p) H'
def spAhead1 : Sp := fun vs H Q _ => ∃ (t a : Addr) (ss : List Sc) (s : Sc), vs = [.ref t, .ref a] ∧ Scs H a ss ∧ Scs H t [s] ∧ ss.length ≤ 1000 ∧ ∀ p H', H p = none → Ex H H' → Scs H' p (jn (s :: woL ss (lo s) (hi s))) → Q (.ref p) H'
def spCheckInterval : Sp := fun vs H Q _ => ∃ i j : Int, vs = [.int i, .int j] ∧ 0 ≤ i ∧ i ≤ j ∧ RetV .non H Q
def spScanHead : Sp := fun vs H Q _ => ∃ (v : V) (s : Sc) (m : Int), vs = [v, .int m] ∧ IsSc H v s ∧ ∀ p H', H p = none → Ex H H' → H' p = some (.tup [.int (hd s m).1, .int (hd s m).2]) → Q (.ref p) H'
def spScanWo : Sp := fun vs H Q _ => ∃ (v : V) (s : Sc) (l h : Int), vs = [v, .int l, .int h] ∧ IsSc H v s ∧ l ≤ h ∧ ∀ p H', H p = none → Ex H H' → Scs H' p (wo s l h) → Q (.ref p) H'
def spAllWo : Sp := fun vs H Q _ => ∃ (a : Addr) (ss : List Sc) (l h : Int), vs = [.ref a, .int l, .int h] ∧ Scs H a ss ∧ ss.length ≤ 1000 ∧ l ≤ h ∧ ∀ p H', H p = none → Ex H H' → Scs H' p (woL ss l h) → Q (.ref p) H'
def spFirst : Sp := fun vs H Q _ => ∃ (a : Addr) (ss : List Sc) (m : Int), vs = [.ref a, .int m] ∧ Scs H a ss ∧ Good ss ∧ 0 ≤ m ∧ ∀ p H', H p = none → Ex H H' → Scs H' p (jn (fpart ss m)) → Q (.ref p) H'
def spTop : Sp := fun vs H Q _ => ∃ (a : Addr) (ss : List Sc) (v : V) (s : Sc), vs = [.ref a, v] ∧ Scs H a ss ∧ Good ss ∧ IsSc H v s ∧ Nn s ∧ ∀ p H', H p = none → Ex H H' → Scs H' p (jn (s :: woL ss (lo s) (hi s))) → Q (.ref p) H'
def spWithout : Sp := fun vs H Q _ => ∃ (a : Addr) (ss : List Sc) (l h : Int), vs = [.ref a, .int l, .int h] ∧ Scs H a ss ∧ Good ss ∧ 0 ≤ l ∧ l ≤ h ∧ ∀ p H', H p = none → Ex H H' → Scs H' p (jn (woL ss l h)) → Q (.ref p) H'
theorem filter_snoc {ss : List Sc} {i : Nat} {s : Sc} (f : Sc → Bool) (h : ss[i]? = some s) : (ss.take (i + 1)).filter f = (ss.take i).filter f ++ if f s = true then [s] else [] := by
  rw [List.take_add_one, h, List.filter_append]
  congr 1
  show [s].filter f = _
  rw [List.filter_cons]
  rfl
theorem wo_len (s : Sc) (l h : Int) : (wo s l h).length ≤ 2 := by
  have z : (lft s l h).length ≤ 2 := List.length_filter_le _ _
  unfold wo
  split
  · exact z
  · rw [List.length_map, List.length_reverse]
    exact z
theorem woL_len : ∀ (ss : List Sc) (l h : Int), (woL ss l h).length ≤ 2 * ss.length
  | [], _, _ => Nat.zero_le _
  | s :: r, l, h => by
    have a := wo_len s l h
    have b := woL_len r l h
    show (wo s l h ++ woL r l h).length ≤ 2 * (r.length + 1)
    rw [List.length_append]
    omega
theorem woL_snoc {ss : List Sc} {i : Nat} {s : Sc} {l h : Int} (e : ss[i]? = some s) : woL (ss.take (i + 1)) l h = woL (ss.take i) l h ++ wo s l h := by
  unfold woL
  rw [List.take_add_one, e, List.flatMap_append]
  congr 1
  exact List.append_nil _
theorem fpart_len : ∀ (ss : List Sc) (m : Int), (fpart ss m).length ≤ ss.length
  | [], _ => Nat.le_refl _
  | s :: r, m => by
    have b := fpart_len r (m - slen s)
    show ((if 0 < m then [hd s m] else []) ++ fpart r (m - slen s)).length ≤ r.length + 1
    rw [List.length_append]
    split
    · rw [List.length_singleton]
      omega
    · rw [List.length_nil]
      omega
theorem fpart_app : ∀ (ss ts : List Sc) (m : Int), fpart (ss ++ ts) m = fpart ss m ++ fpart ts (m - psum ss)
  | [], ts, m => by
    show fpart ts m = fpart ts (m - 0)
    rw [Int.sub_zero]
  | s :: r, ts, m => by
    show (if 0 < m then [hd s m] else []) ++ fpart (r ++ ts) (m - slen s) = ((if 0 < m then [hd s m] else []) ++ fpart r (m - slen s)) ++ fpart ts (m - (slen s + psum r))
    rw [fpart_app r, List.append_assoc, show m - slen s - psum r = m - (slen s + psum r) by omega]
theorem fpart_snoc {ss : List Sc} {i : Nat} {s : Sc} {m : Int} (e : ss[i]? = some s) : fpart (ss.take (i + 1)) m = fpart (ss.take i) m ++ if 0 < m - psum (ss.take i) then [hd s (m - psum (ss.take i))] else [] := by
  rw [List.take_add_one, e, fpart_app]
  congr 1
  exact List.append_nil _
end Kb

namespace Kb
open PySem PySem.Spec PyProof.Rows L2
/-! ### ascending intervals, and what of a scan is in none of them -/
structure Asc (zs : List Sc) : Prop where
  le : ∀ t ∈ zs, t.1 ≤ t.2
  up : zs.Pairwise fun a b => a.2 < b.1
theorem Asc.next {zs : List Sc} (A : Asc zs) {i j : Nat} {a b : Sc} (hi : zs[i]? = some a) (hj : zs[j]? = some b) (h : i < j) : a.2 < b.1 := by
  obtain ⟨l1, rfl⟩ := List.getElem?_eq_some_iff.mp hi
  obtain ⟨l2, rfl⟩ := List.getElem?_eq_some_iff.mp hj
  exact List.pairwise_iff_getElem.mp A.up i j l1 l2 h
theorem Asc.leAt {zs : List Sc} (A : Asc zs) {i : Nat} {a : Sc} (hi : zs[i]? = some a) : a.1 ≤ a.2 := A.le _ (List.mem_of_getElem? hi)
theorem asc_of {ss zs : List Sc} (d : ss.Pairwise Apart) (p : zs.Perm (ss.map spn)) (o : zs.Pairwise fun a b => a.1 ≤ b.1) : Asc zs := by
  have d1 : (ss.map spn).Pairwise fun a b => a.2 < b.1 ∨ b.2 < a.1 := List.pairwise_map.mpr (d.imp fun h => h)
  have d2 : zs.Pairwise fun a b => a.2 < b.1 ∨ b.2 < a.1 := (p.pairwise_iff (R := fun a b : Sc => a.2 < b.1 ∨ b.2 < a.1) (fun {a b} h => h.symm)).mpr d1
  have w : ∀ z ∈ zs, z.1 ≤ z.2 := fun z hz => by
    obtain ⟨s, _, rfl⟩ := List.mem_map.mp (p.mem_iff.mp hz)
    exact spn_le s
  refine ⟨w, List.pairwise_iff_getElem.mpr fun i j hi hj h => ?_⟩
  have a := List.pairwise_iff_getElem.mp d2 i j hi hj h
  have b := List.pairwise_iff_getElem.mp o i j hi hj h
  have c := w _ (List.getElem_mem hi)
  have d := w _ (List.getElem_mem hj)
  omega
def out (zs : List Sc) (z : Int) : Bool := zs.all fun t => decide (z < t.1 ∨ t.2 < z)
theorem out_iff {zs : List Sc} {z : Int} : out zs z = true ↔ ∀ t ∈ zs, z < t.1 ∨ t.2 < z := by
  unfold out
  rw [List.all_eq_true]
  exact ⟨fun h t ht => of_decide_eq_true (h t ht), fun h t ht => decide_eq_true (h t ht)⟩
def outL (ts : List Sc) (z : Int) : Bool := !decide (z ∈ rdL ts)
theorem out_eq {ts zs : List Sc} (p : zs.Perm (ts.map spn)) (z : Int) : out zs z = outL ts z := by
  refine Bool.eq_iff_iff.mpr ⟨fun h => ?_, fun h => ?_⟩
  · have h := out_iff.mp h
    unfold outL
    rw [decide_eq_false]
    · rfl
    · intro m
      obtain ⟨s, hs, a, b⟩ := mem_rdL.mp m
      have k := h (spn s) (p.mem_iff.mpr (List.mem_map.mpr ⟨s, hs, rfl⟩))
      have k : z < lo s ∨ hi s < z := k
      omega
  · refine out_iff.mpr fun t ht => ?_
    obtain ⟨s, hs, rfl⟩ := List.mem_map.mp (p.mem_iff.mp ht)
    show z < lo s ∨ hi s < z
    have h : z ∉ rdL ts := fun m => by
      unfold outL at h
      rw [decide_eq_true m] at h
      cases h
    by_cases c : lo s ≤ z ∧ z ≤ hi s
    · exact (h (mem_rdL.mpr ⟨s, hs, c.1, c.2⟩)).elim
    · omega
theorem mem_seg {a b z : Int} : z ∈ seg a b ↔ a ≤ z ∧ z ≤ b := by
  unfold seg
  rw [List.mem_map]
  constructor
  · rintro ⟨m, hm, rfl⟩
    rw [List.mem_range] at hm
    omega
  · rintro ⟨h1, h2⟩
    exact ⟨(z - a).toNat, by rw [List.mem_range]; omega, by omega⟩
theorem seg_app {b c : Int} (h2 : b ≤ c) : ∀ (n : Nat) (a : Int), (b + 1 - a).toNat = n → a ≤ b + 1 → seg a b ++ seg (b + 1) c = seg a c
  | 0, a, e, h => by
    have : a = b + 1 := by omega
    rw [seg_nil (show b < a by omega), this]
    rfl
  | n + 1, a, e, h => by
    rw [seg_cons (show a ≤ b by omega), seg_cons (show a ≤ c by omega), List.cons_append, seg_app h2 n (a + 1) (by omega) (by omega)]
theorem seg_out {f : Int → Bool} {a b : Int} (h : ∀ z, a ≤ z → z ≤ b → f z = true) : (seg a b).filter f = seg a b :=
  List.filter_eq_self.mpr fun z hz => h z (mem_seg.mp hz).1 (mem_seg.mp hz).2
theorem seg_in {f : Int → Bool} {a b : Int} (h : ∀ z, a ≤ z → z ≤ b → f z = false) : (seg a b).filter f = [] :=
  List.filter_eq_nil_iff.mpr fun z hz => by rw [h z (mem_seg.mp hz).1 (mem_seg.mp hz).2]; decide
def ins (l g : Int) (t : Sc) : Bool := decide (l < t.1 ∧ t.2 < g)
/-- the walk along the intervals: k of them are behind, st is where the next row begins -/
structure OI (zs : List Sc) (l g : Int) (k : Nat) (st : Int) (L : List Sc) : Prop where
  rows : rdL L = (seg l (st - 1)).filter (out zs)
  ge : l ≤ st
  bel : ∀ (i : Nat) (t : Sc), zs[i]? = some t → i < k → t.2 < st
  abv : ∀ (i : Nat) (t : Sc), zs[i]? = some t → k ≤ i → st ≤ t.2
  src : st = l ∨ ∃ (j : Nat) (t : Sc), j < k ∧ zs[j]? = some t ∧ t.1 ≤ g ∧ st = t.2 + 1
  few : L.length ≤ ((zs.take k).filter (ins l g)).length + if st ≤ g then 0 else 1
theorem OI.start {zs : List Sc} {l g : Int} {k : Nat} (b : ∀ (i : Nat) (t : Sc), zs[i]? = some t → i < k → t.2 < l) (a : ∀ (i : Nat) (t : Sc), zs[i]? = some t → k ≤ i → l ≤ t.2) : OI zs l g k l [] := by
  refine ⟨?_, Int.le_refl _, b, a, .inl rfl, Nat.zero_le _⟩
  rw [seg_nil (by omega)]
  rfl
theorem rd_seg {a b : Int} (h : a ≤ b) : rd (a, b) = seg a b := rd_up h
theorem out_no {zs : List Sc} {z : Int} {t : Sc} (h : t ∈ zs) (a : t.1 ≤ z) (b : z ≤ t.2) : out zs z = false := by
  refine Bool.eq_false_iff.mpr fun y => ?_
  have := out_iff.mp y t h
  omega
/-- between what is behind and the next interval all addresses are outside -/
theorem OI.free {zs : List Sc} (A : Asc zs) {l g : Int} {k : Nat} {st : Int} {L : List Sc} (I : OI zs l g k st L) {z : Int} (h1 : st ≤ z) (h2 : ∀ t, zs[k]? = some t → z < t.1) : out zs z = true := by
  refine out_iff.mpr fun t ht => ?_
  obtain ⟨i, hi⟩ := List.getElem?_of_mem ht
  by_cases c : i < k
  · have := I.bel i t hi c
    omega
  · by_cases e : i = k
    · subst e
      exact .inl (h2 t hi)
    · have lk : k < zs.length := by
        have := (List.getElem?_eq_some_iff.mp hi).1
        omega
      have hk := List.getElem?_eq_getElem lk
      have a := A.next hk hi (by omega)
      have b := A.leAt hk
      have := h2 _ hk
      omega
theorem OI.le_at {zs : List Sc} (A : Asc zs) {l g : Int} {k : Nat} {st : Int} {L : List Sc} (I : OI zs l g k st L) {t : Sc} (hk : zs[k]? = some t) (lg : l ≤ g) (hg : t.1 ≤ g) : st ≤ g := by
  rcases I.src with e | ⟨j, u, hj, hu, _, e⟩
  · omega
  · have := A.next hu hk hj
    omega
theorem OI.step {zs : List Sc} (A : Asc zs) {l g : Int} {k : Nat} {st : Int} {L : List Sc} (I : OI zs l g k st L) {t : Sc} (hk : zs[k]? = some t) (lg : l ≤ g) (hg : t.1 ≤ g) :
    OI zs l g (k + 1) (t.2 + 1) (if st < t.1 then L ++ [(st, t.1 - 1)] else L) := by
  have tl := A.leAt hk
  have ta := I.abv k t hk (Nat.le_refl _)
  have sg := I.le_at A hk lg hg
  have ge := I.ge
  have tm := List.mem_of_getElem? hk
  refine ⟨?_, by omega, fun i u hu hi => ?_, fun i u hu hi => ?_, .inr ⟨k, t, Nat.lt_succ_self _, hk, hg, rfl⟩, ?_⟩
  · rw [show t.2 + 1 - 1 = t.2 by omega]
    by_cases c : st < t.1
    · rw [if_pos c, rdL_app, I.rows, show rdL [(st, t.1 - 1)] = rd (st, t.1 - 1) from List.append_nil _, rd_seg (by omega)]
      have e1 := seg_app (b := t.1 - 1) (c := t.2) (by omega) _ l rfl (by omega)
      have e2 := seg_app (b := st - 1) (c := t.1 - 1) (by omega) _ l rfl (by omega)
      rw [show st - 1 + 1 = st by omega] at e2
      rw [← e1, ← e2, List.filter_append, List.filter_append, seg_out (a := st) (b := t.1 - 1) fun z h1 h2 => I.free A h1 fun u hu => ?_, seg_in (a := t.1 - 1 + 1) fun z h1 h2 => out_no tm (by omega) h2, List.append_nil]
      rw [hk] at hu
      cases hu
      omega
    · rw [if_neg c, I.rows]
      have e1 := seg_app (b := st - 1) (c := t.2) (by omega) _ l rfl (by omega)
      rw [← e1, List.filter_append, seg_in (a := st - 1 + 1) fun z h1 h2 => out_no tm (by omega) h2, List.append_nil]
  · by_cases c : i < k
    · have := A.next hu hk c
      omega
    · have : i = k := by omega
      subst this
      rw [hk] at hu
      cases hu
      omega
  · have a := A.next hk hu (by omega)
    have b := A.leAt hu
    omega
  · have f := I.few
    rw [if_pos sg] at f
    have e : (zs.take (k + 1)).filter (ins l g) = (zs.take k).filter (ins l g) ++ if ins l g t = true then [t] else [] := by
      rw [List.take_add_one, hk, List.filter_append]
      congr 1
      show [t].filter _ = _
      rw [List.filter_cons]
      rfl
    rw [e, List.length_append]
    by_cases c : st < t.1
    · rw [if_pos c, List.length_append, List.length_singleton]
      by_cases d : t.2 + 1 ≤ g
      · rw [if_pos d, if_pos (show ins l g t = true from decide_eq_true ⟨by omega, by omega⟩), List.length_singleton]
        omega
      · rw [if_neg d]
        omega
    · rw [if_neg c]
      omega
theorem OI.stop {zs : List Sc} (A : Asc zs) {l g : Int} {k : Nat} {st : Int} {L : List Sc} (I : OI zs l g k st L) (hk : ∀ t, zs[k]? = some t → g < t.1) (lg : l ≤ g) :
    rdL (if st ≤ g then L ++ [(st, g)] else L) = (seg l g).filter (out zs) ∧ (if st ≤ g then L ++ [(st, g)] else L).length ≤ 1 + (zs.filter (ins l g)).length := by
  have ge := I.ge
  have f := I.few
  have tk : ((zs.take k).filter (ins l g)).length ≤ (zs.filter (ins l g)).length := ((List.take_sublist k zs).filter _).length_le
  by_cases c : st ≤ g
  · rw [if_pos c]
    rw [if_pos c] at f
    refine ⟨?_, by rw [List.length_append, List.length_singleton]; omega⟩
    rw [rdL_app, I.rows, show rdL [(st, g)] = rd (st, g) from List.append_nil _, rd_seg c]
    have e2 := seg_app (b := st - 1) (c := g) (by omega) _ l rfl (by omega)
    rw [show st - 1 + 1 = st by omega] at e2
    rw [← e2, List.filter_append, seg_out (a := st) fun z h1 h2 => I.free A h1 fun u hu => by have := hk u hu; omega]
  · rw [if_neg c]
    rw [if_neg c] at f
    refine ⟨?_, by omega⟩
    rcases I.src with e | ⟨j, u, hj, hu, hg, e⟩
    · omega
    · rw [I.rows]
      have e2 := seg_app (b := g) (c := st - 1) (by omega) _ l rfl (by omega)
      rw [← e2, List.filter_append, seg_in (a := g + 1) fun z h1 h2 => out_no (List.mem_of_getElem? hu) (by omega) (by omega), List.append_nil]
theorem OI.all {zs : List Sc} (A : Asc zs) {s : Sc} {k : Nat} {st : Int} {L : List Sc} (I : OI zs (lo s) (hi s) k st L) (hk : ∀ t, zs[k]? = some t → hi s < t.1) :
    rdL (if s.1 ≤ s.2 then (if st ≤ hi s then L ++ [(st, hi s)] else L) else (if st ≤ hi s then L ++ [(st, hi s)] else L).reverse.map swp) = (rd s).filter (out zs) := by
  have z := (I.stop A hk (lo_hi s)).1
  by_cases c : s.1 ≤ s.2
  · rw [if_pos c, z, rd_up c]
    unfold lo hi
    rw [if_neg (by omega)]
    congr 2
    split <;> omega
  · rw [if_neg c, rdL_rev, z, rd_dn (by omega), ← List.filter_reverse]
    unfold lo hi
    rw [if_pos (by omega), if_neg (by omega)]
/-! ### how many rows there are -/
def cntS (ss zs : List Sc) : Nat := (ss.map fun s => (zs.filter (ins (lo s) (hi s))).length).sum
theorem cntS_le (ss zs : List Sc) : cntS ss zs ≤ ss.length * zs.length := by
  unfold cntS
  induction ss with
  | nil => exact Nat.zero_le _
  | cons s r ih =>
    rw [List.map_cons, List.sum_cons, List.length_cons, Nat.succ_mul]
    have := List.length_filter_le (ins (lo s) (hi s)) zs
    omega
theorem cntS_apart {ss : List Sc} (d : ss.Pairwise Apart) : ∀ {zs : List Sc}, (∀ t ∈ zs, t.1 ≤ t.2) → cntS ss zs ≤ zs.length
  | [], _ => by
    unfold cntS
    rw [show (ss.map fun s => (([] : List Sc).filter (ins (lo s) (hi s))).length) = ss.map fun _ => 0 from rfl]
    clear d
    induction ss with
    | nil => exact Nat.le_refl _
    | cons s r ih => rw [List.map_cons, List.sum_cons]; exact (Nat.zero_add _).symm ▸ ih
  | z :: zs, h => by
    have ih := cntS_apart d (zs := zs) fun t ht => h t (List.mem_cons_of_mem _ ht)
    have hz := h z List.mem_cons_self
    have e : ∀ l : List Sc, cntS l (z :: zs) = cntS l zs + (l.filter fun s => ins (lo s) (hi s) z).length := by
      intro l
      induction l with
      | nil => rfl
      | cons s r ihr =>
        unfold cntS at ihr ⊢
        rw [List.map_cons, List.sum_cons, List.map_cons, List.sum_cons, ihr, List.filter_cons, List.filter_cons]
        split
        · rw [List.length_cons, List.length_cons]
          omega
        · omega
    have o : (ss.filter fun s => ins (lo s) (hi s) z).length ≤ 1 := by
      clear e ih h
      induction ss with
      | nil => exact Nat.zero_le _
      | cons s r ihr =>
        obtain ⟨d1, d2⟩ := List.pairwise_cons.mp d
        rw [List.filter_cons]
        split
        · rename_i c
          have c : lo s < z.1 ∧ z.2 < hi s := of_decide_eq_true c
          rw [List.filter_eq_nil_iff.mpr fun t ht y => ?_]
          · exact Nat.le_refl _
          · have y : lo t < z.1 ∧ z.2 < hi t := of_decide_eq_true y
            rcases d1 t ht with q | q <;> omega
        · exact ihr d2
    rw [e, List.length_cons]
    omega
theorem Apart.one (s : Sc) : [s].Pairwise Apart := List.pairwise_singleton _ _
/-! ### promises -/
def spReach : Sp := fun vs H Q _ => ∃ (p : Addr) (zs : List Sc) (a : Int), vs = [.ref p, .int a] ∧ Scs H p zs ∧ zs.length ≤ 2 ^ 20 ∧ Asc zs ∧
  ∀ k : Nat, k ≤ zs.length → (∀ (i : Nat) (t : Sc), zs[i]? = some t → i < k → t.2 < a) → (∀ (i : Nat) (t : Sc), zs[i]? = some t → k ≤ i → a ≤ t.2) → RetV (.int k) H Q
def spOutside : Sp := fun vs H Q _ => ∃ (v : V) (p : Addr) (s : Sc) (zs : List Sc), vs = [v, .ref p] ∧ IsSc H v s ∧ Scs H p zs ∧ zs.length ≤ 1000 ∧ Asc zs ∧
  ∀ q H' rows, H q = none → Ex H H' → Scs H' q rows → rdL rows = (rd s).filter (out zs) → rows.length ≤ 1 + (zs.filter (ins (lo s) (hi s))).length → Q (.ref q) H'
def spOthers : Sp := fun vs H Q _ => ∃ (a t : Addr) (ss ts : List Sc), vs = [.ref a, .ref t] ∧ Scs H a ss ∧ Scs H t ts ∧ ss.length ≤ 1000 ∧ ts.length ≤ 1000 ∧ ts.Pairwise Apart ∧
  ∀ p H' rows, H p = none → Ex H H' → Scs H' p rows → rdL rows = (rdL ss).filter (outL ts) → rows.length ≤ ss.length * (ts.length + 1) → (ss.Pairwise Apart → rows.length ≤ ss.length + ts.length) → Q (.ref p) H'
def spAllOut : Sp := fun vs H Q _ => ∃ (a : Addr) (ss : List Sc) (l h : Int), vs = [.ref a, .int l, .int h] ∧ Scs H a ss ∧ ss.length ≤ 1000 ∧ l ≤ h ∧
  ∀ p H' rows, H p = none → Ex H H' → Scs H' p rows → rdL rows = (rdL ss).filter (fun z => !decide (l ≤ z ∧ z ≤ h)) → rows.length ≤ 2 * ss.length → (ss.Pairwise Apart → rows.length ≤ ss.length + 1) → Q (.ref p) H'
def spFirstOf : Sp := fun vs H Q _ => ∃ (a : Addr) (ss : List Sc) (m : Int), vs = [.ref a, .int m] ∧ Scs H a ss ∧ ss.length ≤ 1000 ∧ ∀ p H', H p = none → Ex H H' → Scs H' p (fpart ss m) → Q (.ref p) H'
def ahead (ts ss : List Sc) : List Sc := jn (dup (rdL ts ++ (rdL ss).filter (outL ts)))
def spAhead : Sp := fun vs H Q _ => ∃ (t a : Addr) (ts ss : List Sc), vs = [.ref t, .ref a] ∧ Scs H t ts ∧ Scs H a ss ∧ ts.length ≤ 1000 ∧ ss.length ≤ 1000 ∧ ts.Pairwise Apart ∧
  ∀ p H', H p = none → Ex H H' → Scs H' p (ahead ts ss) → (ss.Pairwise Apart → (ahead ts ss).length ≤ 2 * ts.length + ss.length) → Q (.ref p) H'
end Kb

namespace Kb
open PySem PySem.Spec PyProof.Rows L2 StX
def topS (i : Nat) : Stmt := PySem.Challenge.pw_scanmisses_k03_parts_of_lists.main.body.getD i (.Pass ⟨0, 0, 0, 0⟩)
abbrev sis_integer : Stmt := topS 7
theorem scis_integer : FnScope ["value"] ["value"] (defScope sis_integer) := ⟨rfl, rfl, rfl, by decide +kernel, rfl, by decide +kernel, by decide +kernel⟩
abbrev sis_from_zero : Stmt := topS 8
theorem scis_from_zero : FnScope ["value"] ["value"] (defScope sis_from_zero) := ⟨rfl, rfl, rfl, by decide +kernel, rfl, by decide +kernel, by decide +kernel⟩
abbrev sis_scan : Stmt := topS 9
theorem scis_scan : FnScope ["value"] ["value"] (defScope sis_scan) := ⟨rfl, rfl, rfl, by decide +kernel, rfl, by decide +kernel, by decide +kernel⟩
abbrev sis_list : Stmt := topS 10
theorem scis_list : FnScope ["value", "scan", "spans", "first", "last", "one", "two"] ["value"] (defScope sis_list) := ⟨rfl, rfl, rfl, by decide +kernel, rfl, by decide +kernel, by decide +kernel⟩
abbrev scheck_list : Stmt := topS 11
theorem sccheck_list : FnScope ["scans"] ["scans"] (defScope scheck_list) := ⟨rfl, rfl, rfl, by decide +kernel, rfl, by decide +kernel, by decide +kernel⟩
abbrev scheck_scan : Stmt := topS 12
theorem sccheck_scan : FnScope ["scan"] ["scan"] (defScope scheck_scan) := ⟨rfl, rfl, rfl, by decide +kernel, rfl, by decide +kernel, by decide +kernel⟩
abbrev scheck_from : Stmt := topS 13
theorem sccheck_from : FnScope ["number", "least"] ["number", "least"] (defScope scheck_from) := ⟨rfl, rfl, rfl, by decide +kernel, rfl, by decide +kernel, by decide +kernel⟩
abbrev scheck_interval : Stmt := topS 14
theorem sccheck_interval : FnScope ["low", "high"] ["low", "high"] (defScope scheck_interval) := ⟨rfl, rfl, rfl, by decide +kernel, rfl, by decide +kernel, by decide +kernel⟩
abbrev sscan_length : Stmt := topS 16
theorem scscan_length : FnScope ["scan"] ["scan"] (defScope sscan_length) := ⟨rfl, rfl, rfl, by decide +kernel, rfl, by decide +kernel, by decide +kernel⟩
abbrev saddress_in : Stmt := topS 17
theorem scaddress_in : FnScope ["scan", "place", "first", "last"] ["scan", "place"] (defScope saddress_in) := ⟨rfl, rfl, rfl, by decide +kernel, rfl, by decide +kernel, by decide +kernel⟩
abbrev sscan_head : Stmt := topS 18
theorem scscan_head : FnScope ["scan", "many"] ["scan", "many"] (defScope sscan_head) := ⟨rfl, rfl, rfl, by decide +kernel, rfl, by decide +kernel, by decide +kernel⟩
abbrev sfirst_reaching : Stmt := topS 19
theorem scfirst_reaching : FnScope ["spans", "address", "low", "high", "middle"] ["spans", "address"] (defScope sfirst_reaching) := ⟨rfl, rfl, rfl, by decide +kernel, rfl, by decide +kernel, by decide +kernel⟩
abbrev sscan_outside : Stmt := topS 20
theorem scscan_outside : FnScope ["scan", "spans", "least", "greatest", "left", "start", "at", "low", "high"] ["scan", "spans"] (defScope sscan_outside) := ⟨rfl, rfl, rfl, by decide +kernel, rfl, by decide +kernel, by decide +kernel⟩
abbrev sall_without : Stmt := topS 21
theorem scall_without : FnScope ["scans", "low", "high"] ["scans", "low", "high"] (defScope sall_without) := ⟨rfl, rfl, rfl, by decide +kernel, rfl, by decide +kernel, by decide +kernel⟩
abbrev sothers_of : Stmt := topS 22
theorem scothers_of : FnScope ["scans", "taken", "spans", "scan", "part"] ["scans", "taken"] (defScope sothers_of) := ⟨rfl, rfl, rfl, by decide +kernel, rfl, by decide +kernel, by decide +kernel⟩
abbrev sfirst_of : Stmt := topS 23
theorem scfirst_of : FnScope ["scans", "many", "taken", "left", "scan"] ["scans", "many"] (defScope sfirst_of) := ⟨rfl, rfl, rfl, by decide +kernel, rfl, by decide +kernel, by decide +kernel⟩
abbrev sput_ahead : Stmt := topS 24
theorem scput_ahead : FnScope ["scans", "others"] ["scans", "others"] (defScope sput_ahead) := ⟨rfl, rfl, rfl, by decide +kernel, rfl, by decide +kernel, by decide +kernel⟩
abbrev sjoined : Stmt := topS 25
theorem scjoined : FnScope ["scans", "rows", "first", "last"] ["scans"] (defScope sjoined) := ⟨rfl, rfl, rfl, by decide +kernel, rfl, by decide +kernel, by decide +kernel⟩
abbrev sfirst_part : Stmt := topS 27
theorem scfirst_part : FnScope ["scans", "many"] ["scans", "many"] (defScope sfirst_part) := ⟨rfl, rfl, rfl, by decide +kernel, rfl, by decide +kernel, by decide +kernel⟩
abbrev son_top : Stmt := topS 28
theorem scon_top : FnScope ["scans", "scan"] ["scans", "scan"] (defScope son_top) := ⟨rfl, rfl, rfl, by decide +kernel, rfl, by decide +kernel, by decide +kernel⟩
abbrev swithout : Stmt := topS 29
theorem scwithout : FnScope ["scans", "low", "high"] ["scans", "low", "high"] (defScope swithout) := ⟨rfl, rfl, rfl, by decide +kernel, rfl, by decide +kernel, by decide +kernel⟩
abbrev s_law_bag : Stmt := topS 31
theorem sc_law_bag : FnScope ["cell"] ["cell"] (defScope s_law_bag) := ⟨rfl, rfl, rfl, by decide +kernel, rfl, by decide +kernel, by decide +kernel⟩
abbrev s_law_pick : Stmt := topS 32
theorem sc_law_pick : FnScope ["bag", "many", "told", "seed", "turn", "first", "second"] ["bag", "many"] (defScope s_law_pick) := ⟨rfl, rfl, rfl, by decide +kernel, rfl, by decide +kernel, by decide +kernel⟩
abbrev s_law_reads : Stmt := topS 33
theorem sc_law_reads : FnScope ["scans", "found", "first", "last", "step"] ["scans"] (defScope s_law_reads) := ⟨rfl, rfl, rfl, by decide +kernel, rfl, by decide +kernel, by decide +kernel⟩
abbrev s_law_joined : Stmt := topS 34
theorem sc_law_joined : FnScope ["scans", "found", "first", "last"] ["scans"] (defScope s_law_joined) := ⟨rfl, rfl, rfl, by decide +kernel, rfl, by decide +kernel, by decide +kernel⟩
abbrev s_law_mixed : Stmt := topS 35
theorem sc_law_mixed : FnScope ["bag", "items", "left", "found"] ["bag", "items"] (defScope s_law_mixed) := ⟨rfl, rfl, rfl, by decide +kernel, rfl, by decide +kernel, by decide +kernel⟩
abbrev s_law_list : Stmt := topS 36
theorem sc_law_list : FnScope ["bag", "many", "wide", "marks", "found", "low", "high", "k"] ["bag", "many", "wide"] (defScope s_law_list) := ⟨rfl, rfl, rfl, by decide +kernel, rfl, by decide +kernel, by decide +kernel⟩
abbrev s_law_tidied : Stmt := topS 37
theorem sc_law_tidied : FnScope ["addresses", "address"] ["addresses"] (defScope s_law_tidied) := ⟨rfl, rfl, rfl, by decide +kernel, rfl, by decide +kernel, by decide +kernel⟩
abbrev s_law_right : Stmt := topS 38
theorem sc_law_right : FnScope ["bag", "scans", "addresses", "kept", "many", "told", "turn", "scan", "top", "low", "high", "address"] ["bag", "scans"] (defScope s_law_right) := ⟨rfl, rfl, rfl, by decide +kernel, rfl, by decide +kernel, by decide +kernel⟩
abbrev slaw : Stmt := topS 39
theorem sclaw : FnScope ["script", "cell", "bag", "turn"] ["script"] (defScope slaw) := ⟨rfl, rfl, rfl, by decide +kernel, rfl, by decide +kernel, by decide +kernel⟩
section
variable {P : Program} {w : World} {K : PySem.W.Frag} {mg : Str → Option Value} {base : Heap}
theorem ok_check_scan (Dis_scan : Df P w K mg base "is_scan" 3 ["value"] spIsScan) {f : Addr} {fd : FuncData} (F : Fun K "check_scan" "check_scan" scheck_scan f fd) : FnOk P w K mg base CX0 4 f fd ["scan"] spCheckScan := by
  refine F.ok sccheck_scan (fun vs H Q E h => ?_) (fun cdv A outer s H vs Q E hr h => ?_)
  · obtain ⟨v, s, rfl, _⟩ := h
    rfl
  · obtain ⟨v, s, rfl, i1, n1, q⟩ := h
    refine ⟨_, (pss_one (ps_if (pt_not (pt_val (pe_df Dis_scan hr (pa_cons (pv 0) pa_nil)))) (pss_one ps_never) pss_nil)), ?_⟩
    exact ⟨v, rfl, v, s, rfl, i1, n1, fun H1 e1 => ⟨true, rfl, iteF (q.go e1)⟩⟩
theorem ok_check_from (Dis_integer : Df P w K mg base "is_integer" 1 ["value"] spIsInteger) {f : Addr} {fd : FuncData} (F : Fun K "check_from" "check_from" scheck_from f fd) : FnOk P w K mg base CX0 3 f fd ["number", "least"] spCheckFrom := by
  refine F.ok sccheck_from (fun vs H Q E h => ?_) (fun cdv A outer s H vs Q E hr h => ?_)
  · obtain ⟨i, l, rfl, _⟩ := h
    rfl
  · obtain ⟨i, l, rfl, h0, q⟩ := h
    refine ⟨_, (pss_one (ps_if (pw_or (pt_not (pt_val (pe_df Dis_integer hr (pa_cons (pv 0) pa_nil)))) (pw_or1 (pt_cmpR op_lt (pv 0) (pv 1) (nomark _)))).pt (pss_one ps_never) pss_nil)), ?_⟩
    refine ⟨.int i, rfl, i, rfl, fun H1 e1 => ⟨true, rfl, iteF ?_⟩⟩
    refine ⟨.int i, rfl, .int l, rfl, i, l, rfl, rfl, _, rfl, ?_⟩
    rw [decide_eq_false (show ¬ i < l by omega)]
    exact iteF (q.go e1)
theorem ok_check_interval (Dis_from_zero : Df P w K mg base "is_from_zero" 2 ["value"] spFromZero) {f : Addr} {fd : FuncData} (F : Fun K "check_interval" "check_interval" scheck_interval f fd) : FnOk P w K mg base CX0 3 f fd ["low", "high"] spCheckInterval := by
  refine F.ok sccheck_interval (fun vs H Q E h => ?_) (fun cdv A outer s H vs Q E hr h => ?_)
  · obtain ⟨i, j, rfl, _⟩ := h
    rfl
  · obtain ⟨i, j, rfl, h0, h1, q⟩ := h
    refine ⟨_, (pss_one (ps_if (pw_or (pt_not (pt_val (pe_df Dis_from_zero hr (pa_cons (pv 0) pa_nil)))) (pw_or (pt_not (pt_val (pe_df Dis_from_zero hr (pa_cons (pv 1) pa_nil)))) (pw_or1 (pt_cmpR op_gt (pv 0) (pv 1) (nomark _))))).pt (pss_one ps_never) pss_nil)), ?_⟩
    refine ⟨.int i, rfl, i, rfl, h0, fun H1 e1 => ⟨true, rfl, iteF ?_⟩⟩
    refine ⟨.int j, rfl, j, rfl, by omega, fun H2 e2 => ⟨true, rfl, iteF ?_⟩⟩
    refine ⟨.int i, rfl, .int j, rfl, i, j, rfl, rfl, _, rfl, ?_⟩
    rw [decide_eq_false (show ¬ j < i by omega)]
    exact iteF (q.go (e1.trans e2))
theorem ok_scan_head (B : Bt mg) (Dscan_length : Df P w K mg base "scan_length" 1 ["scan"] spScanLength) (Daddress_in : Df P w K mg base "address_in" 1 ["scan", "place"] spAddressIn) {f : Addr} {fd : FuncData} (F : Fun K "scan_head" "scan_head" sscan_head f fd) :
    FnOk P w K mg base CX0 2 f fd ["scan", "many"] spScanHead := by
  refine F.ok scscan_head (fun vs H Q E h => ?_) (fun cdv A outer s H vs Q E hr h => ?_)
  · obtain ⟨v, s, m, rfl, _⟩ := h
    rfl
  · obtain ⟨v, ⟨x, y⟩, m, rfl, ⟨t, rfl, ht⟩, q⟩ := h
    refine ⟨_, (pss_one (ps_ret (pe_tup (pa_cons (pe_ix ix_tup (pv 0) pe_int (fun _ _ => rfl)) (pa_cons (pe_df Daddress_in hr (pa_cons (pv 0) (pa_cons (pe_op op_sub (pe_callB (call_min2 rfl) (by rfl) B.min bo_min (pa_cons (pv 1) (pa_cons (pe_df Dscan_length hr (pa_cons (pv 0) pa_nil)) pa_nil))) pe_int) pa_nil))) pa_nil))))), ?_⟩
    refine ⟨.ref t, rfl, t, _, 0, _, rfl, rfl, SqT.of ht, rfl, .ref t, rfl, .int m, rfl, .ref t, rfl, .ref t, (x, y), rfl, ⟨t, rfl, ht⟩, fun H1 e1 => ?_⟩
    refine ⟨_, _, rfl, _, 1, rfl, rfl, .ref t, (x, y), _, rfl, ⟨t, rfl, e1 _ _ ht⟩, fun H2 e2 => ?_⟩
    exact ⟨by show 2 ≤ sizeLine; decide, fun p np => q p _ ((e1.trans e2).back np) ((e1.trans e2).add np) upd_same⟩
theorem ok_first_reaching (B : Bt mg) {f : Addr} {fd : FuncData} (F : Fun K "first_reaching" "first_reaching" sfirst_reaching f fd) : FnOk P w K mg base CX0 1 f fd ["spans", "address"] spReach := by
  refine F.ok scfirst_reaching (fun vs H Q E h => ?_) (fun cdv A outer s H vs Q E hr h => ?_)
  · obtain ⟨p, zs, a, rfl, _⟩ := h
    rfl
  · obtain ⟨p, zs, a, rfl, ⟨vs, hp, pz⟩, few, Az, q⟩ := h
    refine ⟨_, (pss_cons (ps_par (i := 2) (j := 3) rfl scfirst_reaching.nd rfl rfl (by decide) rfl rfl (pa_cons pe_int (pa_cons (pe_callB call_len_seq (by rfl) B.len bo_len (pa_cons (pv 0) pa_nil)) pa_nil)) (by rfl))
      (pss_cons (ps_while PassesOwn.never (pt_cmpR op_lt (pv 2) (pv 3) (nomark _)) (pss_cons (ps_set (i := 4) scfirst_reaching.nd rfl (by first | exact Or.inl rfl | exact Or.inr rfl) (pe_op op_fdiv (pe_op op_add (pv 2) (pv 3)) pe_int))
      (pss_one (ps_if (pt_cmpR op_lt (pe_ix ix_tup (pe_ix ix_list (pv 0) (pv 4) (fun _ _ => rfl)) pe_int (fun _ _ => rfl)) (pv 1) (nomark _)) (pss_one (ps_set (i := 2) scfirst_reaching.nd rfl (by first | exact Or.inl rfl | exact Or.inr rfl) (pe_op op_add (pv 4) pe_int))) (pss_one (ps_set (i := 3) scfirst_reaching.nd rfl (by first | exact Or.inl rfl | exact Or.inr rfl) (pv 4)))))))
      (pss_one (ps_ret (pv 2))))), ?_⟩
    have lv : vs.length = zs.length := Pa.len pz
    refine ⟨.ref p, rfl, p, _, rfl, .inl (SqL.of hp), _, _, rfl, ?_⟩
    rw [lv]
    refine ⟨fun m σ H1 => ∃ (x y : Nat) (y4 : Option V), m = y - x ∧ σ = [some (.ref p), some (.int a), some (.int x), some (.int y), y4] ∧ Ex H H1 ∧ x ≤ y ∧ y ≤ zs.length ∧ (∀ (i : Nat) (t : Sc), zs[i]? = some t → i < x → t.2 < a) ∧ (∀ (i : Nat) (t : Sc), zs[i]? = some t → y ≤ i → a ≤ t.2),
      ⟨_, 0, zs.length, none, rfl, rfl, Ex.refl _, Nat.zero_le _, Nat.le_refl _, fun i t _ h => (by omega), fun i t hi h => by have := (List.getElem?_eq_some_iff.mp hi).1; omega⟩, fun m σ H1 hW => ?_⟩
    obtain ⟨x, y, y4, rfl, rfl, e1, xy, yl, bl, ab⟩ := hW
    refine ⟨.int x, rfl, .int y, rfl, _, _, rfl, rfl, _, rfl, ite2 (fun e => ?_) (fun e => ?_)⟩
    · have e' : (x : Int) < y := of_decide_eq_true e
      refine ⟨fun σ' H' => ∃ (x' y' : Nat) (y4 : Option V), y' - x' < y - x ∧ σ' = [some (.ref p), some (.int a), some (.int x'), some (.int y'), y4] ∧ Ex H H' ∧ x' ≤ y' ∧ y' ≤ zs.length ∧ (∀ (i : Nat) (t : Sc), zs[i]? = some t → i < x' → t.2 < a) ∧ (∀ (i : Nat) (t : Sc), zs[i]? = some t → y' ≤ i → a ≤ t.2), fun σ' H' hN => ?_, ?_⟩
      · obtain ⟨x', y', y4, c, r⟩ := hN
        exact ⟨y' - x', c, x', y', y4, rfl, r⟩
      obtain ⟨k, hk⟩ : ∃ k : Nat, k = (x + y) / 2 := ⟨_, rfl⟩
      have ek : ((x : Int) + y) / 2 = (k : Int) := by omega
      have kl : k < zs.length := by omega
      obtain ⟨v, gv, t, rfl, ht⟩ := Pa.get2 pz (List.getElem?_eq_getElem kl)
      refine ⟨.int x, rfl, .int y, rfl, _, _, rfl, rfl, _, _, rfl, rfl, ⟨by decide, by decide⟩, ?_⟩
      simp only [ek]
      refine ⟨.ref p, rfl, .int k, rfl, p, vs, k, .ref t, rfl, rfl, SqL.of (e1 _ _ hp), atI_nat gv, t, _, 1, _, rfl, rfl, SqT.of (e1 _ _ ht), rfl, .int a, rfl, _, _, rfl, rfl, _, rfl, ite2 (fun c => ?_) (fun c => ?_)⟩
      · have c' : zs[k].2 < a := of_decide_eq_true c
        refine ⟨.int k, rfl, _, _, rfl, rfl, k + 1, y, _, ?_, rfl, e1, by omega, yl, fun i u hu hi => ?_, ab⟩
        · omega
        · by_cases z : i = k
          · subst z
            rw [List.getElem?_eq_getElem kl] at hu
            cases hu
            exact c'
          · have a1 := Az.next hu (List.getElem?_eq_getElem kl) (by omega)
            have a2 := Az.leAt (List.getElem?_eq_getElem kl)
            omega
      · have c' : ¬ zs[k].2 < a := fun z => c (decide_eq_true z)
        refine ⟨.int k, rfl, x, k, _, ?_, rfl, e1, by omega, by omega, bl, fun i u hu hi => ?_⟩
        · omega
        · by_cases z : i = k
          · subst z
            rw [List.getElem?_eq_getElem kl] at hu
            cases hu
            omega
          · have a1 := Az.next (List.getElem?_eq_getElem kl) hu (by omega)
            have a2 := Az.leAt hu
            omega
    · have e' : ¬ (x : Int) < y := fun z => e (decide_eq_true z)
      have : x = y := by omega
      subst this
      exact ⟨_, rfl, q x yl bl ab H1 e1⟩
theorem ok_scan_outside (B : Bt mg) (B2 : mg "reversed" = none) (Dfirst_reaching : Df P w K mg base "first_reaching" 1 ["spans", "address"] spReach) {f : Addr} {fd : FuncData} (F : Fun K "scan_outside" "scan_outside" sscan_outside f fd) : FnOk P w K mg base CX0 2 f fd ["scan", "spans"] spOutside := by
  refine F.ok scscan_outside (fun vs H Q E h => ?_) (fun cdv A outer s H vs Q E hr h => ?_)
  · obtain ⟨v, p, s, zs, rfl, _⟩ := h
    rfl
  · obtain ⟨v, p, ⟨x, y⟩, zs, rfl, ⟨t, rfl, ht⟩, hZ, few, Az, q⟩ := h
    refine ⟨_, (pss_cons (ps_par (i := 2) (j := 3) rfl scscan_outside.nd rfl rfl (by decide) rfl rfl (pa_cons (pe_callB (cr_minT rfl) (by rfl) B.min bo_min (pa_cons (pv 0) pa_nil)) (pa_cons (pe_callB (cr_maxT rfl) (by rfl) B.max bo_max (pa_cons (pv 0) pa_nil)) pa_nil)) (by rfl))
      (pss_cons (ps_set (i := 4) scscan_outside.nd rfl (by first | exact Or.inl rfl | exact Or.inr rfl) (pe_lst pa_nil))
      (pss_cons (ps_set (i := 5) scscan_outside.nd rfl (by first | exact Or.inl rfl | exact Or.inr rfl) (pv 2))
      (pss_cons (ps_set (i := 6) scscan_outside.nd rfl (by first | exact Or.inl rfl | exact Or.inr rfl) (pe_df Dfirst_reaching hr (pa_cons (pv 1) (pa_cons (pv 2) pa_nil))))
      (pss_cons (ps_while PassesOwn.never (pw_and (pt_cmpR op_lt (pv 6) (pe_callB call_len_seq (by rfl) B.len bo_len (pa_cons (pv 1) pa_nil)) (nomark _)) (pw_and1 (pt_cmpR op_le (pe_ix ix_tup (pe_ix ix_list (pv 1) (pv 6) (fun _ _ => rfl)) pe_int (fun _ _ => rfl)) (pv 3) (nomark _)))).pt (pss_cons (ps_if (pt_cmpR op_lt (pv 5) (pe_ix ix_tup (pe_ix ix_list (pv 1) (pv 6) (fun _ _ => rfl)) pe_int (fun _ _ => rfl)) (nomark _)) (pss_one (ps_expr (pe_bm PySem.F.plainAttrs_list PySem.F.slot_list_append PySem.F.type_list_append mt_append (pv 4) (pa_cons (pe_tup (pa_cons (pv 5) (pa_cons (pe_op op_sub (pe_ix ix_tup (pe_ix ix_list (pv 1) (pv 6) (fun _ _ => rfl)) pe_int (fun _ _ => rfl)) pe_int) pa_nil))) pa_nil)))) pss_nil)
      (pss_cons (ps_set (i := 5) scscan_outside.nd rfl (by first | exact Or.inl rfl | exact Or.inr rfl) (pe_op op_add (pe_ix ix_tup (pe_ix ix_list (pv 1) (pv 6) (fun _ _ => rfl)) pe_int (fun _ _ => rfl)) pe_int))
      (pss_one (ps_aug (i := 6) scscan_outside.nd rfl (by first | exact Or.inl rfl | exact Or.inr rfl) pe_int ip_add)))))
      (pss_cons (ps_if (pt_cmpR op_le (pv 5) (pv 3) (nomark _)) (pss_one (ps_expr (pe_bm PySem.F.plainAttrs_list PySem.F.slot_list_append PySem.F.type_list_append mt_append (pv 4) (pa_cons (pe_tup (pa_cons (pv 5) (pa_cons (pv 3) pa_nil))) pa_nil)))) pss_nil)
      (pss_cons (ps_if (pt_cmpR op_le (pe_ix ix_tup (pv 0) pe_int (fun _ _ => rfl)) (pe_ix ix_tup (pv 0) pe_int (fun _ _ => rfl)) (nomark _)) (pss_one (ps_ret (pv 4))) pss_nil)
      (pss_one (ps_ret (pe_lc (own := [("low", 7), ("high", 8)]) (g := (gTup K 2 (gCons (gName 7) (gCons (gName 8) gNil)))) (te := (tTup (tCons (tVar 8) (tCons (tVar 7) tNil)))) rfl scscan_outside.nd (pi_reversed (by rfl) (Br.reversed ⟨B2⟩) (pa_cons (pv 4) pa_nil)) (blkOk_by (N := ["scan", "spans", "least", "greatest", "left", "start", "at", "low", "high"]) (sc := defScope sscan_outside) (by decide +kernel)) (by exact fun _ _ _ _ _ => (pg_tup rfl (pgs_cons (pg_name (i := 7) scscan_outside.nd rfl (by first | exact Or.inl rfl | exact Or.inr rfl)) (pgs_cons (pg_name (i := 8) scscan_outside.nd rfl (by first | exact Or.inl rfl | exact Or.inr rfl)) pgs_nil)))) (by exact fun _ _ _ _ _ => pts_nil) (by exact fun _ _ _ _ _ => (pe_tup (pa_cons (pv 8) (pa_cons (pv 7) pa_nil)))))))))))))), ?_⟩
    refine ⟨.ref t, rfl, t, x, y, rfl, ht, .ref t, rfl, t, x, y, rfl, ht, _, _, rfl, ?_⟩
    rw [show (if y < x then y else x) = lo (x, y) from rfl, show (if y > x then y else x) = hi (x, y) from rfl]
    have lg := lo_hi (x, y)
    refine ⟨Nat.zero_le _, fun L nL => ⟨.int (lo (x, y)), rfl, .ref p, rfl, .int (lo (x, y)), rfl, p, zs, lo (x, y), rfl, hZ.mono (Ex.new nL), Nat.le_trans few (by decide), Az, fun k kl bl ab H1 e1 => ?_⟩⟩
    have hL1 := e1 _ _ (upd_same (H := H) (a := L) (o := .lst []))
    have e01 : Ex H H1 := (Ex.new nL).trans e1
    obtain ⟨vs, hp, pz⟩ := hZ
    have lv : vs.length = zs.length := Pa.len pz
    refine ⟨fun m σ H2 => ∃ (k : Nat) (st : Int) (us : List V) (rows : List Sc), m = zs.length - k ∧ k ≤ zs.length ∧ σ = [some (.ref t), some (.ref p), some (.int (lo (x, y))), some (.int (hi (x, y))), some (.ref L), some (.int st), some (.int k), none, none] ∧ Ex H H2 ∧ H2 L = some (.lst us) ∧ Paired (IsSc H2) us rows ∧ OI zs (lo (x, y)) (hi (x, y)) k st rows,
      ⟨_, k, lo (x, y), [], [], rfl, kl, rfl, e01, hL1, .nil, OI.start bl ab⟩, fun m σ H2 hW => ?_⟩
    obtain ⟨k, st, us, rows, rfl, kl, rfl, e2, hus, pus, I⟩ := hW
    have lus : us.length ≤ 1001 := by
      have z := Pa.len pus
      have z2 := I.few
      have z3 := List.length_filter_le (ins (lo (x, y)) (hi (x, y))) (zs.take k)
      rw [List.length_take] at z3
      split at z2 <;> omega
    refine ⟨.int k, rfl, .ref p, rfl, p, _, rfl, .inl (SqL.of (e2 _ _ hp)), _, _, rfl, rfl, _, rfl, ?_⟩
    rw [lv]
    by_cases cc : ∃ c1 : k < zs.length, zs[k].1 ≤ hi (x, y)
    · obtain ⟨c1, c2⟩ := cc
      rw [decide_eq_true (show (k : Int) < (zs.length : Int) by omega)]
      obtain ⟨v, gv, tk, rfl, htk⟩ := Pa.get2 pz (List.getElem?_eq_getElem c1)
      have gk := List.getElem?_eq_getElem c1
      have tk2 := e2 _ _ htk
      refine iteT ⟨.ref p, rfl, .int k, rfl, p, vs, k, .ref tk, rfl, rfl, SqL.of (e2 _ _ hp), atI_nat gv, tk, _, 0, _, rfl, rfl, SqT.of tk2, rfl, .int (hi (x, y)), rfl, _, _, rfl, rfl, _, rfl, ?_⟩
      rw [decide_eq_true c2]
      refine iteT ⟨fun σ' H' => ∃ (st : Int) (us : List V) (rows : List Sc), σ' = [some (.ref t), some (.ref p), some (.int (lo (x, y))), some (.int (hi (x, y))), some (.ref L), some (.int st), some (.int ((k + 1 : Nat) : Int)), none, none] ∧ Ex H H' ∧ H' L = some (.lst us) ∧ Paired (IsSc H') us rows ∧ OI zs (lo (x, y)) (hi (x, y)) (k + 1) st rows, fun σ' H' hN => ?_, ?_⟩
      · obtain ⟨st, us, rows, r⟩ := hN
        exact ⟨zs.length - (k + 1), by omega, k + 1, st, us, rows, rfl, by omega, r⟩
      have stp := I.step Az gk lg c2
      refine ⟨.int st, rfl, .ref p, rfl, .int k, rfl, p, vs, k, .ref tk, rfl, rfl, SqL.of (e2 _ _ hp), atI_nat gv, tk, _, 0, _, rfl, rfl, SqT.of tk2, rfl, _, _, rfl, rfl, _, rfl, ite2 (fun c => ?_) (fun c => ?_)⟩
      · have c' : st < zs[k].1 := of_decide_eq_true c
        rw [if_pos c'] at stp
        refine ⟨.ref L, rfl, .inl ⟨rfl, _, .inl (.inl hus)⟩, .int st, rfl, .ref p, rfl, .int k, rfl, p, vs, k, .ref tk, rfl, rfl, SqL.of (e2 _ _ hp), atI_nat gv, tk, _, 0, _, rfl, rfl, SqT.of tk2, rfl, _, _, rfl, rfl, by show 2 ≤ sizeLine; decide, fun r nr => ?_⟩
        have Lr : L ≠ r := ne_of_none hus nr
        have er := Ex.new (o := .tup [V.int st, V.int (zs[k].1 - 1)]) nr
        refine ⟨L, us, .ref r, rfl, rfl, er _ _ hus, small20 (by omega), ?_⟩
        have ee : Ex H (upd (upd H2 r (.tup [V.int st, V.int (zs[k].1 - 1)])) L (.lst (us ++ [V.ref r]))) := (e2.trans er).mut nL
        refine ⟨.ref p, rfl, .int k, rfl, p, vs, k, .ref tk, rfl, rfl, SqL.of (ee _ _ hp), atI_nat gv, tk, _, 1, _, rfl, rfl, SqT.of (ee _ _ htk), rfl, _, _, rfl, rfl, .int k, rfl, _, _, rfl, rfl, _, us ++ [.ref r], _, rfl, ee, upd_same, ?_, stp⟩
        exact Pa.lset (er _ _ hus) (Pa.snoc (Pa.mono er pus) ⟨r, rfl, upd_same⟩)
      · have c' : ¬ st < zs[k].1 := fun z => c (decide_eq_true z)
        rw [if_neg c'] at stp
        exact ⟨.ref p, rfl, .int k, rfl, p, vs, k, .ref tk, rfl, rfl, SqL.of (e2 _ _ hp), atI_nat gv, tk, _, 1, _, rfl, rfl, SqT.of tk2, rfl, _, _, rfl, rfl, .int k, rfl, _, _, rfl, rfl, _, us, _, rfl, e2, hus, pus, stp⟩
    by_cases c1 : k < zs.length
    case' pos =>
      rw [decide_eq_true (show (k : Int) < (zs.length : Int) by omega)]
      obtain ⟨v, gv, tk, rfl, htk⟩ := Pa.get2 pz (List.getElem?_eq_getElem c1)
      have gk := List.getElem?_eq_getElem c1
      have tk2 := e2 _ _ htk
      refine iteT ⟨.ref p, rfl, .int k, rfl, p, vs, k, .ref tk, rfl, rfl, SqL.of (e2 _ _ hp), atI_nat gv, tk, _, 0, _, rfl, rfl, SqT.of tk2, rfl, .int (hi (x, y)), rfl, _, _, rfl, rfl, _, rfl, ?_⟩
      have c2 : ¬ zs[k].1 ≤ hi (x, y) := fun c2 => cc ⟨c1, c2⟩
      rw [decide_eq_false c2]
      refine iteF ?_
      have hk : ∀ u, zs[k]? = some u → hi (x, y) < u.1 := fun u hu => by
        rw [gk] at hu
        cases hu
        omega
      clear gv htk gk tk2 c2
    case' neg =>
      rw [decide_eq_false (show ¬ (k : Int) < (zs.length : Int) by omega)]
      refine iteF ?_
      have hk : ∀ u, zs[k]? = some u → hi (x, y) < u.1 := fun u hu => by
        have := (List.getElem?_eq_some_iff.mp hu).1
        omega
    all_goals
      have al := I.all Az hk
      obtain ⟨_, fw⟩ := I.stop Az hk lg
      refine ⟨.int st, rfl, .int (hi (x, y)), rfl, _, _, rfl, rfl, _, rfl, ite2 (fun c => ?_) (fun c => ?_)⟩
      case' refine_1 =>
        have c' : st ≤ hi (x, y) := of_decide_eq_true c
        rw [if_pos c'] at al fw
        refine ⟨.ref L, rfl, .inl ⟨rfl, _, .inl (.inl hus)⟩, .int st, rfl, .int (hi (x, y)), rfl, by show 2 ≤ sizeLine; decide, fun r nr => ?_⟩
        have er := Ex.new (o := .tup [V.int st, V.int (hi (x, y))]) nr
        refine ⟨L, us, .ref r, rfl, rfl, er _ _ hus, small20 (by omega), ?_⟩
        have f9 : ∃ us', (upd (upd H2 r (.tup [V.int st, V.int (hi (x, y))])) L (.lst (us ++ [V.ref r]))) L = some (.lst us') ∧ Paired (IsSc (upd (upd H2 r (.tup [V.int st, V.int (hi (x, y))])) L (.lst (us ++ [V.ref r])))) us' (rows ++ [(st, hi (x, y))]) := ⟨_, upd_same, Pa.lset (er _ _ hus) (Pa.snoc (Pa.mono er pus) ⟨r, rfl, upd_same⟩)⟩
        have ee : Ex H (upd (upd H2 r (.tup [V.int st, V.int (hi (x, y))])) L (.lst (us ++ [V.ref r]))) := (e2.trans er).mut nL
        generalize upd (upd H2 r (.tup [V.int st, V.int (hi (x, y))])) L (.lst (us ++ [V.ref r])) = H3 at f9 ee ⊢
        generalize rows ++ [(st, hi (x, y))] = rs at f9 al fw
      case' refine_2 =>
        have c' : ¬ st ≤ hi (x, y) := fun z => c (decide_eq_true z)
        rw [if_neg c'] at al fw
        have f9 : ∃ us', H2 L = some (.lst us') ∧ Paired (IsSc H2) us' rows := ⟨us, hus, pus⟩
        have ee := e2
        generalize H2 = H3 at f9 ee ⊢
        generalize rows = rs at f9 al fw
      all_goals
        obtain ⟨us3, hu3, pu3⟩ := f9
        have ht3 := ee _ _ ht
        refine ⟨.ref t, rfl, t, _, 0, _, rfl, rfl, SqT.of ht3, rfl, .ref t, rfl, t, _, 1, _, rfl, rfl, SqT.of ht3, rfl, _, _, rfl, rfl, _, rfl, ite2 (fun e => ?_) (fun e => ?_)⟩
        · have e' : x ≤ y := of_decide_eq_true e
          rw [if_pos e'] at al
          exact ⟨_, rfl, q L H3 rs nL ee ⟨us3, hu3, pu3⟩ al fw⟩
        · have e' : ¬ x ≤ y := fun z => e (decide_eq_true z)
          rw [if_neg e'] at al
          have lu3 : us3.length = rs.length := Pa.len pu3
          have cl := List.length_filter_le (ins (lo (x, y)) (hi (x, y))) zs
          refine ⟨.ref L, rfl, L, us3, rfl, SqL.of hu3, fun D2 hD2 => ?_⟩
          refine lc_rev (xs := us3) (fun i H4 => Ex H3 H4 ∧ ∃ ws, H4 D2 = some (.lst ws) ∧ Paired (IsSc H4) ws ((rs.reverse.take i).map swp)) ⟨Ex.new hD2, [], upd_same, .nil⟩ (fun i H4 _ p => SqL.of (p.1 _ _ hu3)) (fun i v H4 hx p => ?_) (fun H4 p => ?_)
          · obtain ⟨e3, ws, hws, pws⟩ := p
            obtain ⟨⟨a1, a2⟩, gs, t, rfl, ht⟩ := Pa.get (Pa.rev pu3) hx
            have li : i < us3.length := by
              have z := (List.getElem?_eq_some_iff.mp hx).1
              rwa [List.length_reverse] at z
            have lws : ws.length ≤ i := by
              have z := Pa.len pws
              rw [List.length_map, List.length_take] at z
              omega
            refine ⟨t, _, rfl, SqT.of (e3 _ _ ht), rfl, _, _, rfl, _, _, rfl, rfl, rfl, ?_⟩
            refine ⟨.int a2, rfl, .int a1, rfl, by show 2 ≤ sizeLine; decide, fun p np => ?_⟩
            have pD : D2 ≠ p := ne_of_none hws np
            refine ⟨ws, (upd_ne pD).trans hws, small20 (by omega), (e3.add np).mut hD2, _, upd_same, ?_⟩
            rw [List.take_add_one, gs, List.map_append]
            exact Pa.lset ((upd_ne pD).trans hws) (Pa.snoc (s := swp (a1, a2)) (Pa.mono (Ex.new np) pws) ⟨p, rfl, upd_same⟩)
          · obtain ⟨e3, ws, hws, pws⟩ := p
            rw [List.take_of_length_le (by rw [List.length_reverse, lu3]; exact Nat.le_refl _)] at pws
            exact q D2 H4 _ (ee.back hD2) (ee.trans e3) ⟨ws, hws, pws⟩ al (by rw [List.length_map, List.length_reverse]; exact fw)
theorem rdL_snoc {ss : List Sc} {i : Nat} {s : Sc} (e : ss[i]? = some s) : rdL (ss.take (i + 1)) = rdL (ss.take i) ++ rd s := by
  rw [List.take_add_one, e, rdL_app]
  show _ ++ (rd s ++ []) = _
  rw [List.append_nil]
theorem cntS_snoc {ss zs : List Sc} {i : Nat} {s : Sc} (e : ss[i]? = some s) : cntS (ss.take (i + 1)) zs = cntS (ss.take i) zs + (zs.filter (ins (lo s) (hi s))).length := by
  unfold cntS
  rw [List.take_add_one, e, List.map_append, List.sum_append]
  rfl
theorem ok_others_of (B : Bt mg) (Dscan_outside : Df P w K mg base "scan_outside" 2 ["scan", "spans"] spOutside) {f : Addr} {fd : FuncData} (F : Fun K "others_of" "others_of" sothers_of f fd) : FnOk P w K mg base CX0 3 f fd ["scans", "taken"] spOthers := by
  refine F.ok scothers_of (fun vs H Q E h => ?_) (fun cdv A outer s H vs Q E hr h => ?_)
  · obtain ⟨a, t, ss, ts, rfl, _⟩ := h
    rfl
  · obtain ⟨a, t, ss, ts, rfl, hS, hT, few, tew, dis, q⟩ := h
    refine ⟨_, (pss_cons (ps_set (i := 2) scothers_of.nd rfl (by first | exact Or.inl rfl | exact Or.inr rfl) (pe_callB cr_sortedPO (by rfl) B.sorted bo_sorted (pa_cons (pe_lc (own := [("scan", 3)]) (g := (gName 3)) (te := (tTup (tCons (tCB _ (tCons (tVar 3) tNil)) (tCons (tCB _ (tCons (tVar 3) tNil)) tNil)))) rfl scothers_of.nd (pi_list (pv 1)) (blkOk_by (N := ["scans", "taken", "spans", "scan", "part"]) (sc := defScope sothers_of) (by decide +kernel)) (by exact fun _ _ _ _ _ => (pg_name (i := 3) scothers_of.nd rfl (by first | exact Or.inl rfl | exact Or.inr rfl))) (by exact fun _ _ _ _ _ => pts_nil) (by exact fun _ _ _ _ _ => (pe_tup (pa_cons (pe_callB (cr_minT rfl) (by rfl) B.min bo_min (pa_cons (pv 3) pa_nil)) (pa_cons (pe_callB (cr_maxT rfl) (by rfl) B.max bo_max (pa_cons (pv 3) pa_nil)) pa_nil))))) pa_nil)))
      (pss_one (ps_ret (pe_lc2 (own := [("scan", 3), ("part", 4)]) (vs1 := [4]) (g := (gName 3)) (g1 := (gName 4)) (wi1 := (iList K (tCall _ [] E0 (tCons (tVar 3) (tCons (tVar 2) tNil))))) (te := (tVar 4)) rfl scothers_of.nd (pi_list (pv 0)) (blkOk_by (N := ["scans", "taken", "spans", "scan", "part"]) (sc := defScope sothers_of) (by decide +kernel)) (by decide) (by exact fun _ _ _ _ _ => (pg_name (i := 3) scothers_of.nd rfl (by first | exact Or.inl rfl | exact Or.inr rfl))) (by exact fun _ _ _ _ _ => pts_nil) (by exact fun _ _ _ _ _ => (pi_list (pe_df Dscan_outside hr (pa_cons (pv 3) (pa_cons (pv 2) pa_nil))))) (by exact fun _ _ _ _ _ => (pg_name (i := 4) scothers_of.nd rfl (by first | exact Or.inl rfl | exact Or.inr rfl))) (by exact fun _ _ _ _ _ => pts_nil) (by exact fun _ _ _ _ _ => (pv 4)))))), ?_⟩
    obtain ⟨vs, ht, pt⟩ := hT
    have lv : vs.length = ts.length := Pa.len pt
    refine ⟨.ref t, rfl, t, rfl, ⟨_, SqL.of ht⟩, fun D hD => lc_list (xs := vs) (fun i H2 => Ex H H2 ∧ ∃ us, H2 D = some (.lst us) ∧ Paired (IsSc H2) us ((ts.take i).map spn)) ?_ (fun i H2 _ p => ?_) (fun i x H2 hx p => ?_) (fun H2 p => ?_)⟩
    · exact ⟨Ex.new hD, [], upd_same, .nil⟩
    · exact SqL.of (p.1 _ _ ht)
    · obtain ⟨e2, us, hus, pus⟩ := p
      obtain ⟨⟨x1, x2⟩, gs, tp, rfl, htp⟩ := Pa.get pt hx
      have lu : us.length = i := by
        have z := Pa.len pus
        rw [List.length_map, List.length_take] at z
        have y := (List.getElem?_eq_some_iff.mp gs).1
        omega
      refine ⟨rfl, .ref tp, rfl, tp, x1, x2, rfl, e2 _ _ htp, .ref tp, rfl, tp, x1, x2, rfl, e2 _ _ htp, by show 2 ≤ sizeLine; decide, fun p np => ?_⟩
      have pD : p ≠ D := fun z => by
        rw [z, hus] at np
        cases np
      refine ⟨us, (upd_ne (Ne.symm pD)).trans hus, small1000 (by have := (List.getElem?_eq_some_iff.mp gs).1; omega), (e2.add np).mut hD, _, upd_same, ?_⟩
      have k1 := Pa.snoc (s := spn (x1, x2)) (Pa.mono (Ex.new np) pus) ⟨p, rfl, upd_same⟩
      rw [List.take_add_one, gs, List.map_append]
      exact Pa.lset ((upd_ne (Ne.symm pD)).trans hus) k1
    obtain ⟨e2, us, hus, pus⟩ := p
    rw [lv, List.take_length] at pus
    refine ⟨D, us, kOf H2, rfl, SqL.of hus, fun x hx => ?_, fun zv p s1 s2 np => ?_⟩
    · obtain ⟨s1, _, i1⟩ := Pa.mem pus x hx
      have ek := kOf_eq i1
      rw [ek]
      exact i1
    obtain ⟨zs, pz, per, ord⟩ := Pa.sorted pus s1 s2
    have Az := asc_of dis per ord
    have lz : zs.length = ts.length := by rw [per.length_eq, List.length_map]
    have lzv := Pa.len pz
    have e3 : Ex H2 (upd H2 p (.lst zv)) := Ex.new np
    have hZ : Scs (upd H2 p (.lst zv)) p zs := ⟨zv, upd_same, Pa.mono e3 pz⟩
    have e03 := e2.trans e3
    generalize upd H2 p (.lst zv) = H3 at hZ e03 ⊢
    have fe : (rdL ss).filter (outL ts) = (rdL ss).filter (out zs) := by
      rw [show outL ts = out zs from funext fun z => (out_eq per z).symm]
    obtain ⟨vs, ha, pa⟩ := hS
    have lv : vs.length = ss.length := Pa.len pa
    have cb : ∀ i, i ≤ ss.length → cntS (ss.take i) zs ≤ i * ts.length := fun i hi => by
      have := cntS_le (ss.take i) zs
      rw [List.length_take, Nat.min_eq_left hi, lz] at this
      exact this
    refine ⟨.ref a, rfl, a, rfl, ⟨_, SqL.of (e03 _ _ ha)⟩, fun D hD => two_list (xs := vs) (fun i H2 => Ex H3 H2 ∧ ∃ us rows, H2 D = some (.lst us) ∧ Paired (IsSc H2) us rows ∧ rdL rows = (rdL (ss.take i)).filter (out zs) ∧ rows.length ≤ i + cntS (ss.take i) zs) ⟨Ex.new hD, [], [], upd_same, .nil, rfl, Nat.zero_le _⟩ (fun i H2 _ p => SqL.of (p.1 _ _ (e03 _ _ ha))) (fun i v H2 hx p => ?_) (fun H2 p => ?_)⟩
    · obtain ⟨e2, us, rows, hus, pus, er, fr⟩ := p
      obtain ⟨s1, gs, i1⟩ := Pa.get pa hx
      have li : i < ss.length := (List.getElem?_eq_some_iff.mp gs).1
      have rs := rdL_snoc gs
      have cs := cntS_snoc (zs := zs) gs
      have cbi := cb i (by omega)
      have lu : us.length ≤ i + i * ts.length := by
        have z := Pa.len pus
        omega
      have big : i * ts.length ≤ 999 * 1000 := Nat.mul_le_mul (by omega) tew
      refine ⟨rfl, v, rfl, .ref p, rfl, v, p, s1, zs, rfl, i1.mono (e03.trans e2), hZ.mono e2, by omega, Az, fun p4 H4 ys np4 e4 hp4 ry fy => ?_⟩
      obtain ⟨yv, hyv, pyv⟩ := hp4
      have ly := Pa.len pyv
      have cl := List.length_filter_le (ins (lo s1) (hi s1)) zs
      have pD : p4 ≠ D := fun z => by
        rw [z, hus] at np4
        cases np4
      refine ⟨p4, rfl, ⟨_, SqL.of hyv⟩, in_list (ys := yv) (fun j H5 => Ex H3 H5 ∧ H5 p4 = some (.lst yv) ∧ Paired (IsSc H5) yv ys ∧ ∃ zv, H5 D = some (.lst zv) ∧ zv.length = us.length + j ∧ Paired (IsSc H5) zv (rows ++ ys.take j)) ?_ (fun j H5 _ z => SqL.of z.2.1) (fun j x H5 hx z => ?_) (fun H5 z => ?_)⟩
      · refine ⟨e2.trans e4, hyv, pyv, us, e4 _ _ hus, rfl, ?_⟩
        rw [List.take_zero, List.append_nil]
        exact Pa.mono e4 pus
      · obtain ⟨e5, hy5, py5, wv, hwv, lw, pw⟩ := z
        obtain ⟨s2, gs2, i2⟩ := Pa.get py5 hx
        have lj : j < yv.length := (List.getElem?_eq_some_iff.mp hx).1
        refine ⟨rfl, x, rfl, wv, hwv, small20 (by omega), e5.mut hD, (upd_ne pD).trans hy5, Pa.lset hwv py5, wv ++ [x], upd_same, ?_, ?_⟩
        · rw [List.length_append, List.length_singleton, lw]
          omega
        · have z := Pa.lset (us' := wv ++ [x]) hwv (Pa.snoc pw i2)
          rw [List.append_assoc] at z
          rw [List.take_add_one, gs2]
          exact z
      · obtain ⟨e5, hy5, py5, wv, hwv, lw, pw⟩ := z
        rw [Pa.len pyv, List.take_length] at pw
        refine ⟨e5, wv, rows ++ ys, hwv, pw, ?_, ?_⟩
        · rw [rdL_app, er, ry, rs, List.filter_append]
        · rw [List.length_append, cs]
          omega
    · obtain ⟨e2, us, rows, hus, pus, er, fr⟩ := p
      rw [lv, List.take_length] at er fr
      refine q D H2 rows (e03.back hD) (e03.trans e2) ⟨us, hus, pus⟩ (by rw [fe]; exact er) ?_ fun d => ?_
      · have := cntS_le ss zs
        rw [lz] at this
        rw [Nat.mul_add, Nat.mul_one]
        omega
      · have := cntS_apart d (zs := zs) Az.le
        omega
theorem ok_all_without (Dothers_of : Df P w K mg base "others_of" 3 ["scans", "taken"] spOthers) {f : Addr} {fd : FuncData} (F : Fun K "all_without" "all_without" sall_without f fd) : FnOk P w K mg base CX0 4 f fd ["scans", "low", "high"] spAllOut := by
  refine F.ok scall_without (fun vs H Q E h => ?_) (fun cdv A outer s H vs Q E hr h => ?_)
  · obtain ⟨a, ss, l, h, rfl, _⟩ := h
    rfl
  · obtain ⟨a, ss, l, h, rfl, hS, few, hl, q⟩ := h
    refine ⟨_, (pss_one (ps_ret (pe_df Dothers_of hr (pa_cons (pv 0) (pa_cons (pe_lst (pa_cons (pe_tup (pa_cons (pv 1) (pa_cons (pv 2) pa_nil))) pa_nil)) pa_nil))))), ?_⟩
    refine ⟨.ref a, rfl, .int l, rfl, .int h, rfl, by show 2 ≤ sizeLine; decide, fun p1 np1 => ⟨by show 1 ≤ sizeLine; decide, fun p2 np2 => ?_⟩⟩
    have x1 := Ex.new (o := .tup [V.int l, V.int h]) np1
    have x2 := Ex.new (o := .lst [V.ref p1]) np2
    refine ⟨a, p2, ss, [(l, h)], rfl, hS.mono (x1.trans x2), ⟨_, upd_same, .cons ⟨p1, rfl, x2 _ _ upd_same⟩ .nil⟩, few, by show 1 ≤ 1000; decide, Apart.one _, fun p H' rows np e hp er fr fr2 => ?_⟩
    refine q p H' rows ((x1.trans x2).back np) ((x1.trans x2).trans e) hp ?_ (by rw [Nat.mul_comm]; exact fr) fr2
    rw [er]
    congr 1
    funext z
    unfold outL
    congr 1
    refine decide_eq_decide.mpr ?_
    rw [mem_rdL]
    unfold lo hi
    constructor
    · rintro ⟨u, hu, a, b⟩
      rw [List.mem_singleton] at hu
      subst hu
      revert a b
      show (if h < l then h else l) ≤ z → z ≤ (if h > l then h else l) → _
      split <;> split <;> intros <;> omega
    · rintro ⟨a, b⟩
      refine ⟨(l, h), List.mem_singleton.mpr rfl, ?_⟩
      show (if h < l then h else l) ≤ z ∧ z ≤ (if h > l then h else l)
      split <;> split <;> omega
theorem ok_put_ahead (Dothers_of : Df P w K mg base "others_of" 3 ["scans", "taken"] spOthers) (Djoined : Df P w K mg base "joined" 1 ["scans"] spJoined) {f : Addr} {fd : FuncData} (F : Fun K "put_ahead" "put_ahead" sput_ahead f fd) : FnOk P w K mg base CX0 4 f fd ["scans", "others"] spAhead := by
  refine F.ok scput_ahead (fun vs H Q E h => ?_) (fun cdv A outer s H vs Q E hr h => ?_)
  · obtain ⟨t, a, ts, ss, rfl, _⟩ := h
    rfl
  · obtain ⟨t, a, ts, ss, rfl, hT, hS, tew, few, dis, q⟩ := h
    refine ⟨_, (pss_one (ps_ret (pe_df Djoined hr (pa_cons (pe_op op_cat (pv 0) (pe_df Dothers_of hr (pa_cons (pv 1) (pa_cons (pv 0) pa_nil)))) pa_nil)))), ?_⟩
    refine ⟨.ref t, rfl, .ref a, rfl, .ref t, rfl, a, t, ss, ts, rfl, hS, hT, few, tew, dis, fun p H1 rows np e1 hp er fr fr2 => ?_⟩
    obtain ⟨vs, ht, pt⟩ := hT.mono e1
    obtain ⟨us, hus, pus⟩ := hp
    have big : ss.length * (ts.length + 1) ≤ 1000 * 1001 := Nat.mul_le_mul few (by omega)
    have lus : us.length ≤ 1000 * 1001 := by
      have z := Pa.len pus
      omega
    have lvs := Pa.len pt
    refine ⟨t, p, vs, us, rfl, rfl, ht, hus, Nat.le_of_lt (small20 (by omega)), fun r nr => ?_⟩
    have xr := Ex.new (o := .lst (vs ++ us)) nr
    have ej : jn (ts ++ rows) = ahead ts ss := by
      unfold ahead
      rw [← er, ← rdL_app, jn_rdL]
    refine ⟨r, ts ++ rows, rfl, ⟨_, upd_same, Pa.app (Pa.mono xr pt) (Pa.mono xr pus)⟩, by rw [List.length_append]; omega, fun b H4 nb e4 hb => ?_⟩
    rw [ej] at hb
    refine q b H4 (e1.back (xr.back nb)) ((e1.trans xr).trans e4) hb fun d => ?_
    rw [← ej]
    have := jn_len (ts ++ rows)
    rw [List.length_append] at this
    have := fr2 d
    omega
theorem ok_first_of (Dscan_head : Df P w K mg base "scan_head" 2 ["scan", "many"] spScanHead) (Dscan_length : Df P w K mg base "scan_length" 1 ["scan"] spScanLength) {f : Addr} {fd : FuncData} (F : Fun K "first_of" "first_of" sfirst_of f fd) : FnOk P w K mg base CX0 3 f fd ["scans", "many"] spFirstOf := by
  refine F.ok scfirst_of (fun vs H Q E h => ?_) (fun cdv A outer s H vs Q E hr h => ?_)
  · obtain ⟨a, ss, m, rfl, _⟩ := h
    rfl
  · obtain ⟨a, ss, m, rfl, ⟨vs, ha, pa⟩, few, q⟩ := h
    refine ⟨_, (pss_cons (ps_set (i := 2) scfirst_of.nd rfl (by first | exact Or.inl rfl | exact Or.inr rfl) (pe_lst pa_nil))
      (pss_cons (ps_set (i := 3) scfirst_of.nd rfl (by first | exact Or.inl rfl | exact Or.inr rfl) (pv 1))
      (pss_cons (ps_for PassesOwn.never rfl (pi_list (pv 0)) (pg_name (i := 4) scfirst_of.nd rfl (by first | exact Or.inl rfl | exact Or.inr rfl)) (pss_cons (ps_if (pt_cmpR op_gt (pv 3) pe_int (nomark _)) (pss_one (ps_expr (pe_bm PySem.F.plainAttrs_list PySem.F.slot_list_append PySem.F.type_list_append mt_append (pv 2) (pa_cons (pe_df Dscan_head hr (pa_cons (pv 4) (pa_cons (pv 3) pa_nil))) pa_nil)))) pss_nil)
      (pss_one (ps_set (i := 3) scfirst_of.nd rfl (by first | exact Or.inl rfl | exact Or.inr rfl) (pe_op op_sub (pv 3) (pe_df Dscan_length hr (pa_cons (pv 4) pa_nil)))))))
      (pss_one (ps_ret (pv 2)))))), ?_⟩
    have lv : vs.length = ss.length := Pa.len pa
    refine ⟨Nat.zero_le _, fun p np => ⟨_, rfl, ?_⟩⟩
    have e12 := Ex.refl H
    have np0 := np
    refine ⟨.ref a, rfl, a, rfl, ⟨_, SqL.of ((e12.add np) _ _ ha)⟩, for_list (xs := vs) (fun i σ H3 => ∃ y5 us, σ = [some (.ref a), some (.int m), some (.ref p), some (.int (m - psum (ss.take i))), y5] ∧ Ex H H3 ∧ H3 p = some (.lst us) ∧ Paired (IsSc H3) us (fpart (ss.take i) m))
      ⟨none, [], ?_, e12.add np, upd_same, .nil⟩ (fun i σ H3 _ z => ?_) (fun i v σ H3 hx z => ?_) (fun σ H3 z => ?_)⟩
    · show _ = [some (V.ref a), some (V.int m), some (V.ref p), some (V.int (m - 0)), none]
      rw [Int.sub_zero]
      rfl
    · obtain ⟨_, _, _, e3, _⟩ := z
      exact SqL.of (e3 _ _ ha)
    · obtain ⟨y5, us, rfl, e3, hus, pus⟩ := z
      obtain ⟨s1, gs, i1⟩ := Pa.get pa hx
      have li : i < ss.length := (List.getElem?_eq_some_iff.mp gs).1
      have fs := fpart_snoc (m := m) gs
      have lu : us.length ≤ i := by
        have z := Pa.len pus
        have z2 := fpart_len (ss.take i) m
        rw [List.length_take] at z2
        omega
      have pz := psum_snoc gs
      refine ⟨_, rfl, _, 0, rfl, rfl, _, rfl, ite2 (fun e => ?_) (fun e => ?_)⟩
      · have e' : 0 < m - psum (ss.take i) := of_decide_eq_true e
        rw [if_pos e'] at fs
        refine ⟨.ref p, rfl, .inl ⟨rfl, _, .inl (.inl hus)⟩, v, rfl, _, rfl, v, s1, _, rfl, i1.mono e3, fun c H4 nc e4 hc => ?_⟩
        have pc : p ≠ c := ne_of_none hus nc
        refine ⟨p, us, .ref c, rfl, rfl, e4 _ _ hus, small1000 (by have := few; omega), ?_⟩
        refine ⟨_, rfl, v, rfl, v, s1, rfl, (i1.mono (e3.trans e4)).lset (e4 _ _ hus), fun H5 e5 => ⟨_, _, rfl, rfl, some v, us ++ [.ref c], ?_, ((e3.trans e4).mut np0).trans e5, e5 _ _ upd_same, ?_⟩⟩
        · rw [pz, show m - (psum (ss.take i) + slen s1) = m - psum (ss.take i) - slen s1 by omega]
          rfl
        · rw [fs]
          exact Pa.mono e5 (Pa.lset (e4 _ _ hus) (Pa.snoc (Pa.mono e4 pus) ⟨c, rfl, hc⟩))
      · have e' : ¬ 0 < m - psum (ss.take i) := fun z => e (decide_eq_true z)
        rw [if_neg e', List.append_nil] at fs
        refine ⟨_, rfl, v, rfl, v, s1, rfl, i1.mono e3, fun H5 e5 => ⟨_, _, rfl, rfl, some v, us, ?_, e3.trans e5, e5 _ _ hus, ?_⟩⟩
        · rw [pz, show m - (psum (ss.take i) + slen s1) = m - psum (ss.take i) - slen s1 by omega]
          rfl
        · rw [fs]
          exact Pa.mono e5 pus
    · obtain ⟨y5, us, rfl, e3, hus, pus⟩ := z
      rw [lv, List.take_length] at pus
      exact ⟨_, rfl, q p _ np e3 ⟨us, hus, pus⟩⟩
theorem ok_first_part (Dcheck_list : Df P w K mg base "check_list" 5 ["scans"] spCheckList) (Dcheck_from : Df P w K mg base "check_from" 3 ["number", "least"] spCheckFrom) (Dfirst_of : Df P w K mg base "first_of" 3 ["scans", "many"] spFirstOf) (Djoined : Df P w K mg base "joined" 1 ["scans"] spJoined)
    {f : Addr} {fd : FuncData} (F : Fun K "first_part" "first_part" sfirst_part f fd) : FnOk P w K mg base CX0 6 f fd ["scans", "many"] spFirst := by
  refine F.ok scfirst_part (fun vs H Q E h => ?_) (fun cdv A outer s H vs Q E hr h => ?_)
  · obtain ⟨a, ss, m, rfl, _⟩ := h
    rfl
  · obtain ⟨a, ss, m, rfl, hS, G, h0, q⟩ := h
    refine ⟨_, (pss_cons (ps_expr (pe_df Dcheck_list hr (pa_cons (pv 0) pa_nil)))
      (pss_cons (ps_expr (pe_df Dcheck_from hr (pa_cons (pv 1) (pa_cons pe_int pa_nil))))
      (pss_one (ps_ret (pe_df Djoined hr (pa_cons (pe_df Dfirst_of hr (pa_cons (pv 0) (pa_cons (pv 1) pa_nil))) pa_nil)))))), ?_⟩
    refine ⟨.ref a, rfl, a, ss, rfl, hS, G, fun H1 e1 => ?_⟩
    refine ⟨.int m, rfl, m, 0, rfl, h0, fun H2 e2 => ?_⟩
    have e12 := e1.trans e2
    refine ⟨.ref a, rfl, .int m, rfl, a, ss, m, rfl, hS.mono e12, G.few, fun p H3 np e3 hp => ?_⟩
    refine ⟨p, _, rfl, hp, ?_, fun r H4 nr e4 hr => q r H4 ((e12.trans e3).back nr) ((e12.trans e3).trans e4) hr⟩
    exact Nat.le_trans (fpart_len _ _) (Nat.le_trans G.few (by decide))
theorem ahead_one (ss : List Sc) (s : Sc) : ahead [s] ss = jn (s :: woL ss (lo s) (hi s)) := by
  rw [← jn_rdL (s :: woL ss (lo s) (hi s))]
  unfold ahead
  show jn (dup (rdL [s] ++ _)) = jn (dup (rd s ++ rdL (woL ss (lo s) (hi s))))
  rw [rdL_woL (lo_hi s), show rdL [s] = rd s from List.append_nil _]
  congr 4
  funext z
  unfold outL
  congr 1
  refine decide_eq_decide.mpr ?_
  rw [show rdL [s] = rd s from List.append_nil _]
  exact mem_rd
theorem ok_on_top (Dcheck_list : Df P w K mg base "check_list" 5 ["scans"] spCheckList) (Dcheck_scan : Df P w K mg base "check_scan" 4 ["scan"] spCheckScan) (Dput_ahead : Df P w K mg base "put_ahead" 4 ["scans", "others"] spAhead)
    {f : Addr} {fd : FuncData} (F : Fun K "on_top" "on_top" son_top f fd) : FnOk P w K mg base CX0 6 f fd ["scans", "scan"] spTop := by
  refine F.ok scon_top (fun vs H Q E h => ?_) (fun cdv A outer s H vs Q E hr h => ?_)
  · obtain ⟨a, ss, v, s, rfl, _⟩ := h
    rfl
  · obtain ⟨a, ss, v, s, rfl, hS, G, i1, n1, q⟩ := h
    refine ⟨_, (pss_cons (ps_expr (pe_df Dcheck_list hr (pa_cons (pv 0) pa_nil)))
      (pss_cons (ps_expr (pe_df Dcheck_scan hr (pa_cons (pv 1) pa_nil)))
      (pss_one (ps_ret (pe_df Dput_ahead hr (pa_cons (pe_lst (pa_cons (pv 1) pa_nil)) (pa_cons (pv 0) pa_nil))))))), ?_⟩
    refine ⟨.ref a, rfl, a, ss, rfl, hS, G, fun H1 e1 => ?_⟩
    refine ⟨v, rfl, v, s, rfl, i1.mono e1, n1, fun H2 e2 => ?_⟩
    have e12 := e1.trans e2
    refine ⟨v, rfl, by show 1 ≤ sizeLine; decide, fun L nL => ?_⟩
    have xL := Ex.new (o := .lst [v]) nL
    refine ⟨.ref a, rfl, L, a, [s], ss, rfl, ⟨_, upd_same, .cons (i1.mono (e12.trans xL)) .nil⟩, hS.mono (e12.trans xL), by show 1 ≤ 1000; decide, G.few, Apart.one _, fun p H3 np e3 hp _ => ?_⟩
    rw [ahead_one] at hp
    exact q p H3 (e12.back (xL.back np)) ((e12.trans xL).trans e3) hp
theorem ok_without (Dcheck_list : Df P w K mg base "check_list" 5 ["scans"] spCheckList) (Dcheck_interval : Df P w K mg base "check_interval" 3 ["low", "high"] spCheckInterval) (Dall_without : Df P w K mg base "all_without" 4 ["scans", "low", "high"] spAllOut)
    (Djoined : Df P w K mg base "joined" 1 ["scans"] spJoined) {f : Addr} {fd : FuncData} (F : Fun K "without" "without" swithout f fd) : FnOk P w K mg base CX0 6 f fd ["scans", "low", "high"] spWithout := by
  refine F.ok scwithout (fun vs H Q E h => ?_) (fun cdv A outer s H vs Q E hr h => ?_)
  · obtain ⟨a, ss, l, h, rfl, _⟩ := h
    rfl
  · obtain ⟨a, ss, l, h, rfl, hS, G, h0, h1, q⟩ := h
    refine ⟨_, (pss_cons (ps_expr (pe_df Dcheck_list hr (pa_cons (pv 0) pa_nil)))
      (pss_cons (ps_expr (pe_df Dcheck_interval hr (pa_cons (pv 1) (pa_cons (pv 2) pa_nil))))
      (pss_one (ps_ret (pe_df Djoined hr (pa_cons (pe_df Dall_without hr (pa_cons (pv 0) (pa_cons (pv 1) (pa_cons (pv 2) pa_nil)))) pa_nil)))))), ?_⟩
    refine ⟨.ref a, rfl, a, ss, rfl, hS, G, fun H1 e1 => ?_⟩
    refine ⟨.int l, rfl, .int h, rfl, l, h, rfl, h0, h1, fun H2 e2 => ?_⟩
    have e12 := e1.trans e2
    refine ⟨.ref a, rfl, .int l, rfl, .int h, rfl, a, ss, l, h, rfl, hS.mono e12, G.few, h1, fun p H3 rows np e3 hp er fr _ => ?_⟩
    have ej : jn rows = jn (woL ss l h) := by
      rw [← jn_rdL rows, er, ← rdL_woL h1, jn_rdL]
    refine ⟨p, rows, rfl, hp, by have := G.few; omega, fun r H4 nr e4 hr => q r H4 ((e12.trans e3).back nr) ((e12.trans e3).trans e4) ?_⟩
    rw [← ej]
    exact hr
end
end Kb

namespace Kb
open PySem PySem.Spec PyProof.Rows L2 StX
theorem cut_take {ns : List Int} {m : Int} (h : 0 ≤ m) : cutV (ns.map V.int) none (some m) = (ns.take m.toNat).map V.int := by
  unfold cutV
  generalize hk : m.toNat = k
  rw [HT.sIx_none, show m = ((k : Nat) : Int) by omega, HT.sIx_nat, List.length_map, Nat.sub_zero, List.drop_zero, ← List.map_take]
  congr 1
  by_cases z : k ≤ ns.length
  · rw [Nat.min_eq_left z]
  · rw [Nat.min_eq_right (by omega), List.take_length, List.take_of_length_le (by omega)]
theorem show_J {ns : List Int} (h : ∀ z ∈ ns, 0 ≤ z ∧ z < 60) (l : ns.length ≤ 3000) : (pdL (jn (dup ns))).showable = true ∧ (pdL (jn (dup ns))).hasDict = false ∧ (pdL (jn (dup ns))).depth ≤ 60 ∧ (pdL (jn (dup ns))).shown.length ≤ sizeLine := by
  have cd : Cd 60 (jn (dup ns)) := jn_cd fun s hs => by
    obtain ⟨z, hz, rfl⟩ := List.mem_map.mp hs
    have := h z hz
    exact ⟨this.1, this.2, this.1, this.2⟩
  have ln : (jn (dup ns)).length ≤ 3000 := Nat.le_trans (jn_len _) (by unfold dup; rw [List.length_map]; exact l)
  obtain ⟨a1, a2, a3, a4⟩ := show_L (B := 100) (Nat.le_refl _) cd
  refine ⟨a1, a2, ?_, ?_⟩
  · generalize jn (dup ns) = ss
    have h2 : PyData.depthAll (ss.map pdS) ≤ 1 := by
      induction ss with
      | nil => exact Nat.zero_le _
      | cons s r ih =>
        show max (PyData.depth (pdS s)) (PyData.depthAll (r.map pdS)) ≤ 1
        have : PyData.depth (pdS s) = 1 := rfl
        omega
    show PyData.depthAll (ss.map pdS) + 1 ≤ 60
    omega
  · have z := PyData.shown_le_bulk 100 (by decide) _ a3
    have y := Nat.mul_le_mul_left (100 + 2) (Nat.le_trans a4 (show 10 * (jn (dup ns)).length + 10 ≤ 30010 by omega))
    rw [sizeLine_eq]
    omega
theorem Sm.rng {ss : List Sc} (h : Sm ss) : ∀ z ∈ rdL ss, 0 ≤ z ∧ z < 60 := fun z hz => by
  obtain ⟨s, hs, a, b⟩ := mem_rdL.mp hz
  have c := h.cd s hs
  unfold lo at a
  unfold hi at b
  revert a b
  split <;> split <;> intros <;> omega
theorem Sm.rlen {ss : List Sc} (h : Sm ss) : (rdL ss).length ≤ 2400 := by
  have a := rdL_len ss
  have b := h.sum
  omega
theorem filt_snoc {α : Type} {ns : List α} {i : Nat} {z : α} (f : α → Bool) (h : ns[i]? = some z) : (ns.take (i + 1)).filter f = (ns.take i).filter f ++ if f z = true then [z] else [] := by
  rw [List.take_add_one, h, List.filter_append]
  congr 1
  show [z].filter f = _
  rw [List.filter_cons]
  rfl
theorem filt_ext {p q : Int → Bool} (h : ∀ z, p z = q z) (ns : List Int) : ns.filter p = ns.filter q := by
  rw [show p = q from funext h]
/-- what the law holds against first_part -/
theorem first_is (ss : List Sc) {m : Int} : jn (dup ((rdL ss).take m.toNat)) = jn (fpart ss m) := by
  rw [← rdL_fpart, jn_rdL]
theorem without_is (ss : List Sc) {l h : Int} (hl : l ≤ h) : jn (dup ((rdL ss).filter fun z => !decide (l ≤ z ∧ z ≤ h))) = jn (woL ss l h) := by
  rw [← rdL_woL hl, jn_rdL]
theorem top_is (ss : List Sc) (s : Sc) : jn (dup (rd s ++ (rdL ss).filter fun z => !decide (z ∈ rd s))) = jn (s :: woL ss (lo s) (hi s)) := by
  rw [← jn_rdL (s :: woL ss (lo s) (hi s))]
  show _ = jn (dup (rd s ++ rdL (woL ss (lo s) (hi s))))
  rw [rdL_woL (lo_hi s)]
  congr 3
  refine filt_ext (fun z => ?_) _
  congr 1
  exact decide_eq_decide.mpr mem_rd
theorem rd_rng {s : Sc} (a : 0 ≤ s.1 ∧ s.1 < 42) (b : 0 ≤ s.2 ∧ s.2 < 42) : ∀ z ∈ rd s, 0 ≤ z ∧ z < 60 := fun z hz => by
  obtain ⟨c, d⟩ := mem_rd.mp hz
  unfold lo at c
  unfold hi at d
  revert c d
  split <;> split <;> intros <;> omega
theorem rd_short {s : Sc} (a : 0 ≤ s.1 ∧ s.1 < 42) (b : 0 ≤ s.2 ∧ s.2 < 42) : (rd s).length ≤ 42 := by
  rw [rd_len]
  unfold slen
  split <;> omega
def spRight3 : Sp := fun vs H Q _ => ∃ (b a : Addr) (ss : List Sc), vs = [.ref b, .ref a] ∧ H b = some (bagO b) ∧ Scs H a ss ∧ Sm ss ∧ RetV (.bl true) H Q
section
variable {P : Program} {w : World} {K : PySem.W.Frag} {mg : Str → Option Value} {base : Heap}
theorem ok_right3 (B : Bt mg) (D_law_pick : Df P w K mg base "_law_pick" 1 ["bag", "many"] spPick) (D_law_reads : Df P w K mg base "_law_reads" 1 ["scans"] spReads) (Dfirst_part : Df P w K mg base "first_part" 6 ["scans", "many"] spFirst) (Don_top : Df P w K mg base "on_top" 6 ["scans", "scan"] spTop)
    (Dwithout : Df P w K mg base "without" 6 ["scans", "low", "high"] spWithout) (D_law_tidied : Df P w K mg base "_law_tidied" 2 ["addresses"] spTidied) {f : Addr} {fd : FuncData} (F : Fun K "_law_right" "_law_right" s_law_right f fd) : FnG P w K mg base 7 f fd ["bag", "scans"] spRight3 := by
  refine okG F sc_law_right (fun vs H Q E h => ?_) (fun cdv A outer s H vs Q E hr hg h => ?_)
  · obtain ⟨b, a, ss, rfl, _⟩ := h
    rfl
  · obtain ⟨b, a, ss, rfl, hb, hS, sm, q⟩ := h
    refine ⟨_, (pss_cons (ps_par (i := 2) (j := 3) rfl sc_law_right.nd rfl rfl (by decide) rfl rfl (pa_cons (pe_df D_law_reads hr (pa_cons (pv 1) pa_nil)) (pa_cons (pe_callB (cr_reprD hg hr.units) (by rfl) B.repr bo_repr (pa_cons (pv 1) pa_nil)) pa_nil)) (by rfl))
      (pss_cons (ps_for PassesOwn.never rfl (pi_list (pe_op op_cat (pe_listRg rfl (by rfl) B.list (prg_1 (by rfl) B.range (pe_op op_add (pe_callB call_len_seq (by rfl) B.len bo_len (pa_cons (pv 2) pa_nil)) pe_int))) (pe_lst (pa_cons (pe_op op_pow pe_int pe_int) pa_nil)))) (pg_name (i := 4) sc_law_right.nd rfl (by first | exact Or.inl rfl | exact Or.inr rfl)) (pss_cons (ps_set (i := 5) sc_law_right.nd rfl (by first | exact Or.inl rfl | exact Or.inr rfl) (pe_df Dfirst_part hr (pa_cons (pv 1) (pa_cons (pv 4) pa_nil))))
      (pss_cons (ps_if (pt_cmpR op_ne (pe_callB (cr_reprD hg hr.units) (by rfl) B.repr bo_repr (pa_cons (pv 5) pa_nil)) (pe_callB (cr_reprD hg hr.units) (by rfl) B.repr bo_repr (pa_cons (pe_df D_law_tidied hr (pa_cons (pe_slice sl_list (pv 2) po_none (po_some (pv 4))) pa_nil)) pa_nil)) (nomark _)) (pss_one (ps_ret pe_bl)) pss_nil)
      (pss_one (ps_expr (pe_bm PySem.F.plainAttrs_list PySem.F.slot_list_append PySem.F.type_list_append mt_append (pv 5) (pa_cons pe_non pa_nil)))))))
      (pss_cons (ps_for PassesOwn.never rfl (pi_range1 (by rfl) B.range (pa_cons pe_int pa_nil)) (pg_name (i := 6) sc_law_right.nd rfl (by first | exact Or.inl rfl | exact Or.inr rfl)) (pss_cons (ps_set (i := 7) sc_law_right.nd rfl (by first | exact Or.inl rfl | exact Or.inr rfl) (pe_tup (pa_cons (pe_df D_law_pick hr (pa_cons (pv 0) (pa_cons pe_int pa_nil))) (pa_cons (pe_df D_law_pick hr (pa_cons (pv 0) (pa_cons pe_int pa_nil))) pa_nil))))
      (pss_cons (ps_if (pt_cmpR op_eq (pv 6) pe_int (nomark _)) (pss_one (ps_set (i := 7) sc_law_right.nd rfl (by first | exact Or.inl rfl | exact Or.inr rfl) (pe_tup (pa_cons (pe_ix ix_tup (pv 7) pe_int (fun _ _ => rfl)) (pa_cons (pe_ix ix_tup (pv 7) pe_int (fun _ _ => rfl)) pa_nil))))) pss_nil)
      (pss_cons (ps_set (i := 8) sc_law_right.nd rfl (by first | exact Or.inl rfl | exact Or.inr rfl) (pe_df D_law_reads hr (pa_cons (pe_lst (pa_cons (pv 7) pa_nil)) pa_nil)))
      (pss_cons (ps_set (i := 5) sc_law_right.nd rfl (by first | exact Or.inl rfl | exact Or.inr rfl) (pe_df Don_top hr (pa_cons (pv 1) (pa_cons (pv 7) pa_nil))))
      (pss_cons (ps_if (pt_cmpR op_ne (pe_callB (cr_reprD hg hr.units) (by rfl) B.repr bo_repr (pa_cons (pv 5) pa_nil)) (pe_callB (cr_reprD hg hr.units) (by rfl) B.repr bo_repr (pa_cons (pe_df D_law_tidied hr (pa_cons (pe_op op_cat (pv 8) (pe_lc (own := [("address", 11)]) (g := (gName 11)) (te := (tVar 11)) (tt := (tTest (tOp (rIn K true) (tVar 11) (tVar 8)))) rfl sc_law_right.nd (pi_list (pv 2)) (blkOk_by (N := ["bag", "scans", "addresses", "kept", "many", "told", "turn", "scan", "top", "low", "high", "address"]) (sc := defScope s_law_right) (by decide +kernel)) (by exact fun _ _ _ _ _ => (pg_name (i := 11) sc_law_right.nd rfl (by first | exact Or.inl rfl | exact Or.inr rfl))) (by exact fun _ _ _ _ _ => (pts_one (pt_cmpR op_notIn_seq (pv 11) (pv 8) (by with_unfolding_all rfl)))) (by exact fun _ _ _ _ _ => (pv 11)))) pa_nil)) pa_nil)) (nomark _)) (pss_one (ps_ret pe_bl)) pss_nil)
      (pss_cons (ps_expr (pe_bm PySem.F.plainAttrs_list PySem.F.slot_list_insert PySem.F.type_list_insert mt_insert (pv 5) (pa_cons pe_int (pa_cons pe_non pa_nil))))
      (pss_cons (ps_asg (pe_tup (pa_cons (pe_callB (cr_minT rfl) (by rfl) B.min bo_min (pa_cons (pv 7) pa_nil)) (pa_cons (pe_ix ix_list (pe_lst (pa_cons (pe_callB (cr_maxT rfl) (by rfl) B.max bo_max (pa_cons (pv 7) pa_nil)) (pa_cons (pe_op op_pow pe_int pe_int) pa_nil))) (pe_df D_law_pick hr (pa_cons (pv 0) (pa_cons pe_int pa_nil))) (fun _ _ => rfl)) pa_nil))) (pg_tup rfl (pgs_cons (pg_name (i := 9) sc_law_right.nd rfl (by first | exact Or.inl rfl | exact Or.inr rfl)) (pgs_cons (pg_name (i := 10) sc_law_right.nd rfl (by first | exact Or.inl rfl | exact Or.inr rfl)) pgs_nil))))
      (pss_cons (ps_set (i := 5) sc_law_right.nd rfl (by first | exact Or.inl rfl | exact Or.inr rfl) (pe_df Dwithout hr (pa_cons (pv 1) (pa_cons (pv 9) (pa_cons (pv 10) pa_nil)))))
      (pss_cons (ps_if (pt_cmpR op_ne (pe_callB (cr_reprD hg hr.units) (by rfl) B.repr bo_repr (pa_cons (pv 5) pa_nil)) (pe_callB (cr_reprD hg hr.units) (by rfl) B.repr bo_repr (pa_cons (pe_df D_law_tidied hr (pa_cons (pe_lc (own := [("address", 11)]) (g := (gName 11)) (te := (tVar 11)) (tt := (tNot (tTest (tChain _ _ (tVar 9) (tVar 11) (tVar 10))))) rfl sc_law_right.nd (pi_list (pv 2)) (blkOk_by (N := ["bag", "scans", "addresses", "kept", "many", "told", "turn", "scan", "top", "low", "high", "address"]) (sc := defScope s_law_right) (by decide +kernel)) (by exact fun _ _ _ _ _ => (pg_name (i := 11) sc_law_right.nd rfl (by first | exact Or.inl rfl | exact Or.inr rfl))) (by exact fun _ _ _ _ _ => (pts_one (pt_not (pt_chain op_le op_le (pv 9) (pv 11) (pv 10))))) (by exact fun _ _ _ _ _ => (pv 11))) pa_nil)) pa_nil)) (nomark _)) (pss_one (ps_ret pe_bl)) pss_nil)
      (pss_one (ps_expr (pe_bm PySem.F.plainAttrs_list PySem.F.slot_list_append PySem.F.type_list_append mt_append (pv 5) (pa_cons pe_non pa_nil))))))))))))))
      (pss_one (ps_ret (pe_cmpR op_eq (pe_callB (cr_reprD hg hr.units) (by rfl) B.repr bo_repr (pa_cons (pv 1) pa_nil)) (pv 3) (nomark _))))))), ?_⟩
    have cS := sm.cd
    have few := sm.2
    obtain ⟨u1, u2, u3, u4⟩ := show_S cS few
    have rng := sm.rng
    have rl := sm.rlen
    have flt : ∀ f : Int → Bool, (∀ z ∈ (rdL ss).filter f, 0 ≤ z ∧ z < 60) ∧ ((rdL ss).filter f).length ≤ 2400 := fun f => ⟨fun z hz => rng z (List.mem_filter.mp hz).1, Nat.le_trans (List.length_filter_le _ _) rl⟩
    refine ⟨.ref a, rfl, a, ss, rfl, hS, sm.1.bd, sm.1.1.few, fun p H1 np e1 hp => ?_⟩
    refine ⟨.ref a, rfl, a, pdL ss, rfl, Scs.dp (hS.mono e1), u1, u2, u3, u4, _, _, rfl, ?_⟩
    -- the numbers
    refine ⟨.ref p, rfl, p, _, rfl, .inl (SqL.of hp), ?_⟩
    rw [List.length_map]
    refine ⟨_, 3, rfl, rfl, _, rfl, ⟨?_, fun c1 nc1 => ?_⟩⟩
    · exact RgOk.of_le (Int.le_refl 0) (by omega) (by decide) (by omega)
    have x1 := Ex.new (o := .lst (rgV 0 (((rdL ss).length : Int) + 3))) nc1
    refine ⟨10, 60, rfl, rfl, ⟨by decide, by decide, by decide⟩, by show 1 ≤ sizeLine; decide, fun c2 nc2 => ?_⟩
    refine ⟨c1, c2, rgV 0 (((rdL ss).length : Int) + 3), [V.int (10 ^ (60 : Int).toNat)], rfl, rfl, (Ex.new nc2) _ _ upd_same, upd_same, ?_, fun c3 nc3 => ⟨c3, rfl, ⟨_, SqL.of upd_same⟩, ?_⟩⟩
    · rw [rgV_length, List.length_singleton]
      exact Nat.le_of_lt (small20 (by omega))
    have hit : ∀ v ∈ rgV 0 (((rdL ss).length : Int) + 3) ++ [V.int (10 ^ (60 : Int).toNat)], ∃ m : Int, 0 ≤ m ∧ v = .int m := fun v hv => by
      rcases List.mem_append.mp hv with hv | hv
      · obtain ⟨k, _, rfl⟩ := List.mem_map.mp hv
        exact ⟨0 + (k : Int), by omega, rfl⟩
      · exact ⟨_, by decide, List.mem_singleton.mp hv⟩
    have x3 : ∀ o, Ex H1 (upd _ c3 o) := fun o => (x1.add nc2).add nc3
    generalize rgV 0 (((rdL ss).length : Int) + 3) ++ [V.int (10 ^ (60 : Int).toNat)] = its at hit ⊢
    have x3 := x3 (.lst its)
    generalize hH2 : upd _ c3 (.lst its) = H2 at x3 ⊢
    have hc3 : H2 c3 = some (.lst its) := by
      rw [← hH2]
      exact upd_same
    have e12 : Ex H H2 := e1.trans x3
    have hp2 := x3 _ _ hp
    refine for_list (xs := its) (fun i σ H3 => ∃ y4 y5, σ = [some (.ref b), some (.ref a), some (.ref p), some (.str (pdL ss).shown), y4, y5, none, none, none, none, none, none] ∧ Ex H2 H3) ⟨none, none, rfl, Ex.refl _⟩ (fun i σ H3 _ z => ?_) (fun i v σ H3 hx z => ?_) (fun σ H3 z => ?_)
    · obtain ⟨_, _, _, e3⟩ := z
      exact SqL.of (e3 _ _ hc3)
    · obtain ⟨y4, y5, rfl, e3⟩ := z
      obtain ⟨m, hm, rfl⟩ := hit v (List.mem_of_getElem? hx)
      have e13 := e12.trans e3
      have hp3 := e3 _ _ hp2
      refine ⟨.ref a, rfl, .int m, rfl, a, ss, m, rfl, hS.mono e13, sm.1.1, hm, fun t H4 nt e4 ht => ?_⟩
      have tk : (∀ z ∈ (rdL ss).take m.toNat, 0 ≤ z ∧ z < 60) ∧ ((rdL ss).take m.toNat).length ≤ 2400 := ⟨fun z hz => rng z (List.mem_of_mem_take hz), Nat.le_trans (List.length_take_le' _ _) rl⟩
      obtain ⟨v1, v2, v3, v4⟩ := show_J tk.1 (Nat.le_trans tk.2 (by decide))
      rw [← first_is] at ht
      refine ⟨.ref t, rfl, t, _, rfl, ht.dp, v1, v2, v3, v4, ?_⟩
      refine ⟨.ref p, rfl, .int m, rfl, m, rfl, p, _, rfl, SqL.of (e4 _ _ hp3), fun c nc => ?_⟩
      rw [cut_take hm]
      have xc := Ex.new (o := .lst (((rdL ss).take m.toNat).map V.int)) nc
      refine ⟨c, _, rfl, upd_same, by omega, fun r H5 nr e5 hr => ?_⟩
      refine ⟨r, _, rfl, hr.dp, v1, v2, v3, v4, rfl, _, rfl, iteSame ?_⟩
      have e45 := xc.trans e5
      obtain ⟨us, hus, pus⟩ := ht.mono e45
      refine ⟨.ref t, rfl, .inl ⟨rfl, _, .inl (.inl hus)⟩, t, us, .non, rfl, rfl, hus, ?_, ?_⟩
      · have z := Pa.len pus
        have z2 := jn_len (dup ((rdL ss).take m.toNat))
        unfold dup at z2
        rw [List.length_map] at z2
        exact small20 (by unfold dup at z; omega)
      · exact ⟨_, _, rfl, ((e3.trans e4).trans e45).mut (e3.back nt)⟩
    -- the scans on top and the intervals left out
    obtain ⟨y4, y5, rfl, e3⟩ := z
    have e13 := e12.trans e3
    have hp3 := e3 _ _ hp2
    refine ⟨5, rfl, by decide, by decide, for_range (lo := 0) (n := 5) (fun i σ H4 => ∃ y5 y6 y7 y8 y9 y10 y11, σ = [some (.ref b), some (.ref a), some (.ref p), some (.str (pdL ss).shown), y4, y5, y6, y7, y8, y9, y10, y11] ∧ Ex H3 H4) ⟨_, _, _, _, _, _, _, rfl, Ex.refl _⟩ (fun i σ H4 _ z => ?_) (fun σ H4 z => ?_)⟩
    · obtain ⟨y5, y6, y7, y8, y9, y10, y11, rfl, e4⟩ := z
      have e14 := e13.trans e4
      have hp4 := e4 _ _ hp3
      have hS4 := hS.mono e14
      have hb4 := e14 _ _ hb
      refine ⟨.ref b, rfl, b, 42, rfl, hb4, by decide, by decide, fun x H5 x0 x1 e5 => ?_⟩
      refine ⟨.ref b, rfl, b, 42, rfl, e5 _ _ hb4, by decide, by decide, fun y H6 y0 y1 e6 => ?_⟩
      refine ⟨by show 2 ≤ sizeLine; decide, fun t nt => ⟨_, rfl, rfl, _, rfl, ?_⟩⟩
      have ht : (upd H6 t (.tup [V.int x, V.int y])) t = some (.tup [V.int x, V.int y]) := upd_same
      have e47 : Ex H4 (upd H6 t (.tup [V.int x, V.int y])) := (e5.trans e6).add nt
      generalize upd H6 t (.tup [V.int x, V.int y]) = H7 at ht e47 ⊢
      refine ite2 (fun _ => ?_) (fun _ => ?_)
      case' refine_1 =>
        refine ⟨.ref t, rfl, t, _, 0, _, rfl, rfl, SqT.of ht, rfl, .ref t, rfl, t, _, 0, _, rfl, rfl, SqT.of ht, rfl, by show 2 ≤ sizeLine; decide, fun t8 nt8 => ?_⟩
        have hh : (upd H7 t8 (.tup [V.int x, V.int x])) t8 = some (.tup [V.int x, V.int x]) := upd_same
        have ee := e47.add (o := .tup [V.int x, V.int x]) nt8
        generalize upd H7 t8 (.tup [V.int x, V.int x]) = H8 at hh ee ⊢
        have f8 : (∃ x y : Int, (0 ≤ x ∧ x < 42) ∧ (0 ≤ y ∧ y < 42) ∧ H8 t8 = some (.tup [V.int x, V.int y])) ∧ Ex H4 H8 := ⟨⟨x, x, ⟨x0, x1⟩, ⟨x0, x1⟩, hh⟩, ee⟩
      case' refine_2 =>
        have f8 : (∃ x y : Int, (0 ≤ x ∧ x < 42) ∧ (0 ≤ y ∧ y < 42) ∧ H7 t = some (.tup [.int x, .int y])) ∧ Ex H4 H7 := ⟨⟨x, y, ⟨x0, x1⟩, ⟨y0, y1⟩, ht⟩, e47⟩
        generalize H7 = H8 at f8 ⊢
        generalize t = t8 at f8 ⊢
      all_goals
        obtain ⟨⟨x, y, xb, yb, ht⟩, e8⟩ := f8
        have e18 := e14.trans e8
        -- top
        refine ⟨.ref t8, rfl, by show 1 ≤ sizeLine; decide, fun l nl => ?_⟩
        have xl := Ex.new (o := .lst [V.ref t8]) nl
        refine ⟨l, [(x, y)], rfl, ⟨_, upd_same, .cons ⟨t8, rfl, xl _ _ ht⟩ .nil⟩, fun s hs => ?_, Nat.le_of_lt (Nat.lt_of_lt_of_le (Nat.lt_succ_self 1) (by decide)), fun tp H9 ntp e9 htp => ?_⟩
        · rw [List.mem_singleton.mp hs]
          exact ⟨⟨xb.1, yb.1⟩, by show x ≤ 10000; omega, by show y ≤ 10000; omega⟩
        rw [show rdL [(x, y)] = rd (x, y) from List.append_nil _] at htp
        have e89 := xl.trans e9
        have e19 := e18.trans e89
        -- told
        refine ⟨.ref a, rfl, .ref t8, rfl, a, ss, .ref t8, (x, y), rfl, hS.mono e19, sm.1.1, ⟨t8, rfl, e89 _ _ ht⟩, ⟨xb.1, yb.1⟩, fun r H10 nr e10 hr => ?_⟩
        rw [← top_is] at hr
        have rr := rd_rng (s := (x, y)) xb yb
        have rs := rd_short (s := (x, y)) xb yb
        obtain ⟨fl1, fl2⟩ := flt fun z => !decide (z ∈ rd (x, y))
        obtain ⟨v1, v2, v3, v4⟩ := show_J (ns := rd (x, y) ++ (rdL ss).filter fun z => !decide (z ∈ rd (x, y))) (fun z hz => (List.mem_append.mp hz).elim (rr z) (fl1 z)) (by rw [List.length_append]; omega)
        refine ⟨.ref r, rfl, r, _, rfl, hr.dp, v1, v2, v3, v4, ?_⟩
        have hp10 := e10 _ _ (e89 _ _ (e8 _ _ hp4))
        have htp10 := e10 _ _ htp
        refine ⟨.ref tp, rfl, .ref p, rfl, p, rfl, ⟨_, SqL.of hp10⟩, fun D hD => ?_⟩
        refine lc_list (xs := (rdL ss).map V.int) (fun i H11 => Ex H10 H11 ∧ H11 D = some (.lst ((((rdL ss).take i).filter fun z => !decide (z ∈ rd (x, y))).map V.int))) ⟨Ex.new hD, upd_same⟩ (fun i H11 _ z => SqL.of (z.1 _ _ hp10)) (fun i v H11 hx z => ?_) (fun H11 z => ?_)
        · obtain ⟨e11, hd⟩ := z
          rw [List.getElem?_map] at hx
          obtain ⟨z, gz, rfl⟩ := Option.map_eq_some_iff.mp hx
          have fs := filt_snoc (fun z => !decide (z ∈ rd (x, y))) gz
          refine ⟨rfl, .int z, rfl, .ref tp, rfl, tp, _, rfl, .inl (SqL.of (e11 _ _ htp10)), rfl, flat_ints _, _, rfl, ?_⟩
          show if (!inV (.int z) ((rd (x, y)).map V.int)) = true then _ else _
          rw [inV_ints]
          refine ite2 (fun e => ?_) (fun e => ?_)
          · rw [if_pos e] at fs
            refine ⟨.int z, rfl, _, hd, ?_, e11.mut hD, ?_⟩
            · rw [List.length_map]
              have := List.length_filter_le (fun z => !decide (z ∈ rd (x, y))) ((rdL ss).take i)
              have := List.length_take_le' i (rdL ss)
              exact small20 (by omega)
            · rw [upd_same, fs, List.map_append]
              rfl
          · rw [if_neg e, List.append_nil] at fs
            refine ⟨e11, ?_⟩
            rw [fs]
            exact hd
        obtain ⟨e11, hd⟩ := z
        rw [List.length_map, List.take_length] at hd
        refine ⟨tp, D, _, _, rfl, rfl, e11 _ _ htp10, hd, ?_, fun c nc => ?_⟩
        · rw [List.length_map, List.length_map]
          exact Nat.le_of_lt (small20 (by omega))
        rw [← List.map_append]
        have xc := Ex.new (o := .lst ((rd (x, y) ++ (rdL ss).filter fun z => !decide (z ∈ rd (x, y))).map V.int)) nc
        refine ⟨c, _, rfl, upd_same, by rw [List.length_append]; omega, fun r2 H12 nr2 e12' hr2 => ?_⟩
        refine ⟨r2, _, rfl, hr2.dp, v1, v2, v3, v4, rfl, _, rfl, iteSame ?_⟩
        have ea := (e11.trans xc).trans e12'
        obtain ⟨us, hus, pus⟩ := hr.mono ea
        have lus : us.length ≤ 3000 := by
          have z := Pa.len pus
          have z2 := jn_len (dup (rd (x, y) ++ (rdL ss).filter fun z => !decide (z ∈ rd (x, y))))
          unfold dup at z2 z
          rw [List.length_map, List.length_append] at z2
          omega
        -- told.insert(0, None)
        refine ⟨.ref r, rfl, .inl ⟨rfl, _, .inl (.inl hus)⟩, r, us, 0, .non, rfl, rfl, hus, small20 (by omega), by decide, by decide, ?_⟩
        have eb := ((e89.trans e10).trans ea).mut (o := .lst (us.take (0 : Int).toNat ++ [V.non] ++ us.drop (0 : Int).toNat)) (e89.back nr)
        generalize upd H12 r _ = H13 at eb ⊢
        have ht13 := eb _ _ ht
        have e1d := e18.trans eb
        have hb13 := e1d _ _ hb
        -- low, high
        refine ⟨.ref t8, rfl, t8, x, y, rfl, ht13, .ref t8, rfl, t8, x, y, rfl, ht13, 10, 40, rfl, rfl, ⟨by decide, by decide, by decide⟩, by show 2 ≤ sizeLine; decide, fun l2 nl2 => ?_⟩
        have x2 := Ex.new (o := .lst [V.int (hi (x, y)), V.int (10 ^ (40 : Int).toNat)]) nl2
        refine ⟨.ref b, rfl, b, 2, rfl, x2 _ _ hb13, by decide, by decide, fun n H14 n0 n1 e14' => ?_⟩
        have lh := lo_hi (x, y)
        have l0 : 0 ≤ lo (x, y) ∧ lo (x, y) < 42 := by
          unfold lo
          split <;> omega
        obtain ⟨m, am, lm⟩ := pick2 (p := fun m => lo (x, y) ≤ m) n0 n1 (x := hi (x, y)) (y := 10 ^ (40 : Int).toNat) lh (Int.le_of_lt (Int.lt_trans l0.2 (by decide)))
        refine ⟨l2, _, n, .int m, rfl, rfl, SqL.of (e14' _ _ upd_same), am, by show 2 ≤ sizeLine; decide, fun q2 nq2 => ?_⟩
        have ef := (x2.trans e14').add (o := .tup [V.int (lo (x, y)), V.int m]) nq2
        refine ⟨q2, _, rfl, SqT.of upd_same, rfl, _, _, rfl, _, _, rfl, rfl, ?_⟩
        rw [show (if y < x then y else x) = lo (x, y) from rfl]
        generalize upd H14 q2 (.tup [V.int (lo (x, y)), V.int m]) = H15 at ef ⊢
        have e1f := e1d.trans ef
        have hp15 := ef _ _ (eb _ _ (e8 _ _ hp4))
        refine ⟨.ref a, rfl, .int (lo (x, y)), rfl, .int m, rfl, a, ss, lo (x, y), m, rfl, hS.mono e1f, sm.1.1, l0.1, lm, fun r3 H16 nr3 e16 hr3 => ?_⟩
        rw [← without_is ss lm] at hr3
        obtain ⟨fl3, fl4⟩ := flt fun z => !decide (lo (x, y) ≤ z ∧ z ≤ m)
        obtain ⟨w1, w2, w3, w4⟩ := show_J fl3 (Nat.le_trans fl4 (by decide))
        refine ⟨.ref r3, rfl, r3, _, rfl, hr3.dp, w1, w2, w3, w4, ?_⟩
        have hp16 := e16 _ _ hp15
        refine ⟨.ref p, rfl, p, rfl, ⟨_, SqL.of hp16⟩, fun D hD => ?_⟩
        refine lc_list (xs := (rdL ss).map V.int) (fun i H17 => Ex H16 H17 ∧ H17 D = some (.lst ((((rdL ss).take i).filter fun z => !decide (lo (x, y) ≤ z ∧ z ≤ m)).map V.int))) ⟨Ex.new hD, upd_same⟩ (fun i H17 _ z => SqL.of (z.1 _ _ hp16)) (fun i v H17 hx z => ?_) (fun H17 z => ?_)
        · obtain ⟨e17, hd⟩ := z
          rw [List.getElem?_map] at hx
          obtain ⟨z, gz, rfl⟩ := Option.map_eq_some_iff.mp hx
          have fs := filt_snoc (fun z => !decide (lo (x, y) ≤ z ∧ z ≤ m)) gz
          have yes : ¬ (lo (x, y) ≤ z ∧ z ≤ m) → Ex H16 (upd H17 D (.lst ((((rdL ss).take i).filter fun z => !decide (lo (x, y) ≤ z ∧ z ≤ m)).map V.int ++ [V.int z]))) ∧ (upd H17 D (.lst ((((rdL ss).take i).filter fun z => !decide (lo (x, y) ≤ z ∧ z ≤ m)).map V.int ++ [V.int z]))) D = some (.lst ((((rdL ss).take (i + 1)).filter fun z => !decide (lo (x, y) ≤ z ∧ z ≤ m)).map V.int)) := fun c => by
            rw [decide_eq_false c] at fs
            refine ⟨e17.mut hD, ?_⟩
            rw [upd_same, fs, List.map_append]
            rfl
          have lw : ((((rdL ss).take i).filter fun z => !decide (lo (x, y) ≤ z ∧ z ≤ m)).map V.int).length < sizeLine := by
            rw [List.length_map]
            have := List.length_filter_le (fun z => !decide (lo (x, y) ≤ z ∧ z ≤ m)) ((rdL ss).take i)
            have := List.length_take_le' i (rdL ss)
            exact small20 (by omega)
          refine ⟨rfl, .int (lo (x, y)), rfl, .int z, rfl, lo (x, y), z, rfl, rfl, _, rfl, ite2 (fun e => ?_) (fun e => ?_)⟩
          · have c1 : lo (x, y) ≤ z := of_decide_eq_true e
            refine ⟨.int m, rfl, z, m, rfl, rfl, _, rfl, ?_⟩
            by_cases c2 : z ≤ m
            · rw [decide_eq_true c2]
              rw [decide_eq_true (And.intro c1 c2)] at fs
              refine iteF ⟨e17, ?_⟩
              rw [fs]
              show _ = some (HO.lst (List.map V.int (_ ++ [])))
              rw [List.append_nil]
              exact hd
            · rw [decide_eq_false c2]
              exact iteT ⟨.int z, rfl, _, hd, lw, yes fun w => c2 w.2⟩
          · have c1 : ¬ lo (x, y) ≤ z := fun w => e (decide_eq_true w)
            exact ⟨false, rfl, iteT ⟨.int z, rfl, _, hd, lw, yes fun w => c1 w.1⟩⟩
        obtain ⟨e17, hd⟩ := z
        rw [List.length_map, List.take_length] at hd
        refine ⟨D, _, rfl, hd, by omega, fun r4 H18 nr4 e18' hr4 => ?_⟩
        refine ⟨r4, _, rfl, hr4.dp, w1, w2, w3, w4, rfl, _, rfl, iteSame ?_⟩
        have eg := e17.trans e18'
        obtain ⟨us3, hus3, pus3⟩ := hr3.mono eg
        have lus3 : us3.length ≤ 3000 := by
          have z := Pa.len pus3
          have z2 := jn_len (dup ((rdL ss).filter fun z => !decide (lo (x, y) ≤ z ∧ z ≤ m)))
          unfold dup at z2 z
          rw [List.length_map] at z2
          omega
        refine ⟨.ref r3, rfl, .inl ⟨rfl, _, .inl (.inl hus3)⟩, r3, us3, .non, rfl, rfl, hus3, small20 (by omega), ?_⟩
        exact ⟨_, _, _, _, _, _, _, rfl, (((((e4.trans e8).trans eb).trans ef).trans e16).trans eg).mut ((((e4.trans e8).trans eb).trans ef).back nr3)⟩
    · obtain ⟨y5, y6, y7, y8, y9, y10, y11, rfl, e4⟩ := z
      refine ⟨.ref a, rfl, a, pdL ss, rfl, Scs.dp (hS.mono (e13.trans e4)), u1, u2, u3, u4, _, rfl, rfl, ?_⟩
      rw [decide_eq_true rfl]
      exact q.go (e13.trans e4)
end
end Kb

namespace Kb
open PySem PySem.Spec PyProof.Rows L2 StX
section
variable {P : Program} {w : World} {K : PySem.W.Frag} {mg : Str → Option Value} {base : Heap}
theorem ok_is_integer (B : Bt mg) {f : Addr} {fd : FuncData} (F : Fun K "is_integer" "is_integer" sis_integer f fd) : FnOk P w K mg base CX0 1 f fd ["value"] spIsInteger := by
  refine F.ok scis_integer (fun vs H Q E h => ?_) (fun cdv A outer s H vs Q E hr h => ?_)
  · obtain ⟨i, rfl, _⟩ := h
    rfl
  · obtain ⟨i, rfl, q⟩ := h
    refine ⟨_, (pss_one (ps_ret (pe_and (pe_callB call_isi (by rfl) B.isinstance bo_isinstance (pa_cons (pv 0) (pa_cons (pe_bltn (v := .ty "int") (by rfl) B.int bo_int rfl) pa_nil))) (pe_one (pe_not (pe_callB call_isi (by rfl) B.isinstance bo_isinstance (pa_cons (pv 0) (pa_cons (pe_bltn (v := .ty "bool") (by rfl) B.bool bo_bool rfl) pa_nil)))))))), ?_⟩
    exact ⟨.int i, rfl, .int i, .ty "int", _, _, true, rfl, .ty _, .base (.int i), kit_ty (by decide +kernel), true, rfl, iteT
      ⟨.int i, rfl, .int i, .ty "bool", _, _, false, rfl, .ty _, .base (.int i), kit_ty (by decide +kernel), false, rfl, q.go (Ex.refl _)⟩⟩
theorem ok_is_from_zero (Dis_integer : Df P w K mg base "is_integer" 1 ["value"] spIsInteger) {f : Addr} {fd : FuncData} (F : Fun K "is_from_zero" "is_from_zero" sis_from_zero f fd) : FnOk P w K mg base CX0 2 f fd ["value"] spFromZero := by
  refine F.ok scis_from_zero (fun vs H Q E h => ?_) (fun cdv A outer s H vs Q E hr h => ?_)
  · obtain ⟨i, rfl, _⟩ := h
    rfl
  · obtain ⟨i, rfl, h0, q⟩ := h
    refine ⟨_, (pss_one (ps_ret (pe_and (pe_df Dis_integer hr (pa_cons (pv 0) pa_nil)) (pe_one (pe_cmpR op_ge (pv 0) pe_int (nomark _)))))), ?_⟩
    refine ⟨.int i, rfl, i, rfl, fun H1 e1 => ⟨true, rfl, iteT ⟨.int i, rfl, i, 0, rfl, rfl, ?_⟩⟩⟩
    show Q (.bl (decide (0 ≤ i))) H1
    rw [decide_eq_true h0]
    exact q.go e1
theorem ok_is_scan (B : Bt mg) (Dis_from_zero : Df P w K mg base "is_from_zero" 2 ["value"] spFromZero) {f : Addr} {fd : FuncData} (F : Fun K "is_scan" "is_scan" sis_scan f fd) : FnOk P w K mg base CX0 3 f fd ["value"] spIsScan := by
  refine F.ok scis_scan (fun vs H Q E h => ?_) (fun cdv A outer s H vs Q E hr h => ?_)
  · obtain ⟨v, s, rfl, _⟩ := h
    rfl
  · obtain ⟨v, ⟨x, y⟩, rfl, ⟨t, rfl, ht⟩, ⟨hx, hy⟩, q⟩ := h
    refine ⟨_, (pss_one (ps_ret (pe_and (pe_callB call_isi (by rfl) B.isinstance bo_isinstance (pa_cons (pv 0) (pa_cons (pe_bltn (v := .ty "tuple") (by rfl) B.tuple bo_tuple rfl) pa_nil))) (pe_and (pe_cmpR op_eq (pe_callB call_len_seq (by rfl) B.len bo_len (pa_cons (pv 0) pa_nil)) pe_int (nomark _)) (pe_and (pe_df Dis_from_zero hr (pa_cons (pe_ix ix_tup (pv 0) pe_int (fun _ _ => rfl)) pa_nil)) (pe_one (pe_df Dis_from_zero hr (pa_cons (pe_ix ix_tup (pv 0) pe_int (fun _ _ => rfl)) pa_nil)))))))), ?_⟩
    refine ⟨.ref t, rfl, .ref t, .ty "tuple", _, _, true, rfl, .ty _, .base (.tup ht), kit_ty (by decide +kernel), true, rfl, iteT ?_⟩
    refine ⟨.ref t, rfl, t, _, rfl, .inr (SqT.of ht), rfl, true, rfl, iteT ?_⟩
    refine ⟨.ref t, rfl, t, _, 0, _, rfl, rfl, SqT.of ht, rfl, x, rfl, hx, fun H1 e1 => ⟨true, rfl, iteT ?_⟩⟩
    exact ⟨.ref t, rfl, t, _, 1, _, rfl, rfl, SqT.of (e1 _ _ ht), rfl, y, rfl, hy, fun H2 e2 => q.go (e1.trans e2)⟩
theorem ok_is_list (B : Bt mg) (Dis_scan : Df P w K mg base "is_scan" 3 ["value"] spIsScan) {f : Addr} {fd : FuncData} (F : Fun K "is_list" "is_list" sis_list f fd) : FnOk P w K mg base CX0 4 f fd ["value"] spIsList := by
  refine F.ok scis_list (fun vs H Q E h => ?_) (fun cdv A outer s H vs Q E hr h => ?_)
  · obtain ⟨a, ss, rfl, _⟩ := h
    rfl
  · obtain ⟨a, ss, rfl, ⟨vs, ha, pa⟩, G, q⟩ := h
    refine ⟨_, (pss_cons (ps_if (pt_not (pt_val (pe_callB call_isi (by rfl) B.isinstance bo_isinstance (pa_cons (pv 0) (pa_cons (pe_bltn (v := .ty "list") (by rfl) B.list bo_list rfl) pa_nil))))) (pss_one (ps_ret pe_bl)) pss_nil)
      (pss_cons (ps_for PassesOwn.never rfl (pi_list (pv 0)) (pg_name (i := 1) scis_list.nd rfl (by first | exact Or.inl rfl | exact Or.inr rfl)) (pss_one (ps_if (pt_not (pt_val (pe_df Dis_scan hr (pa_cons (pv 1) pa_nil)))) (pss_one (ps_ret pe_bl)) pss_nil)))
      (pss_cons (ps_set (i := 2) scis_list.nd rfl (by first | exact Or.inl rfl | exact Or.inr rfl) (pe_callB cr_sortedPO (by rfl) B.sorted bo_sorted (pa_cons (pe_lc (own := [("first", 3), ("last", 4)]) (g := (gTup K 2 (gCons (gName 3) (gCons (gName 4) gNil)))) (te := (tTup (tCons (tCB _ (tCons (tVar 3) (tCons (tVar 4) tNil))) (tCons (tCB _ (tCons (tVar 3) (tCons (tVar 4) tNil))) tNil)))) rfl scis_list.nd (pi_list (pv 0)) (blkOk_by (N := ["value", "scan", "spans", "first", "last", "one", "two"]) (sc := defScope sis_list) (by decide +kernel)) (by exact fun _ _ _ _ _ => (pg_tup rfl (pgs_cons (pg_name (i := 3) scis_list.nd rfl (by first | exact Or.inl rfl | exact Or.inr rfl)) (pgs_cons (pg_name (i := 4) scis_list.nd rfl (by first | exact Or.inl rfl | exact Or.inr rfl)) pgs_nil)))) (by exact fun _ _ _ _ _ => pts_nil) (by exact fun _ _ _ _ _ => (pe_tup (pa_cons (pe_callB (call_min2 rfl) (by rfl) B.min bo_min (pa_cons (pv 3) (pa_cons (pv 4) pa_nil))) (pa_cons (pe_callB (call_max2 rfl) (by rfl) B.max bo_max (pa_cons (pv 3) (pa_cons (pv 4) pa_nil))) pa_nil))))) pa_nil)))
      (pss_one (ps_ret (pe_callB (cr_all rfl) (by rfl) B.all bo_all (pa_cons (pe_lc (own := [("one", 5), ("two", 6)]) (g := (gTup K 2 (gCons (gName 5) (gCons (gName 6) gNil)))) (te := (tOp _ (tOp (rIxT K) (tVar 5) _) (tOp (rIxT K) (tVar 6) _))) rfl scis_list.nd (pi_zip (by rfl) B.zip (pa_cons (pv 2) (pa_cons (pe_slice sl_list (pv 2) (po_some pe_int) po_none) pa_nil))) (blkOk_by (N := ["value", "scan", "spans", "first", "last", "one", "two"]) (sc := defScope sis_list) (by decide +kernel)) (by exact fun _ _ _ _ _ => (pg_tup rfl (pgs_cons (pg_name (i := 5) scis_list.nd rfl (by first | exact Or.inl rfl | exact Or.inr rfl)) (pgs_cons (pg_name (i := 6) scis_list.nd rfl (by first | exact Or.inl rfl | exact Or.inr rfl)) pgs_nil)))) (by exact fun _ _ _ _ _ => pts_nil) (by exact fun _ _ _ _ _ => (pe_cmpR op_lt (pe_ix ix_tup (pv 5) pe_int (fun _ _ => rfl)) (pe_ix ix_tup (pv 6) pe_int (fun _ _ => rfl)) (nomark _)))) pa_nil))))))), ?_⟩
    have lv : vs.length = ss.length := Pa.len pa
    -- not a list?
    refine ⟨.ref a, rfl, .ref a, .ty "list", _, _, true, rfl, .ty _, .base (.lst ha), kit_ty (by decide +kernel), true, rfl, iteF ?_⟩
    -- each one a scan
    refine ⟨.ref a, rfl, a, rfl, ⟨_, SqL.of ha⟩, for_list (xs := vs) (fun i σ H1 => ∃ y, σ = [some (.ref a), y, none, none, none, none, none] ∧ Ex H H1) ⟨none, rfl, Ex.refl _⟩ (fun i σ H1 _ p => ?_) (fun i x σ H1 hx p => ?_) (fun σ H1 p => ?_)⟩
    · obtain ⟨y, _, e1⟩ := p
      exact SqL.of (e1 _ _ ha)
    · obtain ⟨y, rfl, e1⟩ := p
      obtain ⟨s1, m1, i1⟩ := Pa.mem pa x (List.mem_of_getElem? hx)
      exact ⟨x, rfl, x, s1, rfl, i1.mono e1, G.nn _ m1, fun H2 e2 => ⟨true, rfl, iteF ⟨some x, rfl, e1.trans e2⟩⟩⟩
    -- the spans
    obtain ⟨y0, rfl, e1⟩ := p
    refine ⟨.ref a, rfl, a, rfl, ⟨_, SqL.of (e1 _ _ ha)⟩, fun D hD => lc_list (xs := vs) (fun i H2 => Ex H1 H2 ∧ ∃ us, H2 D = some (.lst us) ∧ Paired (IsSc H2) us ((ss.take i).map spn)) ?_ (fun i H2 _ p => ?_) (fun i x H2 hx p => ?_) (fun H2 p => ?_)⟩
    · exact ⟨Ex.new hD, [], upd_same, .nil⟩
    · exact SqL.of (p.1 _ _ (e1 _ _ ha))
    · obtain ⟨e2, us, hus, pus⟩ := p
      obtain ⟨⟨x1, x2⟩, gs, t, rfl, ht⟩ := Pa.get pa hx
      have lu : us.length = i := by
        have z := Pa.len pus
        rw [List.length_map, List.length_take] at z
        have y := (List.getElem?_eq_some_iff.mp gs).1
        omega
      refine ⟨t, _, rfl, SqT.of (e2 _ _ (e1 _ _ ht)), rfl, _, _, rfl, _, _, rfl, rfl, rfl, ?_⟩
      refine ⟨.int x1, rfl, .int x2, rfl, x1, x2, rfl, .int x1, rfl, .int x2, rfl, x1, x2, rfl, by show 2 ≤ sizeLine; decide, fun p np => ?_⟩
      have pD : p ≠ D := fun z => by
        rw [z, hus] at np
        cases np
      refine ⟨us, (upd_ne (Ne.symm pD)).trans hus, small1000 (by have := G.few; have := (List.getElem?_eq_some_iff.mp gs).1; omega), (e2.add np).mut hD, _, upd_same, ?_⟩
      have k1 := Pa.snoc (s := spn (x1, x2)) (Pa.mono (Ex.new np) pus) ⟨p, rfl, upd_same⟩
      rw [List.take_add_one, gs, List.map_append]
      exact Pa.lset ((upd_ne (Ne.symm pD)).trans hus) k1
    obtain ⟨e2, us, hus, pus⟩ := p
    rw [lv, List.take_length] at pus
    refine ⟨D, us, kOf H2, rfl, SqL.of hus, fun x hx => ?_, fun zs p s1 s2 np => ?_⟩
    · obtain ⟨s1, _, i1⟩ := Pa.mem pus x hx
      have ek := kOf_eq i1
      rw [ek]
      exact i1
    obtain ⟨ts, pt, per, ord⟩ := Pa.sorted pus s1 s2
    have lz := Pa.len pt
    have e3 : Ex H2 (upd H2 p (.lst zs)) := Ex.new np
    -- all(..)
    refine ⟨.ref p, rfl, .ref p, rfl, 1, rfl, p, zs, rfl, SqL.of upd_same, fun c nc => ?_⟩
    have hp : (upd (upd H2 p (.lst zs)) c (.lst (cutV zs (some 1) none))) p = some (.lst zs) := (Ex.new nc) _ _ upd_same
    refine ⟨p, c, zs, _, rfl, SqL.of hp, SqL.of upd_same, fun D2 hD2 => ?_⟩
    have ec : cutV zs (some 1) none = zs.drop 1 := by
      unfold cutV
      rw [show HT.sIx zs.length 0 (some 1) = min 1 zs.length from HT.sIx_nat zs.length 0 1, HT.sIx_none]
      cases zs with
      | nil => rfl
      | cons z r =>
        rw [List.length_cons, show min 1 (r.length + 1) = 1 by omega]
        exact List.take_of_length_le (by rw [List.length_drop, List.length_cons]; exact Nat.le_refl _)
    rw [ec] at hp hD2 ⊢
    generalize hg : upd (upd H2 p (.lst zs)) c (.lst (zs.drop 1)) = H3 at hp hD2 ⊢
    have hc : H3 c = some (.lst (zs.drop 1)) := by rw [← hg]; exact upd_same
    have e4 : Ex H2 H3 := by
      rw [← hg]
      exact e3.add nc
    have pt3 := Pa.mono e4 (Pa.lset (us' := zs) (H := H2) (D := D) hus .nil |> fun _ => pt)
    refine lc_zip (n := zs.length - 1) (xs := zs) (ys := zs.drop 1) (by rw [List.length_drop]; omega) (fun i H4 => Ex H3 H4 ∧ H4 D2 = some (.lst ((List.replicate i true).map V.bl))) ⟨Ex.new hD2, upd_same⟩ (fun i H4 _ p4 => ⟨SqL.of (p4.1 _ _ hp), SqL.of (p4.1 _ _ hc)⟩) (fun i x y T H4 hi hx hy nT p4 => ?_) (fun H4 p4 => ?_)
    · obtain ⟨e5, hL⟩ := p4
      obtain ⟨⟨x1, x2⟩, gx, tx, rfl, htx⟩ := Pa.get pt3 hx
      rw [List.getElem?_drop, Nat.add_comm 1 i] at hy
      obtain ⟨⟨y1, y2⟩, gy, ty, rfl, hty⟩ := Pa.get pt3 hy
      have hlt : x2 < y1 := G.next per ord gx gy
      have e6 : Ex H4 (upd H4 T (.tup [.ref tx, .ref ty])) := Ex.new nT
      refine ⟨T, _, rfl, SqT.of upd_same, rfl, _, _, rfl, _, _, rfl, rfl, rfl, ?_⟩
      refine ⟨.ref tx, rfl, tx, _, 1, _, rfl, rfl, SqT.of (e6 _ _ (e5 _ _ htx)), rfl, .ref ty, rfl, ty, _, 0, _, rfl, rfl, SqT.of (e6 _ _ (e5 _ _ hty)), rfl, x2, y1, rfl, rfl, _, e6 _ _ hL, ?_, ?_, ?_⟩
      · rw [List.length_map, List.length_replicate]
        have := G.few
        have z : zs.length = ss.length := by rw [lz, per.length_eq, List.length_map]
        exact small1000 (by omega)
      · exact (e5.add nT).mut hD2
      · rw [upd_same]
        show some (HO.lst (List.map V.bl (List.replicate i true) ++ [V.bl (decide (x2 < y1))])) = _
        rw [decide_eq_true hlt, List.replicate_succ', List.map_append]
        rfl
    · obtain ⟨e5, hL⟩ := p4
      refine ⟨D2, List.replicate (zs.length - 1) true, rfl, SqL.of hL, ?_⟩
      rw [show (List.replicate (zs.length - 1) true).all id = true by simp]
      exact q.go (((e1.trans e2).trans e4).trans e5)
theorem ok_check_list (Dis_list : Df P w K mg base "is_list" 4 ["value"] spIsList) {f : Addr} {fd : FuncData} (F : Fun K "check_list" "check_list" scheck_list f fd) : FnOk P w K mg base CX0 5 f fd ["scans"] spCheckList := by
  refine F.ok sccheck_list (fun vs H Q E h => ?_) (fun cdv A outer s H vs Q E hr h => ?_)
  · obtain ⟨a, ss, rfl, _⟩ := h
    rfl
  · obtain ⟨a, ss, rfl, hS, G, q⟩ := h
    refine ⟨_, (pss_one (ps_if (pt_not (pt_val (pe_df Dis_list hr (pa_cons (pv 0) pa_nil)))) (pss_one ps_never) pss_nil)), ?_⟩
    exact ⟨.ref a, rfl, a, ss, rfl, hS, G, fun H1 e1 => ⟨true, rfl, iteF (q.go e1)⟩⟩
theorem ok_scan_length (B : Bt mg) {f : Addr} {fd : FuncData} (F : Fun K "scan_length" "scan_length" sscan_length f fd) : FnOk P w K mg base CX0 1 f fd ["scan"] spScanLength := by
  refine F.ok scscan_length (fun vs H Q E h => ?_) (fun cdv A outer s H vs Q E hr h => ?_)
  · obtain ⟨v, s, rfl, _⟩ := h
    rfl
  · obtain ⟨v, ⟨x, y⟩, rfl, ⟨t, rfl, ht⟩, q⟩ := h
    refine ⟨_, (pss_one (ps_ret (pe_op op_add (pe_callB call_abs (by rfl) B.abs bo_abs (pa_cons (pe_op op_sub (pe_ix ix_tup (pv 0) pe_int (fun _ _ => rfl)) (pe_ix ix_tup (pv 0) pe_int (fun _ _ => rfl))) pa_nil)) pe_int))), ?_⟩
    exact ⟨.ref t, rfl, t, _, 1, _, rfl, rfl, SqT.of ht, rfl, .ref t, rfl, t, _, 0, _, rfl, rfl, SqT.of ht, rfl, y, x, rfl, rfl, y - x, rfl, _, 1, rfl, rfl, q.go (Ex.refl _)⟩
theorem ok_address_in {f : Addr} {fd : FuncData} (F : Fun K "address_in" "address_in" saddress_in f fd) : FnOk P w K mg base CX0 1 f fd ["scan", "place"] spAddressIn := by
  refine F.ok scaddress_in (fun vs H Q E h => ?_) (fun cdv A outer s H vs Q E hr h => ?_)
  · obtain ⟨v, s, p, rfl, _⟩ := h
    rfl
  · obtain ⟨v, ⟨x, y⟩, p, rfl, ⟨t, rfl, ht⟩, q⟩ := h
    refine ⟨_, (pss_cons (ps_asg (pv 0) (pg_tup rfl (pgs_cons (pg_name (i := 2) scaddress_in.nd rfl (by first | exact Or.inl rfl | exact Or.inr rfl)) (pgs_cons (pg_name (i := 3) scaddress_in.nd rfl (by first | exact Or.inl rfl | exact Or.inr rfl)) pgs_nil))))
      (pss_one (ps_ret (pe_ifExp (pt_cmpR op_le (pv 2) (pv 3) (nomark _)) (pe_op op_add (pv 2) (pv 1)) (pe_op op_sub (pv 2) (pv 1)))))), ?_⟩
    refine ⟨.ref t, rfl, t, _, rfl, SqT.of ht, rfl, _, _, rfl, _, _, rfl, rfl, .int x, rfl, .int y, rfl, x, y, rfl, rfl, _, rfl, ite2 (fun e => ?_) (fun e => ?_)⟩
    · have e' : x ≤ y := of_decide_eq_true e
      have z := q.go (Ex.refl H)
      rw [if_pos e'] at z
      exact ⟨.int x, rfl, .int p, rfl, x, p, rfl, rfl, z⟩
    · have e' : ¬ x ≤ y := fun z => e (decide_eq_true z)
      have z := q.go (Ex.refl H)
      rw [if_neg e'] at z
      exact ⟨.int x, rfl, .int p, rfl, x, p, rfl, rfl, z⟩
theorem ok_bag0 (B : Bt mg) {f : Addr} {fd : FuncData} (F : Fun K "_law_bag" "_law_bag" s_law_bag f fd) : FnOk P w K mg base CX0 1 f fd ["cell"] spBag0 := by
  refine F.ok sc_law_bag (fun vs H Q E h => ?_) (fun cdv A outer s H vs Q E hr h => ?_)
  · obtain ⟨c, rfl, _⟩ := h
    rfl
  · obtain ⟨c, rfl, q⟩ := h
    refine ⟨_, (pss_one (ps_ret (pe_lst (pa_cons (pe_callB (call_max2 rfl) (by rfl) B.max bo_max (pa_cons pe_int (pa_cons (pe_op op_sub (pv 0) (pe_op op_pow pe_int pe_int)) pa_nil))) (pa_cons (pv 0) (pa_cons pe_int pa_nil)))))), ?_⟩
    refine ⟨.int c, rfl, 10, 18, rfl, rfl, ⟨by decide, by decide, by decide⟩, c, _, rfl, rfl, 0, _, rfl, .int c, rfl, by show 3 ≤ sizeLine; decide, fun p np => ?_⟩
    exact q p _ _ _ _ np (Ex.new np) upd_same
theorem ok_bag (B : Bt mg) {f : Addr} {fd : FuncData} (F : Fun K "_law_bag" "_law_bag" s_law_bag f fd) : FnOk P w K mg base CX0 1 f fd ["cell"] spBag :=
  bag_new (ok_bag0 B F) fun vs H Q E h => by
    obtain ⟨c, rfl, q⟩ := h
    refine ⟨rfl, c, rfl, fun b H' x y z n e hb => ⟨b, x, y, z, rfl, n, hb, q b _ n (fun a o ha => ?_) upd_same⟩⟩
    rw [upd_ne (ne_of_none ha n)]
    exact e a o ha
theorem ok_pick0 (B : Bt mg) {f : Addr} {fd : FuncData} (F : Fun K "_law_pick" "_law_pick" s_law_pick f fd) : FnOk P w K mg base CX0 1 f fd ["bag", "many"] spPick0 := by
  refine F.ok sc_law_pick (fun vs H Q E h => ?_) (fun cdv A outer s H vs Q E hr h => ?_)
  · obtain ⟨b, m, x, c, t, rfl, _⟩ := h
    rfl
  · obtain ⟨b, m, x, c, t, rfl, hb, h1, h2, q⟩ := h
    refine ⟨_, (pss_cons (ps_asg (pe_op op_add (pe_ix ix_list (pv 0) pe_int (fun _ _ => rfl)) pe_int) (pg_sub (pv 0) pe_int set_list))
      (pss_cons (ps_if (pt_cmpR op_gt (pe_ix ix_list (pv 0) pe_int (fun _ _ => rfl)) pe_int (nomark _)) (pss_cons (ps_set (i := 2) sc_law_pick.nd rfl (by first | exact Or.inl rfl | exact Or.inr rfl) (pe_op op_mod (pe_callTy call_int1 (by rfl) B.int bo_int (pa_cons (pe_ix ix_list (pv 0) pe_int (fun _ _ => rfl)) pa_nil)) (pv 1)))
      (pss_cons (ps_asg (pe_op op_fdivW (pe_callTy call_int1 (by rfl) B.int bo_int (pa_cons (pe_ix ix_list (pv 0) pe_int (fun _ _ => rfl)) pa_nil)) (pv 1)) (pg_sub (pv 0) pe_int set_list))
      (pss_one (ps_ret (pv 2))))) pss_nil)
      (pss_cons (ps_par (i := 3) (j := 4) rfl sc_law_pick.nd rfl rfl (by decide) rfl rfl (pa_cons (pe_callTy call_int1 (by rfl) B.int bo_int (pa_cons (pe_ix ix_list (pv 0) pe_int (fun _ _ => rfl)) pa_nil)) (pa_cons (pe_callTy call_int1 (by rfl) B.int bo_int (pa_cons (pe_ix ix_list (pv 0) pe_int (fun _ _ => rfl)) pa_nil)) pa_nil)) (by rfl))
      (pss_cons (ps_set (i := 5) sc_law_pick.nd rfl (by first | exact Or.inl rfl | exact Or.inr rfl) (pe_op op_mod (pe_callTy call_int1 (by rfl) B.int bo_int (pa_cons (pe_op op_add (pe_op op_add (pe_op op_mul (pe_op op_mod (pv 3) pe_int) pe_int) (pe_op op_mul (pv 4) pe_int)) pe_int) pa_nil)) pe_int))
      (pss_cons (ps_set (i := 6) sc_law_pick.nd rfl (by first | exact Or.inl rfl | exact Or.inr rfl) (pe_op op_mod (pe_callTy call_int1 (by rfl) B.int bo_int (pa_cons (pe_op op_add (pe_op op_mul (pv 5) (pv 5)) (pe_op op_mul (pv 4) pe_int)) pa_nil)) pe_int))
      (pss_one (ps_ret (pe_op op_mod (pe_callTy call_int1 (by rfl) B.int bo_int (pa_cons (pe_op op_fdiv (pe_op op_add (pe_op op_mul (pv 5) pe_int) (pv 6)) pe_int) pa_nil)) (pv 1))))))))), ?_⟩
    refine ⟨.ref b, rfl, b, _, 2, _, rfl, rfl, SqL.of hb, rfl, t, 1, rfl, rfl, .ref b, rfl, b, _, 2, 2, rfl, rfl, hb, rfl, ?_⟩
    have k1 : ∀ a o, a ≠ b → H a = some o → (upd H b (.lst [.int x, .int c, .int (t + 1)])) a = some o := fun a o n e => (upd_ne n).trans e
    refine ⟨.ref b, rfl, b, _, 0, _, rfl, rfl, SqL.of upd_same, rfl, x, 0, rfl, rfl, _, rfl, ite2 (fun e => ?_) (fun e => ?_)⟩
    · refine ⟨.ref b, rfl, b, _, 0, _, rfl, rfl, SqL.of upd_same, rfl, .inl ⟨x, rfl, .int m, rfl, x, m, rfl, rfl, by show 0 < m; omega, ?_⟩⟩
      refine ⟨.ref b, rfl, b, _, 0, _, rfl, rfl, SqL.of upd_same, rfl, .inl ⟨x, rfl, .int m, rfl, x, m, rfl, rfl, ?_, .ref b, rfl, b, _, 0, 0, rfl, rfl, upd_same, rfl, ?_⟩⟩
      · exact wide_div (b := 400) (by omega) (Nat.lt_of_le_of_lt (show m.natAbs ≤ 10 ^ 100 by omega) (by decide)) (by decide) (by decide)
      · refine ⟨_, rfl, q _ _ (x / m) (t + 1) (Int.emod_nonneg _ (by omega)) (Int.emod_lt_of_pos _ (by omega)) (fun a o n e => ?_) upd_same⟩
        rw [upd_ne n]
        exact k1 a o n e
    · refine ⟨.ref b, rfl, b, _, 1, _, rfl, rfl, SqL.of upd_same, rfl, .inl ⟨c, rfl, .ref b, rfl, b, _, 2, _, rfl, rfl, SqL.of upd_same, rfl, .inl ⟨t + 1, rfl, _, _, rfl, ?_⟩⟩⟩
      refine ⟨_, rfl, c, 2147483629, rfl, rfl, by show (0 : Int) < 2147483629; decide, _, 48271, rfl, rfl, .inr ⟨by decide, by decide⟩, _, rfl, t + 1, 69621, rfl, rfl, .inr ⟨by decide, by decide⟩, _, _, rfl, rfl, _, 12345, rfl, rfl, .inl ⟨_, rfl, _, 2147483647, rfl, rfl, by show (0 : Int) < 2147483647; decide, ?_⟩⟩
      have f1 : ∀ z : Int, 0 ≤ z % 2147483647 ∧ z % 2147483647 < 2147483647 := fun z => ⟨Int.emod_nonneg _ (by decide), Int.emod_lt_of_pos _ (by decide)⟩
      have f2 := f1 (c % 2147483629 * 48271 + (t + 1) * 69621 + 12345)
      have f3 : CMul ((c % 2147483629 * 48271 + (t + 1) * 69621 + 12345) % 2147483647) ((c % 2147483629 * 48271 + (t + 1) * 69621 + 12345) % 2147483647) := .inl ⟨Int.lt_of_lt_of_le (by decide) f2.1, Int.lt_trans f2.2 (by decide)⟩
      have f4 : CMul ((c % 2147483629 * 48271 + (t + 1) * 69621 + 12345) % 2147483647) 2147483587 := .inr ⟨by decide, by decide⟩
      refine ⟨_, rfl, _, rfl, _, _, rfl, rfl, f3, _, rfl, t + 1, 40692, rfl, rfl, .inr ⟨by decide, by decide⟩, _, _, rfl, rfl, .inl ⟨_, rfl, _, 2147483587, rfl, rfl, by show (0 : Int) < 2147483587; decide, ?_⟩⟩
      refine ⟨_, rfl, _, 2147483587, rfl, rfl, f4, _, rfl, _, _, rfl, rfl, _, 32, rfl, rfl, ⟨by decide, by decide⟩, .inl ⟨_, rfl, _, rfl, _, m, rfl, rfl, by show 0 < m; omega, ?_⟩⟩
      exact q _ _ x (t + 1) (Int.emod_nonneg _ (by omega)) (Int.emod_lt_of_pos _ (by omega)) k1 upd_same
theorem ok_pick (B : Bt mg) {f : Addr} {fd : FuncData} (F : Fun K "_law_pick" "_law_pick" s_law_pick f fd) : FnOk P w K mg base CX0 1 f fd ["bag", "many"] spPick :=
  bag_fn (ok_pick0 B F) fun vs H Q E h => by
    obtain ⟨b, m, rfl, hb, h1, h2, q⟩ := h
    refine ⟨rfl, b, hb, fun x c t => ⟨b, m, x, c, t, rfl, upd_same, h1, h2, fun n H' x' t' n0 n1 k e => ⟨x', c, t', e, q n _ n0 n1 fun a o ha => ?_⟩⟩⟩
    by_cases z : a = b
    · subst z
      rw [hb] at ha
      rw [upd_same]
      exact ha
    · rw [upd_ne z]
      exact k a o z (by rw [upd_ne z]; exact ha)
theorem ok_reads (B : Bt mg) {f : Addr} {fd : FuncData} (F : Fun K "_law_reads" "_law_reads" s_law_reads f fd) : FnOk P w K mg base CX0 1 f fd ["scans"] spReads := by
  refine F.ok sc_law_reads (fun vs H Q E h => ?_) (fun cdv A outer s H vs Q E hr h => ?_)
  · obtain ⟨a, ss, rfl, _⟩ := h
    rfl
  · obtain ⟨a, ss, rfl, ⟨vs, ha, pa⟩, bd, few, q⟩ := h
    refine ⟨_, (pss_cons (ps_set (i := 1) sc_law_reads.nd rfl (by first | exact Or.inl rfl | exact Or.inr rfl) (pe_lst pa_nil))
      (pss_cons (ps_for PassesOwn.never rfl (pi_list (pv 0)) (pg_tup rfl (pgs_cons (pg_name (i := 2) sc_law_reads.nd rfl (by first | exact Or.inl rfl | exact Or.inr rfl)) (pgs_cons (pg_name (i := 3) sc_law_reads.nd rfl (by first | exact Or.inl rfl | exact Or.inr rfl)) pgs_nil))) (pss_cons (ps_set (i := 4) sc_law_reads.nd rfl (by first | exact Or.inl rfl | exact Or.inr rfl) (pe_ifExp (pt_cmpR op_le (pv 2) (pv 3) (nomark _)) pe_int (pe_un un_neg pe_int)))
      (pss_one (ps_set (i := 1) sc_law_reads.nd rfl (by first | exact Or.inl rfl | exact Or.inr rfl) (pe_op op_cat (pv 1) (pe_listRg3 rfl (by rfl) B.list B.range (pa_cons (pv 2) (pa_cons (pe_op op_add (pv 3) (pv 4)) (pa_cons (pv 4) pa_nil)))))))))
      (pss_one (ps_ret (pv 1))))), ?_⟩
    have lv : vs.length = ss.length := Pa.len pa
    have bl : ∀ i, i ≤ ss.length → (rdL (ss.take i)).length ≤ i * 10001 := by
      intro i hi
      induction i with
      | zero => simp [rdL]
      | succ i ih =>
        have gi : ss[i]? = some ss[i] := List.getElem?_eq_getElem (by omega)
        have b1 := bd ss[i] (List.getElem_mem _)
        have := ih (by omega)
        rw [List.take_add_one, gi, rdL_app, List.length_append]
        have e : (rdL (some ss[i]).toList).length = (slen ss[i]).toNat := by
          show (rd ss[i] ++ []).length = _
          rw [List.append_nil, rd_len]
        have sl : slen ss[i] ≤ 10001 := by
          obtain ⟨⟨u1, u2⟩, u3, u4⟩ := b1
          unfold slen
          split <;> omega
        omega
    refine ⟨Nat.zero_le _, fun p0 n0 => ?_⟩
    refine ⟨.ref a, rfl, a, rfl, ⟨_, SqL.of (Ex.new n0 _ _ ha)⟩, for_list (xs := vs) (fun i σ H1 => ∃ p y2 y3 y4, σ = [some (.ref a), some (.ref p), y2, y3, y4] ∧ H p = none ∧ Ex H H1 ∧ H1 p = some (.lst ((rdL (ss.take i)).map V.int)))
      ⟨p0, none, none, none, rfl, n0, Ex.new n0, upd_same⟩ (fun i σ H3 _ p => ?_) (fun i v σ H3 hx p => ?_) (fun σ H3 p => ?_)⟩
    · obtain ⟨_, _, _, _, _, _, e3, _⟩ := p
      exact SqL.of (e3 _ _ ha)
    · obtain ⟨p, y2, y3, y4, rfl, np, e3, hp⟩ := p
      obtain ⟨⟨x, y⟩, gs, t, rfl, ht⟩ := Pa.get pa hx
      have hi : i < ss.length := (List.getElem?_eq_some_iff.mp gs).1
      obtain ⟨⟨u1, u2⟩, u3, u4⟩ := bd (x, y) (List.mem_of_getElem? gs)
      have v1 : (0 : Int) ≤ x := u1
      have v2 : (0 : Int) ≤ y := u2
      have v3 : x ≤ 10000 := u3
      have v4 : y ≤ 10000 := u4
      have step : ∀ (c : Int) (σ' : L2.St), c = stp (x, y) → RgC x (y + c) c (slen (x, y)).toNat → σ' = [some (.ref a), some (.ref p), some (.int x), some (.int y), some (.int c)] →
          (tOp rCat (tVar 1) (tLstRg3 (tCons (tVar 2) (tCons (tOp (rI0 fun i j => .int (i + j)) (tVar 3) (tVar 4)) (tCons (tVar 4) tNil))))) σ' H3 fun z H4 => ∃ p y2 y3 y4, (σ'.set 1 (some z)) = [some (.ref a), some (.ref p), y2, y3, y4] ∧ H p = none ∧ Ex H H4 ∧ H4 p = some (.lst ((rdL (ss.take (i + 1))).map V.int)) := by
        intro c σ' ec hc es
        subst es
        refine ⟨.ref p, rfl, .int x, rfl, .int y, rfl, .int c, rfl, y, c, rfl, rfl, .int c, rfl, x, y + c, c, _, rfl, hc, ?_, fun q1 n1 => ?_⟩
        · have z := slen_eq (x, y)
          unfold Kb.hi lo at z
          revert z
          show (slen (x, y) = (if y > x then y else x) - (if y < x then y else x) + 1) → _
          split <;> split <;> intro z <;> omega
        · have n2 : q1 ≠ p := fun z => by
            rw [z, hp] at n1
            cases n1
          refine ⟨p, q1, _, _, rfl, rfl, (upd_ne (Ne.symm n2)).trans hp, upd_same, ?_, fun q2 n3 => ⟨q2, _, _, _, rfl, (e3.add n1).back n3, (e3.add n1).add n3, ?_⟩⟩
          · rw [List.length_map, List.length_map, List.length_range, ← rd_len, sizeLine_eq]
            have b1 := bl (i + 1) hi
            rw [List.take_add_one, gs, rdL_app, List.length_append] at b1
            have b2 : (rdL (some (x, y)).toList).length = (rd (x, y)).length := by
              show (rd (x, y) ++ []).length = _
              rw [List.append_nil]
            have b3 : (i + 1) * 10001 ≤ 1000 * 10001 := Nat.mul_le_mul_right _ (by omega)
            omega
          · rw [upd_same, List.take_add_one, gs, rdL_app, List.map_append]
            have e1 : (rdL (some (x, y)).toList).map V.int = (List.range (slen (x, y)).toNat).map fun (m : Nat) => V.int (x + (m : Int) * c) := by
              show (rd (x, y) ++ []).map V.int = _
              rw [List.append_nil]
              unfold rd
              rw [List.map_map, ec]
              rfl
            rw [e1]
      refine ⟨t, _, rfl, SqT.of (e3 _ _ ht), rfl, _, _, rfl, _, _, rfl, rfl, .int x, rfl, .int y, rfl, x, y, rfl, rfl, _, rfl, ite2 (fun e => ?_) (fun e => ?_)⟩
      · have e' : x ≤ y := of_decide_eq_true e
        have es : stp (x, y) = 1 := if_pos e'
        have el : slen (x, y) = y + 1 - x := by
          show (if y - x < 0 then -(y - x) else y - x) + 1 = _
          split <;> omega
        exact step 1 _ es.symm ⟨by decide, by decide, small_one (by omega) (by omega) (by omega) (by omega), by rw [el]; exact rangeSize_nat x (y + 1)⟩ rfl
      · have e' : ¬ x ≤ y := fun z => e (decide_eq_true z)
        have es : stp (x, y) = -1 := if_neg e'
        have el : slen (x, y) = x - (y + -1) := by
          show (if y - x < 0 then -(y - x) else y - x) + 1 = _
          split <;> omega
        have rc := RgC.neg (i := x) (j := y + -1) (by omega) (by omega) (by omega) (by omega)
        rw [← el] at rc
        exact ⟨1, rfl, step (-1) _ es.symm rc rfl⟩
    · obtain ⟨p, y2, y3, y4, rfl, np, e3, hp⟩ := p
      rw [lv, List.take_length] at hp
      exact ⟨_, rfl, q p _ np e3 hp⟩
theorem ok_mixed (B : Bt mg) (D_law_pick : Df P w K mg base "_law_pick" 1 ["bag", "many"] spPick) {f : Addr} {fd : FuncData} (F : Fun K "_law_mixed" "_law_mixed" s_law_mixed f fd) : FnOk P w K mg base CX0 2 f fd ["bag", "items"] spMixed := by
  refine F.ok sc_law_mixed (fun vs H Q E h => ?_) (fun cdv A outer s H vs Q E hr h => ?_)
  · obtain ⟨b, a, ss, rfl, _⟩ := h
    rfl
  · obtain ⟨b, a, ss, rfl, hb, ⟨vs, ha, pa⟩, few, q⟩ := h
    refine ⟨_, (pss_cons (ps_par (i := 2) (j := 3) rfl sc_law_mixed.nd rfl rfl (by decide) rfl rfl (pa_cons (pe_callTy call_list_of (by rfl) B.list bo_list (pa_cons (pv 1) pa_nil)) (pa_cons (pe_lst pa_nil) pa_nil)) (by rfl))
      (pss_cons (ps_while PassesOwn.never (pt_cmpR (op_neD hr.units) (pv 2) (pe_lst pa_nil) (nomark _)) (pss_one (ps_expr (pe_bm PySem.F.plainAttrs_list PySem.F.slot_list_append PySem.F.type_list_append mt_append (pv 3) (pa_cons (pe_bm PySem.F.plainAttrs_list PySem.F.slot_list_pop PySem.F.type_list_pop mt_popAt (pv 2) (pa_cons (pe_df D_law_pick hr (pa_cons (pv 0) (pa_cons (pe_callB call_len_seq (by rfl) B.len bo_len (pa_cons (pv 2) pa_nil)) pa_nil))) pa_nil)) pa_nil)))))
      (pss_one (ps_ret (pv 3))))), ?_⟩
    have lv : vs.length = ss.length := Pa.len pa
    refine ⟨.ref a, rfl, a, vs, rfl, .inl (SqL.of ha), fun l nl => ⟨Nat.zero_le _, fun fo nf => ⟨_, _, rfl, ?_⟩⟩⟩
    have e1 : Ex H (upd H l (.lst vs)) := Ex.new nl
    have n1 : fo ≠ l := fun z => by
      rw [z, upd_same] at nf
      cases nf
    refine ⟨fun m σ H1 => ∃ l fo us ls ws fs, σ = [some (.ref b), some (.ref a), some (.ref l), some (.ref fo)] ∧ H l = none ∧ H fo = none ∧ Ex H H1 ∧ H1 l = some (.lst us) ∧ Paired (IsSc H1) us ls ∧ H1 fo = some (.lst ws) ∧ Paired (IsSc H1) ws fs ∧ (ls ++ fs).Perm ss ∧ fo ≠ l ∧ m = us.length,
      ⟨_, l, fo, vs, ss, [], [], rfl, nl, e1.back nf, e1.add nf, Ex.new nf _ _ upd_same, Pa.mono (e1.add nf) pa, upd_same, .nil, by rw [List.append_nil], n1, rfl⟩, fun m σ H1 hW => ?_⟩
    obtain ⟨l, fo, us, ls, ws, fs, rfl, nl, nf, e2, hl, pl, hf, pf, per, nlf, rfl⟩ := hW
    have lu : us.length = ls.length := Pa.len pl
    have lw : ws.length = fs.length := Pa.len pf
    have pl2 : ls.length + fs.length = ss.length := by
      have z := per.length_eq
      rwa [List.length_append] at z
    refine ⟨.ref l, rfl, Nat.zero_le _, fun c nc => ?_⟩
    have e3 : Ex H1 (upd H1 c (.lst [])) := Ex.new nc
    have dl : Dp K (upd H1 c (.lst [])) (.ref l) (pdL ls) := Scs.dp ⟨us, e3 _ _ hl, Pa.mono e3 pl⟩
    have dc : Dp K (upd H1 c (.lst [])) (.ref c) (pdL []) := Scs.dp ⟨[], upd_same, .nil⟩
    refine ⟨pdL ls, pdL [], dl, dc, shaped_L _, shaped_L _, _, rfl, ?_⟩
    rw [eqv_L]
    by_cases hls : ls = []
    · rw [decide_eq_true hls]
      refine iteF ?_
      subst hls
      exact ⟨.ref fo, rfl, q fo _ fs nf (e2.trans e3) ⟨ws, e3 _ _ hf, Pa.mono e3 pf⟩ per⟩
    · rw [decide_eq_false hls]
      refine iteT ?_
      have hpos : 0 < us.length := by
        rw [lu]
        exact List.length_pos_iff.mpr hls
      refine ⟨fun σ' H' => ∃ us' ls' ws' fs', σ' = [some (.ref b), some (.ref a), some (.ref l), some (.ref fo)] ∧ Ex H H' ∧ H' l = some (.lst us') ∧ Paired (IsSc H') us' ls' ∧ H' fo = some (.lst ws') ∧ Paired (IsSc H') ws' fs' ∧ (ls' ++ fs').Perm ss ∧ us'.length < us.length, fun σ' H' hN => ?_, ?_⟩
      · obtain ⟨us', ls', ws', fs', r1, r2, r3, r4, r5, r6, r7, r8⟩ := hN
        exact ⟨_, r8, l, fo, us', ls', ws', fs', r1, nl, nf, r2, r3, r4, r5, r6, r7, nlf, rfl⟩
      · refine ⟨.ref fo, rfl, .inl ⟨rfl, _, .inl (.inl (e3 _ _ hf))⟩, .ref l, rfl, .inl ⟨rfl, _, .inl (.inl (e3 _ _ hl))⟩, .ref b, rfl, .ref l, rfl, l, us, rfl, .inl (SqL.of (e3 _ _ hl)), b, _, rfl, e3 _ _ (e2 _ _ hb), by omega, ?_, fun n H2 n0 n1 e4 => ?_⟩
        · have z : us.length ≤ 1000 := by omega
          have z2 : (1000 : Int) ≤ 10 ^ 100 := by decide
          omega
        · have e5 := e3.trans e4
          have hk : n.toNat < us.length := by omega
          obtain ⟨v, gv⟩ : ∃ v, us[n.toNat]? = some v := ⟨_, List.getElem?_eq_getElem hk⟩
          obtain ⟨s1, gs, i1⟩ := Pa.get pl gv
          have hl2 := e5 _ _ hl
          have hf2 := e5 _ _ hf
          refine ⟨l, us, n, n.toNat, v, rfl, rfl, hl2, by omega, by omega, ixq n0 n1, gv, fo, ws, v, rfl, rfl, (upd_ne nlf).trans hf2, small1000 (by omega), ?_⟩
          have i2 := i1.mono e5
          refine ⟨us.eraseIdx n.toNat, ls.eraseIdx n.toNat, ws ++ [v], fs ++ [s1], rfl, ((e2.trans e5).mut nl).mut nf, (upd_ne (Ne.symm nlf)).trans upd_same, ?_, upd_same, ?_, perm_pick per gs, ?_⟩
          · exact Pa.lset ((upd_ne nlf).trans hf2) (Pa.lset hl2 (Pa.erase n.toNat (Pa.mono e5 pl)))
          · exact Pa.lset ((upd_ne nlf).trans hf2) (Pa.lset hl2 (Pa.snoc (Pa.mono e5 pf) i2))
          · rw [List.length_eraseIdx_of_lt hk]
            omega
theorem ok_list (B : Bt mg) (D_law_pick : Df P w K mg base "_law_pick" 1 ["bag", "many"] spPick) (D_law_mixed : Df P w K mg base "_law_mixed" 2 ["bag", "items"] spMixed) {f : Addr} {fd : FuncData} (F : Fun K "_law_list" "_law_list" s_law_list f fd) :
    FnOk P w K mg base CX0 3 f fd ["bag", "many", "wide"] spList := by
  refine F.ok sc_law_list (fun vs H Q E h => ?_) (fun cdv A outer s H vs Q E hr h => ?_)
  · obtain ⟨b, m, wd, rfl, _⟩ := h
    rfl
  · obtain ⟨b, m, wd, rfl, hb, m1, m2, w1, w2, q⟩ := h
    refine ⟨_, (pss_cons (ps_set (i := 3) sc_law_list.nd rfl (by first | exact Or.inl rfl | exact Or.inr rfl) (pe_callB (cr_sortedSet rfl) (by rfl) B.sorted bo_sorted (pa_cons (pe_callTy (cr_set rfl) (by rfl) B.set bo_set (pa_cons (pe_lc (own := [("k", 7)]) (g := (gName 7)) (te := (tCall _ [] E0 (tCons (tVar 0) (tCons (tVar 2) tNil)))) rfl sc_law_list.nd (pi_range1 (by rfl) B.range (pa_cons (pe_op op_add pe_int (pe_df D_law_pick hr (pa_cons (pv 0) (pa_cons (pv 1) pa_nil)))) pa_nil)) (blkOk_by (N := ["bag", "many", "wide", "marks", "found", "low", "high", "k"]) (sc := defScope s_law_list) (by decide +kernel)) (by exact fun _ _ _ _ _ => (pg_name (i := 7) sc_law_list.nd rfl (by first | exact Or.inl rfl | exact Or.inr rfl))) (by exact fun _ _ _ _ _ => pts_nil) (by exact fun _ _ _ _ _ => (pe_df D_law_pick hr (pa_cons (pv 0) (pa_cons (pv 2) pa_nil))))) pa_nil)) pa_nil)))
      (pss_cons (ps_set (i := 4) sc_law_list.nd rfl (by first | exact Or.inl rfl | exact Or.inr rfl) (pe_lst pa_nil))
      (pss_cons (ps_for PassesOwn.never rfl (pi_zip (by rfl) B.zip (pa_cons (pv 3) (pa_cons (pe_slice sl_list (pv 3) (po_some pe_int) po_none) pa_nil))) (pg_tup rfl (pgs_cons (pg_name (i := 5) sc_law_list.nd rfl (by first | exact Or.inl rfl | exact Or.inr rfl)) (pgs_cons (pg_name (i := 6) sc_law_list.nd rfl (by first | exact Or.inl rfl | exact Or.inr rfl)) pgs_nil))) (pss_one (ps_if (pt_cmpR op_gt (pe_df D_law_pick hr (pa_cons (pv 0) (pa_cons pe_int pa_nil))) pe_int (nomark _)) (pss_one (ps_expr (pe_bm PySem.F.plainAttrs_list PySem.F.slot_list_append PySem.F.type_list_append mt_append (pv 4) (pa_cons (pe_ix ix_list (pe_lst (pa_cons (pe_tup (pa_cons (pv 5) (pa_cons (pe_op op_sub (pv 6) pe_int) pa_nil))) (pa_cons (pe_tup (pa_cons (pe_op op_sub (pv 6) pe_int) (pa_cons (pv 5) pa_nil))) pa_nil))) (pe_df D_law_pick hr (pa_cons (pv 0) (pa_cons pe_int pa_nil))) (fun _ _ => rfl)) pa_nil)))) pss_nil)))
      (pss_cons (ps_if (pt_cmpR op_eq (pe_df D_law_pick hr (pa_cons (pv 0) (pa_cons pe_int pa_nil))) pe_int (nomark _)) (pss_cons (ps_set (i := 4) sc_law_list.nd rfl (by first | exact Or.inl rfl | exact Or.inr rfl) (pe_slstep (pe_callB cr_sortedPO (by rfl) B.sorted bo_sorted (pa_cons (pv 4) pa_nil)) (pe_ix ix_list (pe_lst (pa_cons pe_int (pa_cons (pe_un un_neg pe_int) pa_nil))) (pe_df D_law_pick hr (pa_cons (pv 0) (pa_cons pe_int pa_nil))) (fun _ _ => rfl))))
      (pss_one (ps_ret (pv 4)))) pss_nil)
      (pss_one (ps_ret (pe_df D_law_mixed hr (pa_cons (pv 0) (pa_cons (pv 4) pa_nil))))))))), ?_⟩
    have ten : (1000 : Int) ≤ 10 ^ 100 := by decide
    -- the marks
    refine ⟨.ref b, rfl, .int m, rfl, b, m, rfl, hb, m1, by omega, fun k0 H1 k1 k2 e1 => ?_⟩
    refine ⟨2, k0, rfl, rfl, 2 + k0, rfl, by omega, by omega, fun D hD => ?_⟩
    have hb1 := e1 _ _ hb
    refine lc_range (lo := 0) (n := (2 + k0).toNat) (fun i H2 => Ex H1 H2 ∧ ∃ ns : List Int, H2 D = some (.lst (ns.map V.int)) ∧ ns.length = i ∧ ∀ z ∈ ns, 0 ≤ z ∧ z < wd) ⟨Ex.new hD, [], upd_same, rfl, fun z hz => by cases hz⟩ (fun i H2 hi p => ?_) (fun H2 p => ?_)
    · obtain ⟨e2, ns, hn, ln, bn⟩ := p
      refine ⟨rfl, .ref b, rfl, .int wd, rfl, b, wd, rfl, e2 _ _ hb1, w1, w2, fun z H3 z0 z1 e3 => ⟨_, e3 _ _ hn, ?_, (e2.trans e3).mut hD, ns ++ [z], ?_, ?_, ?_⟩⟩
      · rw [List.length_map]
        exact small1000 (by omega)
      · rw [upd_same, List.map_append]
        rfl
      · rw [List.length_append, ln]
        rfl
      · intro y hy
        rcases List.mem_append.mp hy with hy | hy
        · exact bn y hy
        · rw [List.mem_singleton.mp hy]
          exact ⟨z0, z1⟩
    obtain ⟨e2, ns0, hn0, ln0, bn0⟩ := p
    refine ⟨D, ns0, rfl, SqL.of hn0, by omega, fun S c nS cS => ?_⟩
    refine ⟨S, _, c, rfl, upd_same, by omega, fun ns pm inc mem lc npm => ?_⟩
    have e3 : Ex H2 (upd H2 S (SetO w S (fun j => decide (j ∈ ns0)) c)) := Ex.new nS
    rw [nox_w] at npm ⊢
    have bn : ∀ z ∈ ns, 0 ≤ z ∧ z < wd := fun z hz => bn0 z (of_decide_eq_true ((mem z).mp hz))
    have lns : ns.length ≤ 60 := by omega
    generalize hH3 : upd (upd H2 S (SetO w S (fun j => decide (j ∈ ns0)) c)) pm (.lst (ns.map V.int)) = H3
    have e4 : Ex H H3 := by
      rw [← hH3]
      exact ((e1.trans e2).trans e3).add npm
    have hpm : H3 pm = some (.lst (ns.map V.int)) := by
      rw [← hH3]
      exact upd_same
    -- found = []
    refine ⟨Nat.zero_le _, fun fo nf => ?_⟩
    -- the loop
    have e5 : Ex H3 (upd H3 fo (.lst [])) := Ex.new nf
    refine ⟨.ref pm, rfl, .ref pm, rfl, 1, rfl, pm, ns.map V.int, rfl, SqL.of (e5 _ _ hpm), fun cc ncc => ?_⟩
    have ec : cutV (ns.map V.int) (some 1) none = (ns.drop 1).map V.int := by
      unfold cutV
      rw [show HT.sIx (ns.map V.int).length 0 (some 1) = min 1 (ns.map V.int).length from HT.sIx_nat _ 0 1, HT.sIx_none, List.length_map]
      cases ns with
      | nil => rfl
      | cons z r =>
        rw [List.length_cons, show min 1 (r.length + 1) = 1 by omega, List.map_drop]
        exact List.take_of_length_le (by rw [List.length_drop, List.length_map, List.length_cons]; exact Nat.le_refl _)
    rw [ec]
    have e6 := Ex.new (o := .lst ((ns.drop 1).map V.int)) ncc
    have hcc : (upd (upd H3 fo (.lst [])) cc (.lst ((ns.drop 1).map V.int))) cc = some (.lst ((ns.drop 1).map V.int)) := upd_same
    generalize hH4 : upd (upd H3 fo (.lst [])) cc (.lst ((ns.drop 1).map V.int)) = H4 at e6 hcc ⊢
    have nfH : H fo = none := e4.back nf
    have e7 : Ex H H4 := (e4.trans e5).trans e6
    have hpm4 : H4 pm = some (.lst (ns.map V.int)) := e6 _ _ (e5 _ _ hpm)
    have nfp : pm ≠ fo := fun z => by
      rw [← z, hpm] at nf
      cases nf
    have nfc : cc ≠ fo := fun z => by
      rw [z, upd_same] at ncc
      cases ncc
    refine ⟨pm, cc, _, _, rfl, SqL.of hpm4, SqL.of hcc, for_zip (n := ns.length - 1) (xs := ns.map V.int) (ys := (ns.drop 1).map V.int) (by rw [List.length_map, List.length_map, List.length_drop]; omega)
      (fun i σ H5 => ∃ y5 y6 us fs, σ = [some (.ref b), some (.int m), some (.int wd), some (.ref pm), some (.ref fo), y5, y6, none] ∧ Ex H H5 ∧ H5 pm = some (.lst (ns.map V.int)) ∧ H5 cc = some (.lst ((ns.drop 1).map V.int)) ∧ H5 fo = some (.lst us) ∧ Paired (IsSc H5) us fs ∧
        fs.Pairwise (fun s t => hi s < lo t) ∧ (∀ s ∈ fs, 0 ≤ lo s ∧ hi s < wd ∧ ∀ z, ns[i]? = some z → hi s < z) ∧ fs.length ≤ i)
      ⟨none, none, [], [], rfl, e7, hpm4, hcc, e6 _ _ upd_same, .nil, List.Pairwise.nil, (fun s hs => by cases hs), Nat.le_refl _⟩ (fun i σ H5 _ p => ?_) (fun i x y T σ H5 hi5 hx hy nT p => ?_) (fun σ H5 p => ?_)⟩
    · obtain ⟨_, _, _, _, _, _, g1, g2, _⟩ := p
      exact ⟨SqL.of g1, SqL.of g2⟩
    · obtain ⟨y5, y6, us, fs, rfl, e8, hp5, hc5, hf5, pf, dj, bd, lf⟩ := p
      rw [List.getElem?_map] at hx hy
      rw [List.getElem?_drop, Nat.add_comm 1 i] at hy
      obtain ⟨low, glow, rfl⟩ := Option.map_eq_some_iff.mp hx
      obtain ⟨high, ghigh, rfl⟩ := Option.map_eq_some_iff.mp hy
      have lus : us.length = fs.length := Pa.len pf
      have hlt : low < high := by
        obtain ⟨l1, rfl⟩ := List.getElem?_eq_some_iff.mp glow
        obtain ⟨l2, rfl⟩ := List.getElem?_eq_some_iff.mp ghigh
        exact List.pairwise_iff_getElem.mp inc i (i + 1) l1 l2 (Nat.lt_succ_self i)
      have blow := bn low (List.mem_of_getElem? glow)
      have bhigh := bn high (List.mem_of_getElem? ghigh)
      have eT : Ex H5 (upd H5 T (.tup [.int low, .int high])) := Ex.new nT
      refine ⟨T, _, rfl, SqT.of upd_same, rfl, _, _, rfl, _, _, rfl, rfl, ?_⟩
      refine ⟨.ref b, rfl, b, 4, rfl, eT _ _ (e8 _ _ hb), by decide, by decide, fun n H6 n0 n1 e9 => ⟨n, 0, rfl, rfl, _, rfl, ite2 (fun e => ?_) (fun e => ?_)⟩⟩
      · have e10 := eT.trans e9
        have hf6 := e10 _ _ hf5
        refine ⟨.ref fo, rfl, .inl ⟨rfl, _, .inl (.inl hf6)⟩, .int low, rfl, .int high, rfl, high, 1, rfl, rfl, by show 2 ≤ sizeLine; decide, fun p1 np1 => ?_⟩
        refine ⟨.int high, rfl, high, 1, rfl, rfl, .int low, rfl, by show 2 ≤ sizeLine; decide, fun p2 np2 => ?_⟩
        refine ⟨by show 2 ≤ sizeLine; decide, fun p3 np3 => ?_⟩
        have x1 : Ex H6 (upd H6 p1 (.tup [.int low, .int (high - 1)])) := Ex.new np1
        have x2 := Ex.new (o := .tup [.int (high - 1), .int low]) np2
        have x3 := Ex.new (o := .lst [.ref p1, .ref p2]) np3
        have x123 := (x1.trans x2).trans x3
        refine ⟨.ref b, rfl, b, 2, rfl, x123 _ _ (e10 _ _ (e8 _ _ hb)), by decide, by decide, fun n' H7 n0' n1' e11 => ?_⟩
        have e12 : Ex H5 H7 := (e10.trans x123).trans e11
        have hf7 := e12 _ _ hf5
        have h1 : IsSc H7 (.ref p1) (low, high - 1) := ⟨p1, rfl, e11 _ _ (x3 _ _ (x2 _ _ upd_same))⟩
        have h2 : IsSc H7 (.ref p2) (high - 1, low) := ⟨p2, rfl, e11 _ _ (x3 _ _ upd_same)⟩
        have h3 := e11 _ _ (show (upd _ p3 (.lst [.ref p1, .ref p2])) p3 = some (.lst [.ref p1, .ref p2]) from upd_same)
        have fin : ∀ (v : V) (s1 : Sc), IsSc H7 v s1 → lo s1 = low → Kb.hi s1 = high - 1 → atI [V.ref p1, V.ref p2] n' = some v →
            rIxL K (.ref p3) (.int n') H7 fun v H8 => rAppend (.ref fo) [v] H8 fun _ H9 => ∃ y5 y6 us fs, [some (.ref b), some (.int m), some (.int wd), some (.ref pm), some (.ref fo), some (V.int low), some (V.int high), none] = [some (.ref b), some (.int m), some (.int wd), some (.ref pm), some (.ref fo), y5, y6, none] ∧ Ex H H9 ∧ H9 pm = some (.lst (ns.map V.int)) ∧ H9 cc = some (.lst ((ns.drop 1).map V.int)) ∧ H9 fo = some (.lst us) ∧ Paired (IsSc H9) us fs ∧
              fs.Pairwise (fun s t => Kb.hi s < lo t) ∧ (∀ s ∈ fs, 0 ≤ lo s ∧ Kb.hi s < wd ∧ ∀ z, ns[i + 1]? = some z → Kb.hi s < z) ∧ fs.length ≤ i + 1 := by
          intro v s1 iv el eh ea
          refine ⟨p3, _, n', v, rfl, rfl, SqL.of h3, ea, fo, us, v, rfl, rfl, hf7, small1000 (by omega), some (.int low), some (.int high), us ++ [v], fs ++ [s1], rfl, (e8.trans e12).mut nfH, (upd_ne nfp).trans (e12 _ _ hp5), (upd_ne nfc).trans (e12 _ _ hc5), upd_same, ?_, ?_, ?_, ?_⟩
          · exact Pa.lset hf7 (Pa.snoc (Pa.mono e12 pf) iv)
          · refine List.pairwise_append.mpr ⟨dj, List.pairwise_singleton _ _, fun a ha c hc => ?_⟩
            rw [List.mem_singleton.mp hc, el]
            exact (bd a ha).2.2 low glow
          · intro s hs
            rcases List.mem_append.mp hs with hs | hs
            · obtain ⟨g1, g2, g3⟩ := bd s hs
              refine ⟨g1, g2, fun z hz => ?_⟩
              have g4 := g3 low glow
              rw [ghigh] at hz
              cases hz
              omega
            · rw [List.mem_singleton.mp hs, el, eh]
              refine ⟨blow.1, by omega, fun z hz => ?_⟩
              rw [ghigh] at hz
              cases hz
              omega
          · rw [List.length_append]
            show fs.length + 1 ≤ i + 1
            omega
        have cs : n' = 0 ∨ n' = 1 := by omega
        rcases cs with rfl | rfl
        · refine fin (.ref p1) (low, high - 1) h1 ?_ ?_ rfl
          · show (if high - 1 < low then high - 1 else low) = low
            split <;> omega
          · show (if high - 1 > low then high - 1 else low) = high - 1
            split <;> omega
        · refine fin (.ref p2) (high - 1, low) h2 ?_ ?_ rfl
          · show (if low < high - 1 then low else high - 1) = low
            split <;> omega
          · show (if low > high - 1 then low else high - 1) = high - 1
            split <;> omega
      · have e12 : Ex H5 H6 := eT.trans e9
        refine ⟨some (.int low), some (.int high), us, fs, rfl, e8.trans e12, e12 _ _ hp5, e12 _ _ hc5, e12 _ _ hf5, Pa.mono e12 pf, dj, fun s hs => ?_, by omega⟩
        obtain ⟨g1, g2, g3⟩ := bd s hs
        refine ⟨g1, g2, fun z hz => ?_⟩
        have g4 := g3 low glow
        rw [ghigh] at hz
        cases hz
        omega
    -- behind the loop
    obtain ⟨y5, y6, us, fs, rfl, e8, hp5, hc5, hf5, pf, dj, bd, lf⟩ := p
    have lus : us.length = fs.length := Pa.len pf
    have fin : ∀ {p : Addr} {H' : Hp} {ts : List Sc}, H p = none → Ex H H' → Scs H' p ts → ts.Perm fs → Q (.ref p) H' := fun {p H' ts} g1 g2 g3 g4 =>
      q p H' ts g1 g2 g3 (Good.perm (fun s hs => (bd s hs).1) dj (by omega) g4) (fun s hs => top_of (bd s (g4.mem_iff.mp hs)).2.1) (by rw [g4.length_eq]; omega)
    refine ⟨.ref b, rfl, b, 3, rfl, e8 _ _ hb, by decide, by decide, fun n H6 n0 n1 e9 => ⟨rfl, _, rfl, ite2 (fun e => ?_) (fun e => ?_)⟩⟩
    · have hf6 := e9 _ _ hf5
      have pf6 := Pa.mono e9 pf
      refine ⟨.ref fo, rfl, fo, us, kOf H6, rfl, SqL.of hf6, fun x hx => ?_, fun zs p s1 s2 np => ?_⟩
      · obtain ⟨s1, _, i1⟩ := Pa.mem pf6 x hx
        have ek := kOf_eq i1
        rw [ek]
        exact i1
      obtain ⟨ts, pt, per, _⟩ := Pa.sorted pf6 s1 s2
      have x1 : Ex H6 (upd H6 p (.lst zs)) := Ex.new np
      refine ⟨1, rfl, by show 2 ≤ sizeLine; decide, fun p3 np3 => ?_⟩
      have x3 := Ex.new (o := .lst [V.int 1, V.int (-1)]) np3
      refine ⟨.ref b, rfl, b, 2, rfl, x3 _ _ (x1 _ _ (e9 _ _ (e8 _ _ hb))), by decide, by decide, fun n' H7 n0' n1' e11 => ?_⟩
      have h3 := e11 _ _ (show (upd _ p3 (.lst [V.int 1, V.int (-1)])) p3 = some (.lst [V.int 1, V.int (-1)]) from upd_same)
      have e13 : Ex (upd H6 p (.lst zs)) H7 := x3.trans e11
      have e14 : Ex H H7 := ((e8.trans e9).trans x1).trans e13
      have hz7 : H7 p = some (.lst zs) := e13 _ _ upd_same
      have pt7 : Paired (IsSc H7) zs ts := Pa.mono (x1.trans e13) pt
      have cs : n' = 0 ∨ n' = 1 := by omega
      rcases cs with rfl | rfl
      · refine ⟨p3, _, 0, .int 1, rfl, rfl, SqL.of h3, rfl, 1, rfl, p, zs, 1, rfl, rfl, SqL.of hz7, .inl ⟨rfl, fun p4 np4 => ⟨_, rfl, fin (e14.back np4) (e14.add np4) ⟨zs, upd_same, Pa.mono (Ex.new np4) pt7⟩ per⟩⟩⟩
      · refine ⟨p3, _, 1, .int (-1), rfl, rfl, SqL.of h3, rfl, -1, rfl, p, zs, -1, rfl, rfl, SqL.of hz7, .inr ⟨rfl, fun p4 np4 => ⟨_, rfl, fin (e14.back np4) (e14.add np4) ⟨zs.reverse, upd_same, Pa.mono (Ex.new np4) (Pa.rev pt7)⟩ ((List.reverse_perm _).trans per)⟩⟩⟩
    · refine ⟨.ref b, rfl, .ref fo, rfl, b, fo, fs, rfl, e9 _ _ (e8 _ _ hb), ⟨us, e9 _ _ hf5, Pa.mono e9 pf⟩, by omega, fun p H7 ts np e11 hS per => ?_⟩
      exact fin ((e8.trans e9).back np) ((e8.trans e9).trans e11) hS per
theorem ok_joined (B : Bt mg) {f : Addr} {fd : FuncData} (F : Fun K "joined" "joined" sjoined f fd) : FnOk P w K mg base CX0 1 f fd ["scans"] spJoined := by
  refine F.ok scjoined (fun vs H Q E h => ?_) (fun cdv A outer s H vs Q E hr h => ?_)
  · obtain ⟨a, ss, rfl, _⟩ := h
    rfl
  · obtain ⟨a, ss, rfl, ⟨vs, ha, pa⟩, few, q⟩ := h
    refine ⟨_, (pss_cons (ps_set (i := 1) scjoined.nd rfl (by first | exact Or.inl rfl | exact Or.inr rfl) (pe_lst pa_nil))
      (pss_cons (ps_for PassesOwn.never rfl (pi_list (pv 0)) (pg_tup rfl (pgs_cons (pg_name (i := 2) scjoined.nd rfl (by first | exact Or.inl rfl | exact Or.inr rfl)) (pgs_cons (pg_name (i := 3) scjoined.nd rfl (by first | exact Or.inl rfl | exact Or.inr rfl)) pgs_nil))) (pss_one (ps_if (pw_and (pt_truth (pv 1) (by intro _; rfl)) (pw_and1 (pt_cmpR op_eq (pe_callB call_abs (by rfl) B.abs bo_abs (pa_cons (pe_op op_sub (pv 2) (pe_ix ix_tup (pe_ix ix_list (pv 1) (pe_un un_neg pe_int) (fun _ _ => rfl)) pe_int (fun _ _ => rfl))) pa_nil)) pe_int (nomark _)))).pt (pss_one (ps_asg (pe_tup (pa_cons (pe_ix ix_tup (pe_ix ix_list (pv 1) (pe_un un_neg pe_int) (fun _ _ => rfl)) pe_int (fun _ _ => rfl)) (pa_cons (pv 3) pa_nil))) (pg_sub (pv 1) (pe_un un_neg pe_int) set_list))) (pss_one (ps_expr (pe_bm PySem.F.plainAttrs_list PySem.F.slot_list_append PySem.F.type_list_append mt_append (pv 1) (pa_cons (pe_tup (pa_cons (pv 2) (pa_cons (pv 3) pa_nil))) pa_nil)))))))
      (pss_one (ps_ret (pv 1))))), ?_⟩
    have lv : vs.length = ss.length := Pa.len pa
    refine ⟨Nat.zero_le _, fun p np => ?_⟩
    refine ⟨.ref a, rfl, a, rfl, ⟨_, SqL.of (Ex.new np _ _ ha)⟩, for_list (xs := vs) (JW H a p ss) ⟨none, none, [], rfl, Ex.new np, upd_same, .nil⟩ (fun i σ H1 _ pv => ?_) (fun i v0 σ H1 hx pv => ?_) (fun σ H1 pv => ?_)⟩
    · obtain ⟨_, _, _, _, e1, _⟩ := pv
      exact SqL.of (e1 _ _ ha)
    · obtain ⟨y2, y3, us, rfl, e1, hp, pu⟩ := pv
      obtain ⟨⟨x, y⟩, gs, t0, rfl, ht0⟩ := Pa.get pa hx
      have hi : i < ss.length := (List.getElem?_eq_some_iff.mp gs).1
      have lu : us.length ≤ i := by
        have z := Pa.len pu
        have z2 := jn_len (ss.take i)
        rw [List.length_take] at z2
        omega
      refine ⟨t0, _, rfl, SqT.of (e1 _ _ ht0), rfl, _, _, rfl, _, _, rfl, rfl, ?_⟩
      refine ⟨.ref p, rfl, !us.isEmpty, .inl ⟨us, SqL.of hp, rfl⟩, ?_⟩
      rcases eq_nil_or_snoc us with eu | ⟨pre, v, eu⟩
      · subst eu
        have ej : jn (ss.take i) = [] := by
          cases hj : jn (ss.take i) with
          | nil => rfl
          | cons c r =>
            rw [hj] at pu
            cases pu
        refine iteF (iteF ⟨.ref p, rfl, .inl ⟨rfl, _, .inl (.inl hp)⟩, .int x, rfl, .int y, rfl, by show 2 ≤ sizeLine; decide, fun q nq => ⟨p, [], .ref q, rfl, rfl, (upd_ne (ne_of_none hp nq)).trans hp, by decide, ?_⟩⟩)
        exact jw_app np gs e1 hp pu nq (by rw [ej]; rfl) ⟨_, _, rfl⟩
      · subst eu
        obtain ⟨pre', t, ej, pp, tv, rfl, htv⟩ := Pa.concat pu
        have emp : (!(pre ++ [V.ref tv]).isEmpty) = true := by simp
        rw [emp]
        refine iteT ⟨.int x, rfl, .ref p, rfl, 1, rfl, p, _, -1, .ref tv, rfl, rfl, SqL.of hp, atI_last _ _, tv, _, 1, _, rfl, rfl, SqT.of htv, rfl, x, t.2, rfl, rfl, x - t.2, rfl, rfl, _, rfl, ite2 (fun e => ?_) (fun e => ?_)⟩
        · have hc : absI (x - t.2) = 1 := V.int.inj (of_decide_eq_true e)
          refine ⟨.ref p, rfl, 1, rfl, p, _, -1, .ref tv, rfl, rfl, SqL.of hp, atI_last _ _, tv, _, 0, _, rfl, rfl, SqT.of htv, rfl, .int y, rfl, by show 2 ≤ sizeLine; decide, fun q nq => ?_⟩
          exact ⟨.ref p, rfl, 1, rfl, p, _, -1, pre.length, rfl, rfl, (upd_ne (ne_of_none hp nq)).trans hp, ix_last _ _, jw_set np gs e1 hp pp nq ej hc ⟨_, _, rfl⟩⟩
        · have hc : ¬ absI (x - t.2) = 1 := fun z => e (decide_eq_true (congrArg V.int z))
          refine ⟨.ref p, rfl, .inl ⟨rfl, _, .inl (.inl hp)⟩, .int x, rfl, .int y, rfl, by show 2 ≤ sizeLine; decide, fun q nq => ⟨p, _, .ref q, rfl, rfl, (upd_ne (ne_of_none hp nq)).trans hp, small20 (by omega), ?_⟩⟩
          exact jw_app np gs e1 hp pu nq (by rw [ej, jstep_snoc, if_neg hc]) ⟨_, _, rfl⟩
    · obtain ⟨y2, y3, us, rfl, e1, hp, pu⟩ := pv
      rw [lv, List.take_length] at pu
      exact ⟨_, rfl, q p _ np e1 ⟨us, hp, pu⟩⟩
theorem ok_law_joined (B : Bt mg) {f : Addr} {fd : FuncData} (F : Fun K "_law_joined" "_law_joined" s_law_joined f fd) : FnOk P w K mg base CX0 1 f fd ["scans"] spJoined := by
  refine F.ok sc_law_joined (fun vs H Q E h => ?_) (fun cdv A outer s H vs Q E hr h => ?_)
  · obtain ⟨a, ss, rfl, _⟩ := h
    rfl
  · obtain ⟨a, ss, rfl, ⟨vs, ha, pa⟩, few, q⟩ := h
    refine ⟨_, (pss_cons (ps_set (i := 1) sc_law_joined.nd rfl (by first | exact Or.inl rfl | exact Or.inr rfl) (pe_lst pa_nil))
      (pss_cons (ps_for PassesOwn.never rfl (pi_list (pv 0)) (pg_tup rfl (pgs_cons (pg_name (i := 2) sc_law_joined.nd rfl (by first | exact Or.inl rfl | exact Or.inr rfl)) (pgs_cons (pg_name (i := 3) sc_law_joined.nd rfl (by first | exact Or.inl rfl | exact Or.inr rfl)) pgs_nil))) (pss_one (ps_if (pw_and (pt_cmpR (op_neD hr.units) (pv 1) (pe_lst pa_nil) (nomark _)) (pw_and1 (pt_cmpR op_eq (pe_callB call_abs (by rfl) B.abs bo_abs (pa_cons (pe_op op_sub (pe_ix ix_tup (pe_ix ix_list (pv 1) (pe_un un_neg pe_int) (fun _ _ => rfl)) pe_int (fun _ _ => rfl)) (pv 2)) pa_nil)) pe_int (nomark _)))).pt (pss_one (ps_asg (pe_tup (pa_cons (pe_ix ix_tup (pe_ix ix_list (pv 1) (pe_un un_neg pe_int) (fun _ _ => rfl)) pe_int (fun _ _ => rfl)) (pa_cons (pv 3) pa_nil))) (pg_sub (pv 1) (pe_un un_neg pe_int) set_list))) (pss_one (ps_expr (pe_bm PySem.F.plainAttrs_list PySem.F.slot_list_append PySem.F.type_list_append mt_append (pv 1) (pa_cons (pe_tup (pa_cons (pv 2) (pa_cons (pv 3) pa_nil))) pa_nil)))))))
      (pss_one (ps_ret (pv 1))))), ?_⟩
    have lv : vs.length = ss.length := Pa.len pa
    refine ⟨Nat.zero_le _, fun p np => ?_⟩
    refine ⟨.ref a, rfl, a, rfl, ⟨_, SqL.of (Ex.new np _ _ ha)⟩, for_list (xs := vs) (JW H a p ss) ⟨none, none, [], rfl, Ex.new np, upd_same, .nil⟩ (fun i σ H1 _ pv => ?_) (fun i v0 σ H1 hx pv => ?_) (fun σ H1 pv => ?_)⟩
    · obtain ⟨_, _, _, _, e1, _⟩ := pv
      exact SqL.of (e1 _ _ ha)
    · obtain ⟨y2, y3, us, rfl, e1, hp, pu⟩ := pv
      obtain ⟨⟨x, y⟩, gs, t0, rfl, ht0⟩ := Pa.get pa hx
      have hi : i < ss.length := (List.getElem?_eq_some_iff.mp gs).1
      have lu : us.length ≤ i := by
        have z := Pa.len pu
        have z2 := jn_len (ss.take i)
        rw [List.length_take] at z2
        omega
      refine ⟨t0, _, rfl, SqT.of (e1 _ _ ht0), rfl, _, _, rfl, _, _, rfl, rfl, ?_⟩
      refine ⟨.ref p, rfl, Nat.zero_le _, fun c nc => ?_⟩
      have xc : Ex H1 (upd H1 c (.lst [])) := Ex.new nc
      have e2 := e1.trans xc
      have hp2 := xc _ _ hp
      have pu2 := Pa.mono xc pu
      have dl : Dp K (upd H1 c (.lst [])) (.ref p) (pdL (jn (ss.take i))) := Scs.dp ⟨us, hp2, pu2⟩
      have dc : Dp K (upd H1 c (.lst [])) (.ref c) (pdL []) := Scs.dp ⟨[], upd_same, .nil⟩
      refine ⟨_, _, dl, dc, shaped_L _, shaped_L _, _, rfl, ?_⟩
      rw [eqv_L]
      rcases eq_nil_or_snoc us with eu | ⟨pre, v, eu⟩
      · subst eu
        have ej : jn (ss.take i) = [] := by
          cases hj : jn (ss.take i) with
          | nil => rfl
          | cons c r =>
            rw [hj] at pu
            cases pu
        rw [ej, decide_eq_true rfl]
        refine iteF (iteF ⟨.ref p, rfl, .inl ⟨rfl, _, .inl (.inl hp2)⟩, .int x, rfl, .int y, rfl, by show 2 ≤ sizeLine; decide, fun q nq => ⟨p, [], .ref q, rfl, rfl, (upd_ne (ne_of_none hp2 nq)).trans hp2, by decide, ?_⟩⟩)
        exact jw_app np gs e2 hp2 pu2 nq (by rw [ej]; rfl) ⟨_, _, rfl⟩
      · subst eu
        obtain ⟨pre', t, ej, pp, tv, rfl, htv⟩ := Pa.concat pu2
        rw [ej, decide_eq_false (by simp)]
        refine iteT ⟨.ref p, rfl, 1, rfl, p, _, -1, .ref tv, rfl, rfl, SqL.of hp2, atI_last _ _, tv, _, 1, _, rfl, rfl, SqT.of htv, rfl, .int x, rfl, t.2, x, rfl, rfl, t.2 - x, rfl, rfl, _, rfl, ite2 (fun e => ?_) (fun e => ?_)⟩
        · have hc : absI (x - t.2) = 1 := (absI_sub _ _).trans (V.int.inj (of_decide_eq_true e))
          refine ⟨.ref p, rfl, 1, rfl, p, _, -1, .ref tv, rfl, rfl, SqL.of hp2, atI_last _ _, tv, _, 0, _, rfl, rfl, SqT.of htv, rfl, .int y, rfl, by show 2 ≤ sizeLine; decide, fun q nq => ?_⟩
          exact ⟨.ref p, rfl, 1, rfl, p, _, -1, pre.length, rfl, rfl, (upd_ne (ne_of_none hp2 nq)).trans hp2, ix_last _ _, jw_set np gs e2 hp2 pp nq ej hc ⟨_, _, rfl⟩⟩
        · have hc : ¬ absI (x - t.2) = 1 := fun z => e (decide_eq_true (congrArg V.int ((absI_sub _ _).trans z)))
          refine ⟨.ref p, rfl, .inl ⟨rfl, _, .inl (.inl hp2)⟩, .int x, rfl, .int y, rfl, by show 2 ≤ sizeLine; decide, fun q nq => ⟨p, _, .ref q, rfl, rfl, (upd_ne (ne_of_none hp2 nq)).trans hp2, small20 (by omega), ?_⟩⟩
          exact jw_app np gs e2 hp2 pu2 nq (by rw [ej, jstep_snoc, if_neg hc]) ⟨_, _, rfl⟩
    · obtain ⟨y2, y3, us, rfl, e1, hp, pu⟩ := pv
      rw [lv, List.take_length] at pu
      exact ⟨_, rfl, q p _ np e1 ⟨us, hp, pu⟩⟩
theorem ok_tidied (D_law_joined : Df P w K mg base "_law_joined" 1 ["scans"] spJoined) {f : Addr} {fd : FuncData} (F : Fun K "_law_tidied" "_law_tidied" s_law_tidied f fd) : FnOk P w K mg base CX0 2 f fd ["addresses"] spTidied := by
  refine F.ok sc_law_tidied (fun vs H Q E h => ?_) (fun cdv A outer s H vs Q E hr h => ?_)
  · obtain ⟨a, ns, rfl, _⟩ := h
    rfl
  · obtain ⟨a, ns, rfl, ha, few, q⟩ := h
    refine ⟨_, (pss_one (ps_ret (pe_df D_law_joined hr (pa_cons (pe_lc (own := [("address", 1)]) (g := (gName 1)) (te := (tTup (tCons (tVar 1) (tCons (tVar 1) tNil)))) rfl sc_law_tidied.nd (pi_list (pv 0)) (blkOk_by (N := ["addresses", "address"]) (sc := defScope s_law_tidied) (by decide +kernel)) (by exact fun _ _ _ _ _ => (pg_name (i := 1) sc_law_tidied.nd rfl (by first | exact Or.inl rfl | exact Or.inr rfl))) (by exact fun _ _ _ _ _ => pts_nil) (by exact fun _ _ _ _ _ => (pe_tup (pa_cons (pv 1) (pa_cons (pv 1) pa_nil))))) pa_nil)))), ?_⟩
    refine ⟨.ref a, rfl, a, rfl, ⟨_, SqL.of ha⟩, fun D hD => lc_list (xs := ns.map V.int) (fun i H2 => Ex H H2 ∧ ∃ us, H2 D = some (.lst us) ∧ Paired (IsSc H2) us (dup (ns.take i))) ⟨Ex.new hD, [], upd_same, .nil⟩ (fun i H2 _ p => SqL.of (p.1 _ _ ha)) (fun i x H2 hx p => ?_) (fun H2 p => ?_)⟩
    · obtain ⟨e2, us, hus, pus⟩ := p
      rw [List.getElem?_map] at hx
      obtain ⟨z, gz, rfl⟩ := Option.map_eq_some_iff.mp hx
      have hi : i < ns.length := (List.getElem?_eq_some_iff.mp gz).1
      have lu : us.length = i := by
        have y := Pa.len pus
        unfold dup at y
        rw [List.length_map, List.length_take] at y
        omega
      refine ⟨rfl, .int z, rfl, .int z, rfl, by show 2 ≤ sizeLine; decide, fun p np => ?_⟩
      have pD : D ≠ p := ne_of_none hus np
      refine ⟨us, (upd_ne pD).trans hus, small20 (by omega), (e2.add np).mut hD, _, upd_same, ?_⟩
      have ed : dup (ns.take (i + 1)) = dup (ns.take i) ++ [(z, z)] := by
        unfold dup
        rw [List.take_add_one, gz, List.map_append]
        rfl
      rw [ed]
      exact Pa.lset ((upd_ne pD).trans hus) (Pa.snoc (Pa.mono (Ex.new np) pus) ⟨p, rfl, upd_same⟩)
    · obtain ⟨e2, us, hus, pus⟩ := p
      rw [List.length_map, List.take_length] at pus
      refine ⟨D, dup ns, rfl, ⟨us, hus, pus⟩, by unfold dup; rw [List.length_map]; exact few, fun p H3 np e3 hp => q p H3 (e2.back np) (e2.trans e3) hp⟩
def pd3 : PyData := .list [pdL [], pdL [(3, 1)], pdL []]
theorem ok_law3 (B : Bt mg) (D_law_bag : Df P w K mg base "_law_bag" 1 ["cell"] spBag) (D_law_pick : Df P w K mg base "_law_pick" 1 ["bag", "many"] spPick) (D_law_list : Df P w K mg base "_law_list" 3 ["bag", "many", "wide"] spList)
    (D_law_right : DfG P w K mg base "_law_right" 7 ["bag", "scans"] spRight3) (Dfirst_part : Df P w K mg base "first_part" 6 ["scans", "many"] spFirst) (Don_top : Df P w K mg base "on_top" 6 ["scans", "scan"] spTop) (Dwithout : Df P w K mg base "without" 6 ["scans", "low", "high"] spWithout)
    {f : Addr} {fd : FuncData} (F : Fun K "law" "law" slaw f fd) : FnG P w K mg base 8 f fd ["script"] (spLaw K) := by
  refine okG F sclaw (fun vs H Q E h => ?_) (fun cdv A outer s H vs Q E hr hg h => ?_)
  · obtain ⟨a, ns, rfl, _⟩ := h
    rfl
  · obtain ⟨a, ns, rfl, hS, hlen, q⟩ := h
    refine ⟨_, (pss_cons (ps_for PassesOwn.never rfl (pi_list (pe_op op_cat (pe_slice sl_list (pv 0) po_none (po_some pe_int)) (pe_lst (pa_cons pe_int pa_nil)))) (pg_name (i := 1) sclaw.nd rfl (by first | exact Or.inl rfl | exact Or.inr rfl)) (pss_cons (ps_set (i := 2) sclaw.nd rfl (by first | exact Or.inl rfl | exact Or.inr rfl) (pe_df D_law_bag hr (pa_cons (pv 1) pa_nil)))
      (pss_one (ps_for PassesOwn.never rfl (pi_range1 (by rfl) B.range (pa_cons pe_int pa_nil)) (pg_name (i := 3) sclaw.nd rfl (by first | exact Or.inl rfl | exact Or.inr rfl)) (pss_one (ps_if (pt_not (pt_val (pe_dg D_law_right hr hg (pa_cons (pv 2) (pa_cons (pe_df D_law_list hr (pa_cons (pv 2) (pa_cons (pe_ix ix_list (pe_lst (pa_cons pe_int (pa_cons pe_int pa_nil))) (pe_df D_law_pick hr (pa_cons (pv 2) (pa_cons pe_int pa_nil))) (fun _ _ => rfl)) (pa_cons (pe_ix ix_list (pe_lst (pa_cons pe_int (pa_cons pe_int pa_nil))) (pe_df D_law_pick hr (pa_cons (pv 2) (pa_cons pe_int pa_nil))) (fun _ _ => rfl)) pa_nil)))) pa_nil))))) (pss_one (ps_ret pe_bl)) pss_nil))))))
      (pss_one (ps_ret (pe_cmpR (op_eqD hr.units) (pe_lst (pa_cons (pe_df Dfirst_part hr (pa_cons (pe_lst pa_nil) (pa_cons pe_int pa_nil))) (pa_cons (pe_df Don_top hr (pa_cons (pe_lst pa_nil) (pa_cons (pe_tup (pa_cons pe_int (pa_cons pe_int pa_nil))) pa_nil))) (pa_cons (pe_df Dwithout hr (pa_cons (pe_lst pa_nil) (pa_cons pe_int (pa_cons pe_int pa_nil)))) pa_nil)))) (pe_lst (pa_cons (pe_lst pa_nil) (pa_cons (pe_lst (pa_cons (pe_tup (pa_cons pe_int (pa_cons pe_int pa_nil))) pa_nil)) (pa_cons (pe_lst pa_nil) pa_nil)))) (nomark _))))), ?_⟩
    refine ⟨.ref a, rfl, 8, rfl, a, ns.map V.int, rfl, hS, fun c nc => ⟨by show 1 ≤ sizeLine; decide, fun d nd => ?_⟩⟩
    have lc : (cutV (ns.map V.int) none (some 8)).length ≤ 63 := by
      have := cutV_length (ns.map V.int) none (some 8)
      rw [List.length_map] at this
      omega
    refine ⟨c, d, _, _, rfl, rfl, Ex.new nd _ _ upd_same, upd_same, Nat.le_of_lt (small1000 (by rw [List.length_singleton]; omega)), fun e ne => ⟨e, rfl, ⟨_, SqL.of upd_same⟩, ?_⟩⟩
    have hcell : ∀ x ∈ cutV (ns.map V.int) none (some 8) ++ [V.int 0], ∃ z, x = V.int z := fun x hx => by
      rcases List.mem_append.mp hx with hx | hx
      · obtain ⟨z, _, rfl⟩ := List.mem_map.mp (List.mem_of_mem_drop (List.mem_of_mem_take hx))
        exact ⟨z, rfl⟩
      · exact ⟨0, List.mem_singleton.mp hx⟩
    generalize cutV (ns.map V.int) none (some 8) ++ [V.int 0] = cells at hcell ⊢
    generalize hH0 : upd (upd (upd H c _) d _) e (.lst cells) = H0
    have he : H0 e = some (.lst cells) := by
      rw [← hH0]
      exact upd_same
    refine for_list (xs := cells) (fun i σ H1 => ∃ y1 y2 y3, σ = [some (.ref a), y1, y2, y3] ∧ Ex H0 H1) ⟨none, none, none, rfl, Ex.refl _⟩ (fun i σ H1 _ p => ?_) (fun i x σ H1 hx p => ?_) (fun σ H1 p => ?_)
    · obtain ⟨_, _, _, _, e1⟩ := p
      exact SqL.of (e1 _ _ he)
    · obtain ⟨y1, y2, y3, rfl, e1⟩ := p
      obtain ⟨z, rfl⟩ := hcell x (List.mem_of_getElem? hx)
      refine ⟨.int z, rfl, z, rfl, fun b H2 nb e2 hb => ?_⟩
      refine ⟨3, rfl, by decide, by decide, for_range (lo := 0) (n := 3) (fun j σ H3 => ∃ y3, σ = [some (.ref a), some (.int z), some (.ref b), y3] ∧ Ex H2 H3) ⟨y3, rfl, Ex.refl _⟩ (fun j σ H3 hj p => ?_) (fun σ H3 p => ?_)⟩
      · obtain ⟨y3, rfl, e3⟩ := p
        have hb3 := e3 _ _ hb
        refine ⟨.ref b, rfl, .ref b, rfl, by show 2 ≤ sizeLine; decide, fun p1 np1 => ?_⟩
        have x1 := Ex.new (o := .lst [V.int 3, V.int 9]) np1
        refine ⟨.ref b, rfl, b, 2, rfl, x1 _ _ hb3, by decide, by decide, fun n H4 n0 n1 e4 => ?_⟩
        obtain ⟨m, am, m1, m2⟩ := pick2 (p := fun m => 1 ≤ m ∧ m ≤ 50) n0 n1 (x := 3) (y := 9) (by decide) (by decide)
        refine ⟨p1, _, n, .int m, rfl, rfl, SqL.of (e4 _ _ upd_same), am, by show 2 ≤ sizeLine; decide, fun p2 np2 => ?_⟩
        have x2 := Ex.new (o := .lst [V.int 12, V.int 40]) np2
        have e34 := (x1.trans e4).trans x2
        refine ⟨.ref b, rfl, b, 2, rfl, e34 _ _ hb3, by decide, by decide, fun n' H5 n0' n1' e5 => ?_⟩
        obtain ⟨wd, aw, w1, w2⟩ := pick2 (p := fun m => 1 ≤ m ∧ m ≤ 40) n0' n1' (x := 12) (y := 40) (by decide) (by decide)
        have e35 := e34.trans e5
        refine ⟨p2, _, n', .int wd, rfl, rfl, SqL.of (e5 _ _ upd_same), aw, b, m, wd, rfl, e35 _ _ hb3, m1, m2, w1, Int.le_trans w2 (by decide), fun p H6 ss np e6 hSS G top few => ?_⟩
        exact ⟨b, p, ss, rfl, (e35.trans e6) _ _ hb3, hSS, ⟨⟨G, fun s hs => ⟨by have := top s hs; omega, by have := top s hs; omega⟩⟩, few⟩, fun H7 e7 => ⟨true, rfl, iteF ⟨_, rfl, ((e3.trans e35).trans e6).trans e7⟩⟩⟩
      · obtain ⟨y3, rfl, e3⟩ := p
        exact ⟨_, _, _, rfl, (e1.trans e2).trans e3⟩
    · obtain ⟨y1, y2, y3, rfl, e1⟩ := p
      refine ⟨Nat.zero_le _, fun a1 na1 => ⟨a1, [], 5, rfl, ⟨[], upd_same, .nil⟩, Good.nil, by decide, fun t1 H2 nt1 e2 ht1 => ?_⟩⟩
      refine ⟨Nat.zero_le _, fun a2 na2 => ⟨by show 2 ≤ sizeLine; decide, fun a3 na3 => ?_⟩⟩
      have x2 := Ex.new (o := .lst ([] : List V)) na2
      have x3 := Ex.new (o := .tup [V.int 3, V.int 1]) na3
      refine ⟨a2, [], .ref a3, (3, 1), rfl, ⟨[], x3 _ _ upd_same, .nil⟩, Good.nil, ⟨a3, rfl, upd_same⟩, ⟨by decide, by decide⟩, fun t2 H3 nt2 e3 ht2 => ?_⟩
      refine ⟨Nat.zero_le _, fun a4 na4 => ⟨a4, [], 0, 0, rfl, ⟨[], upd_same, .nil⟩, Good.nil, by decide, by decide, fun t3 H4 nt3 e4 ht3 => ?_⟩⟩
      refine ⟨by show 3 ≤ sizeLine; decide, fun l1 nl1 => ?_⟩
      have x4 := Ex.new (o := .lst ([] : List V)) na4
      have z1 := Ex.new (o := .lst [V.ref t1, V.ref t2, V.ref t3]) nl1
      have d1 : ∀ H', Ex (upd H4 l1 (.lst [V.ref t1, V.ref t2, V.ref t3])) H' → Dp K H' (.ref l1) pd3 := fun H' e' =>
        .lst (SqL.of (e' _ _ upd_same)) (.cons (Scs.dp (((((((ht1.mono x2).mono x3).mono e3).mono x4).mono e4).mono z1).mono e')) (.cons (Scs.dp ((((ht2.mono x4).mono e4).mono z1).mono e')) (.cons (Scs.dp ((ht3.mono z1).mono e')) .nil)))
      refine ⟨Nat.zero_le _, fun b1 nb1 => ⟨by show 2 ≤ sizeLine; decide, fun b2 nb2 => ⟨by show 1 ≤ sizeLine; decide, fun b3 nb3 => ⟨Nat.zero_le _, fun b4 nb4 => ⟨by show 3 ≤ sizeLine; decide, fun l2 nl2 => ?_⟩⟩⟩⟩⟩
      have q1 := Ex.new (o := .lst ([] : List V)) nb1
      have q2 := Ex.new (o := .tup [V.int 3, V.int 1]) nb2
      have q3 := Ex.new (o := .lst [V.ref b2]) nb3
      have q4 := Ex.new (o := .lst ([] : List V)) nb4
      have q5 := Ex.new (o := .lst [V.ref b1, V.ref b3, V.ref b4]) nl2
      refine ⟨pd3, pd3, d1 _ ((((q1.trans q2).trans q3).trans q4).trans q5), .lst (SqL.of upd_same) (.cons (Scs.dp ⟨[], q5 _ _ (q4 _ _ (q3 _ _ (q2 _ _ upd_same))), .nil⟩) (.cons (Scs.dp ⟨_, q5 _ _ (q4 _ _ upd_same), .cons ⟨b2, rfl, q5 _ _ (q4 _ _ (q3 _ _ upd_same))⟩ .nil⟩) (.cons (Scs.dp ⟨[], q5 _ _ upd_same, .nil⟩) .nil))), by decide, by decide, ?_⟩
      rw [show PyData.eqv pd3 pd3 = true by decide]
      exact q _
end
theorem all_mk {P : Program} {w : World} {K : PySem.W.Frag} {h : Heap} {mg : Str → Option Value} {fa f_is_integer f_is_from_zero f_is_scan f_is_list f_check_list f_check_scan f_check_from f_check_interval f_scan_length f_address_in f_scan_head f_first_reaching f_scan_outside f_all_without f_others_of f_first_of f_put_ahead f_joined f_first_part f_on_top f_without f__law_bag f__law_pick f__law_reads f__law_joined f__law_mixed f__law_list f__law_tidied f__law_right f_law : Addr} (X : K.In h) (G : h.Ns mainGlobals mg) (hfa : mg "law" = some (.ref fa))
    {od_is_integer an_is_integer od_is_from_zero an_is_from_zero od_is_scan an_is_scan od_is_list an_is_list od_check_list an_check_list od_check_scan an_check_scan od_check_from an_check_from od_check_interval an_check_interval od_scan_length an_scan_length od_address_in an_address_in od_scan_head an_scan_head od_first_reaching an_first_reaching od_scan_outside an_scan_outside od_all_without an_all_without od_others_of an_others_of od_first_of an_first_of od_put_ahead an_put_ahead od_joined an_joined od_first_part an_first_part od_on_top an_on_top od_without an_without od__law_bag an__law_bag od__law_pick an__law_pick od__law_reads an__law_reads od__law_joined an__law_joined od__law_mixed an__law_mixed od__law_list an__law_list od__law_tidied an__law_tidied od__law_right an__law_right od_law an_law : Option Addr} {sl_is_integer sl_is_from_zero sl_is_scan sl_is_list sl_check_list sl_check_scan sl_check_from sl_check_interval sl_scan_length sl_address_in sl_scan_head sl_first_reaching sl_scan_outside sl_all_without sl_others_of sl_first_of sl_put_ahead sl_joined sl_first_part sl_on_top sl_without sl__law_bag sl__law_pick sl__law_reads sl__law_joined sl__law_mixed sl__law_list sl__law_tidied sl__law_right sl_law : Array (Option Value)}
    {oc_is_integer kV_is_integer dc_is_integer pm_is_integer cd_is_integer ct_is_integer oc_is_from_zero kV_is_from_zero dc_is_from_zero pm_is_from_zero cd_is_from_zero ct_is_from_zero oc_is_scan kV_is_scan dc_is_scan pm_is_scan cd_is_scan ct_is_scan oc_is_list kV_is_list dc_is_list pm_is_list cd_is_list ct_is_list oc_check_list kV_check_list dc_check_list pm_check_list cd_check_list ct_check_list oc_check_scan kV_check_scan dc_check_scan pm_check_scan cd_check_scan ct_check_scan oc_check_from kV_check_from dc_check_from pm_check_from cd_check_from ct_check_from oc_check_interval kV_check_interval dc_check_interval pm_check_interval cd_check_interval ct_check_interval oc_scan_length kV_scan_length dc_scan_length pm_scan_length cd_scan_length ct_scan_length oc_address_in kV_address_in dc_address_in pm_address_in cd_address_in ct_address_in oc_scan_head kV_scan_head dc_scan_head pm_scan_head cd_scan_head ct_scan_head oc_first_reaching kV_first_reaching dc_first_reaching pm_first_reaching cd_first_reaching ct_first_reaching oc_scan_outside kV_scan_outside dc_scan_outside pm_scan_outside cd_scan_outside ct_scan_outside oc_all_without kV_all_without dc_all_without pm_all_without cd_all_without ct_all_without oc_others_of kV_others_of dc_others_of pm_others_of cd_others_of ct_others_of oc_first_of kV_first_of dc_first_of pm_first_of cd_first_of ct_first_of oc_put_ahead kV_put_ahead dc_put_ahead pm_put_ahead cd_put_ahead ct_put_ahead oc_joined kV_joined dc_joined pm_joined cd_joined ct_joined oc_first_part kV_first_part dc_first_part pm_first_part cd_first_part ct_first_part oc_on_top kV_on_top dc_on_top pm_on_top cd_on_top ct_on_top oc_without kV_without dc_without pm_without cd_without ct_without oc__law_bag kV__law_bag dc__law_bag pm__law_bag cd__law_bag ct__law_bag oc__law_pick kV__law_pick dc__law_pick pm__law_pick cd__law_pick ct__law_pick oc__law_reads kV__law_reads dc__law_reads pm__law_reads cd__law_reads ct__law_reads oc__law_joined kV__law_joined dc__law_joined pm__law_joined cd__law_joined ct__law_joined oc__law_mixed kV__law_mixed dc__law_mixed pm__law_mixed cd__law_mixed ct__law_mixed oc__law_list kV__law_list dc__law_list pm__law_list cd__law_list ct__law_list oc__law_tidied kV__law_tidied dc__law_tidied pm__law_tidied cd__law_tidied ct__law_tidied oc__law_right kV__law_right dc__law_right pm__law_right cd__law_right ct__law_right oc_law kV_law dc_law pm_law cd_law ct_law : Value}
    (a_is_integer : PySem.W.nsIn K mainGlobals "is_integer" = some (some (.ref f_is_integer))) (l_is_integer : K.lookup f_is_integer = some ⟨oc_is_integer, od_is_integer, .func (PySem.W.fnOf "is_integer" "is_integer" (defArgs sis_integer) (defBody sis_integer) (defScope sis_integer) .none kV_is_integer dc_is_integer pm_is_integer an_is_integer cd_is_integer ct_is_integer), sl_is_integer⟩) (c_is_integer : PySem.W.codeIn K cd_is_integer "is_integer" = true) (k_is_integer : PySem.W.keepIn K (.ref f_is_integer) = true)
    (a_is_from_zero : PySem.W.nsIn K mainGlobals "is_from_zero" = some (some (.ref f_is_from_zero))) (l_is_from_zero : K.lookup f_is_from_zero = some ⟨oc_is_from_zero, od_is_from_zero, .func (PySem.W.fnOf "is_from_zero" "is_from_zero" (defArgs sis_from_zero) (defBody sis_from_zero) (defScope sis_from_zero) .none kV_is_from_zero dc_is_from_zero pm_is_from_zero an_is_from_zero cd_is_from_zero ct_is_from_zero), sl_is_from_zero⟩) (c_is_from_zero : PySem.W.codeIn K cd_is_from_zero "is_from_zero" = true) (k_is_from_zero : PySem.W.keepIn K (.ref f_is_from_zero) = true)
    (a_is_scan : PySem.W.nsIn K mainGlobals "is_scan" = some (some (.ref f_is_scan))) (l_is_scan : K.lookup f_is_scan = some ⟨oc_is_scan, od_is_scan, .func (PySem.W.fnOf "is_scan" "is_scan" (defArgs sis_scan) (defBody sis_scan) (defScope sis_scan) .none kV_is_scan dc_is_scan pm_is_scan an_is_scan cd_is_scan ct_is_scan), sl_is_scan⟩) (c_is_scan : PySem.W.codeIn K cd_is_scan "is_scan" = true) (k_is_scan : PySem.W.keepIn K (.ref f_is_scan) = true)
    (a_is_list : PySem.W.nsIn K mainGlobals "is_list" = some (some (.ref f_is_list))) (l_is_list : K.lookup f_is_list = some ⟨oc_is_list, od_is_list, .func (PySem.W.fnOf "is_list" "is_list" (defArgs sis_list) (defBody sis_list) (defScope sis_list) .none kV_is_list dc_is_list pm_is_list an_is_list cd_is_list ct_is_list), sl_is_list⟩) (c_is_list : PySem.W.codeIn K cd_is_list "is_list" = true) (k_is_list : PySem.W.keepIn K (.ref f_is_list) = true)
    (a_check_list : PySem.W.nsIn K mainGlobals "check_list" = some (some (.ref f_check_list))) (l_check_list : K.lookup f_check_list = some ⟨oc_check_list, od_check_list, .func (PySem.W.fnOf "check_list" "check_list" (defArgs scheck_list) (defBody scheck_list) (defScope scheck_list) .none kV_check_list dc_check_list pm_check_list an_check_list cd_check_list ct_check_list), sl_check_list⟩) (c_check_list : PySem.W.codeIn K cd_check_list "check_list" = true) (k_check_list : PySem.W.keepIn K (.ref f_check_list) = true)
    (a_check_scan : PySem.W.nsIn K mainGlobals "check_scan" = some (some (.ref f_check_scan))) (l_check_scan : K.lookup f_check_scan = some ⟨oc_check_scan, od_check_scan, .func (PySem.W.fnOf "check_scan" "check_scan" (defArgs scheck_scan) (defBody scheck_scan) (defScope scheck_scan) .none kV_check_scan dc_check_scan pm_check_scan an_check_scan cd_check_scan ct_check_scan), sl_check_scan⟩) (c_check_scan : PySem.W.codeIn K cd_check_scan "check_scan" = true) (k_check_scan : PySem.W.keepIn K (.ref f_check_scan) = true)
    (a_check_from : PySem.W.nsIn K mainGlobals "check_from" = some (some (.ref f_check_from))) (l_check_from : K.lookup f_check_from = some ⟨oc_check_from, od_check_from, .func (PySem.W.fnOf "check_from" "check_from" (defArgs scheck_from) (defBody scheck_from) (defScope scheck_from) .none kV_check_from dc_check_from pm_check_from an_check_from cd_check_from ct_check_from), sl_check_from⟩) (c_check_from : PySem.W.codeIn K cd_check_from "check_from" = true) (k_check_from : PySem.W.keepIn K (.ref f_check_from) = true)
    (a_check_interval : PySem.W.nsIn K mainGlobals "check_interval" = some (some (.ref f_check_interval))) (l_check_interval : K.lookup f_check_interval = some ⟨oc_check_interval, od_check_interval, .func (PySem.W.fnOf "check_interval" "check_interval" (defArgs scheck_interval) (defBody scheck_interval) (defScope scheck_interval) .none kV_check_interval dc_check_interval pm_check_interval an_check_interval cd_check_interval ct_check_interval), sl_check_interval⟩) (c_check_interval : PySem.W.codeIn K cd_check_interval "check_interval" = true) (k_check_interval : PySem.W.keepIn K (.ref f_check_interval) = true)
    (a_scan_length : PySem.W.nsIn K mainGlobals "scan_length" = some (some (.ref f_scan_length))) (l_scan_length : K.lookup f_scan_length = some ⟨oc_scan_length, od_scan_length, .func (PySem.W.fnOf "scan_length" "scan_length" (defArgs sscan_length) (defBody sscan_length) (defScope sscan_length) .none kV_scan_length dc_scan_length pm_scan_length an_scan_length cd_scan_length ct_scan_length), sl_scan_length⟩) (c_scan_length : PySem.W.codeIn K cd_scan_length "scan_length" = true) (k_scan_length : PySem.W.keepIn K (.ref f_scan_length) = true)
    (a_address_in : PySem.W.nsIn K mainGlobals "address_in" = some (some (.ref f_address_in))) (l_address_in : K.lookup f_address_in = some ⟨oc_address_in, od_address_in, .func (PySem.W.fnOf "address_in" "address_in" (defArgs saddress_in) (defBody saddress_in) (defScope saddress_in) .none kV_address_in dc_address_in pm_address_in an_address_in cd_address_in ct_address_in), sl_address_in⟩) (c_address_in : PySem.W.codeIn K cd_address_in "address_in" = true) (k_address_in : PySem.W.keepIn K (.ref f_address_in) = true)
    (a_scan_head : PySem.W.nsIn K mainGlobals "scan_head" = some (some (.ref f_scan_head))) (l_scan_head : K.lookup f_scan_head = some ⟨oc_scan_head, od_scan_head, .func (PySem.W.fnOf "scan_head" "scan_head" (defArgs sscan_head) (defBody sscan_head) (defScope sscan_head) .none kV_scan_head dc_scan_head pm_scan_head an_scan_head cd_scan_head ct_scan_head), sl_scan_head⟩) (c_scan_head : PySem.W.codeIn K cd_scan_head "scan_head" = true) (k_scan_head : PySem.W.keepIn K (.ref f_scan_head) = true)
    (a_first_reaching : PySem.W.nsIn K mainGlobals "first_reaching" = some (some (.ref f_first_reaching))) (l_first_reaching : K.lookup f_first_reaching = some ⟨oc_first_reaching, od_first_reaching, .func (PySem.W.fnOf "first_reaching" "first_reaching" (defArgs sfirst_reaching) (defBody sfirst_reaching) (defScope sfirst_reaching) .none kV_first_reaching dc_first_reaching pm_first_reaching an_first_reaching cd_first_reaching ct_first_reaching), sl_first_reaching⟩) (c_first_reaching : PySem.W.codeIn K cd_first_reaching "first_reaching" = true) (k_first_reaching : PySem.W.keepIn K (.ref f_first_reaching) = true)
    (a_scan_outside : PySem.W.nsIn K mainGlobals "scan_outside" = some (some (.ref f_scan_outside))) (l_scan_outside : K.lookup f_scan_outside = some ⟨oc_scan_outside, od_scan_outside, .func (PySem.W.fnOf "scan_outside" "scan_outside" (defArgs sscan_outside) (defBody sscan_outside) (defScope sscan_outside) .none kV_scan_outside dc_scan_outside pm_scan_outside an_scan_outside cd_scan_outside ct_scan_outside), sl_scan_outside⟩) (c_scan_outside : PySem.W.codeIn K cd_scan_outside "scan_outside" = true) (k_scan_outside : PySem.W.keepIn K (.ref f_scan_outside) = true)
    (a_all_without : PySem.W.nsIn K mainGlobals "all_without" = some (some (.ref f_all_without))) (l_all_without : K.lookup f_all_without = some ⟨oc_all_without, od_all_without, .func (PySem.W.fnOf "all_without" "all_without" (defArgs sall_without) (defBody sall_without) (defScope sall_without) .none kV_all_without dc_all_without pm_all_without an_all_without cd_all_without ct_all_without), sl_all_without⟩) (c_all_without : PySem.W.codeIn K cd_all_without "all_without" = true) (k_all_without : PySem.W.keepIn K (.ref f_all_without) = true)
    (a_others_of : PySem.W.nsIn K mainGlobals "others_of" = some (some (.ref f_others_of))) (l_others_of : K.lookup f_others_of = some ⟨oc_others_of, od_others_of, .func (PySem.W.fnOf "others_of" "others_of" (defArgs sothers_of) (defBody sothers_of) (defScope sothers_of) .none kV_others_of dc_others_of pm_others_of an_others_of cd_others_of ct_others_of), sl_others_of⟩) (c_others_of : PySem.W.codeIn K cd_others_of "others_of" = true) (k_others_of : PySem.W.keepIn K (.ref f_others_of) = true)
    (a_first_of : PySem.W.nsIn K mainGlobals "first_of" = some (some (.ref f_first_of))) (l_first_of : K.lookup f_first_of = some ⟨oc_first_of, od_first_of, .func (PySem.W.fnOf "first_of" "first_of" (defArgs sfirst_of) (defBody sfirst_of) (defScope sfirst_of) .none kV_first_of dc_first_of pm_first_of an_first_of cd_first_of ct_first_of), sl_first_of⟩) (c_first_of : PySem.W.codeIn K cd_first_of "first_of" = true) (k_first_of : PySem.W.keepIn K (.ref f_first_of) = true)
    (a_put_ahead : PySem.W.nsIn K mainGlobals "put_ahead" = some (some (.ref f_put_ahead))) (l_put_ahead : K.lookup f_put_ahead = some ⟨oc_put_ahead, od_put_ahead, .func (PySem.W.fnOf "put_ahead" "put_ahead" (defArgs sput_ahead) (defBody sput_ahead) (defScope sput_ahead) .none kV_put_ahead dc_put_ahead pm_put_ahead an_put_ahead cd_put_ahead ct_put_ahead), sl_put_ahead⟩) (c_put_ahead : PySem.W.codeIn K cd_put_ahead "put_ahead" = true) (k_put_ahead : PySem.W.keepIn K (.ref f_put_ahead) = true)
    (a_joined : PySem.W.nsIn K mainGlobals "joined" = some (some (.ref f_joined))) (l_joined : K.lookup f_joined = some ⟨oc_joined, od_joined, .func (PySem.W.fnOf "joined" "joined" (defArgs sjoined) (defBody sjoined) (defScope sjoined) .none kV_joined dc_joined pm_joined an_joined cd_joined ct_joined), sl_joined⟩) (c_joined : PySem.W.codeIn K cd_joined "joined" = true) (k_joined : PySem.W.keepIn K (.ref f_joined) = true)
    (a_first_part : PySem.W.nsIn K mainGlobals "first_part" = some (some (.ref f_first_part))) (l_first_part : K.lookup f_first_part = some ⟨oc_first_part, od_first_part, .func (PySem.W.fnOf "first_part" "first_part" (defArgs sfirst_part) (defBody sfirst_part) (defScope sfirst_part) .none kV_first_part dc_first_part pm_first_part an_first_part cd_first_part ct_first_part), sl_first_part⟩) (c_first_part : PySem.W.codeIn K cd_first_part "first_part" = true) (k_first_part : PySem.W.keepIn K (.ref f_first_part) = true)
    (a_on_top : PySem.W.nsIn K mainGlobals "on_top" = some (some (.ref f_on_top))) (l_on_top : K.lookup f_on_top = some ⟨oc_on_top, od_on_top, .func (PySem.W.fnOf "on_top" "on_top" (defArgs son_top) (defBody son_top) (defScope son_top) .none kV_on_top dc_on_top pm_on_top an_on_top cd_on_top ct_on_top), sl_on_top⟩) (c_on_top : PySem.W.codeIn K cd_on_top "on_top" = true) (k_on_top : PySem.W.keepIn K (.ref f_on_top) = true)
    (a_without : PySem.W.nsIn K mainGlobals "without" = some (some (.ref f_without))) (l_without : K.lookup f_without = some ⟨oc_without, od_without, .func (PySem.W.fnOf "without" "without" (defArgs swithout) (defBody swithout) (defScope swithout) .none kV_without dc_without pm_without an_without cd_without ct_without), sl_without⟩) (c_without : PySem.W.codeIn K cd_without "without" = true) (k_without : PySem.W.keepIn K (.ref f_without) = true)
    (a__law_bag : PySem.W.nsIn K mainGlobals "_law_bag" = some (some (.ref f__law_bag))) (l__law_bag : K.lookup f__law_bag = some ⟨oc__law_bag, od__law_bag, .func (PySem.W.fnOf "_law_bag" "_law_bag" (defArgs s_law_bag) (defBody s_law_bag) (defScope s_law_bag) .none kV__law_bag dc__law_bag pm__law_bag an__law_bag cd__law_bag ct__law_bag), sl__law_bag⟩) (c__law_bag : PySem.W.codeIn K cd__law_bag "_law_bag" = true) (k__law_bag : PySem.W.keepIn K (.ref f__law_bag) = true)
    (a__law_pick : PySem.W.nsIn K mainGlobals "_law_pick" = some (some (.ref f__law_pick))) (l__law_pick : K.lookup f__law_pick = some ⟨oc__law_pick, od__law_pick, .func (PySem.W.fnOf "_law_pick" "_law_pick" (defArgs s_law_pick) (defBody s_law_pick) (defScope s_law_pick) .none kV__law_pick dc__law_pick pm__law_pick an__law_pick cd__law_pick ct__law_pick), sl__law_pick⟩) (c__law_pick : PySem.W.codeIn K cd__law_pick "_law_pick" = true) (k__law_pick : PySem.W.keepIn K (.ref f__law_pick) = true)
    (a__law_reads : PySem.W.nsIn K mainGlobals "_law_reads" = some (some (.ref f__law_reads))) (l__law_reads : K.lookup f__law_reads = some ⟨oc__law_reads, od__law_reads, .func (PySem.W.fnOf "_law_reads" "_law_reads" (defArgs s_law_reads) (defBody s_law_reads) (defScope s_law_reads) .none kV__law_reads dc__law_reads pm__law_reads an__law_reads cd__law_reads ct__law_reads), sl__law_reads⟩) (c__law_reads : PySem.W.codeIn K cd__law_reads "_law_reads" = true) (k__law_reads : PySem.W.keepIn K (.ref f__law_reads) = true)
    (a__law_joined : PySem.W.nsIn K mainGlobals "_law_joined" = some (some (.ref f__law_joined))) (l__law_joined : K.lookup f__law_joined = some ⟨oc__law_joined, od__law_joined, .func (PySem.W.fnOf "_law_joined" "_law_joined" (defArgs s_law_joined) (defBody s_law_joined) (defScope s_law_joined) .none kV__law_joined dc__law_joined pm__law_joined an__law_joined cd__law_joined ct__law_joined), sl__law_joined⟩) (c__law_joined : PySem.W.codeIn K cd__law_joined "_law_joined" = true) (k__law_joined : PySem.W.keepIn K (.ref f__law_joined) = true)
    (a__law_mixed : PySem.W.nsIn K mainGlobals "_law_mixed" = some (some (.ref f__law_mixed))) (l__law_mixed : K.lookup f__law_mixed = some ⟨oc__law_mixed, od__law_mixed, .func (PySem.W.fnOf "_law_mixed" "_law_mixed" (defArgs s_law_mixed) (defBody s_law_mixed) (defScope s_law_mixed) .none kV__law_mixed dc__law_mixed pm__law_mixed an__law_mixed cd__law_mixed ct__law_mixed), sl__law_mixed⟩) (c__law_mixed : PySem.W.codeIn K cd__law_mixed "_law_mixed" = true) (k__law_mixed : PySem.W.keepIn K (.ref f__law_mixed) = true)
    (a__law_list : PySem.W.nsIn K mainGlobals "_law_list" = some (some (.ref f__law_list))) (l__law_list : K.lookup f__law_list = some ⟨oc__law_list, od__law_list, .func (PySem.W.fnOf "_law_list" "_law_list" (defArgs s_law_list) (defBody s_law_list) (defScope s_law_list) .none kV__law_list dc__law_list pm__law_list an__law_list cd__law_list ct__law_list), sl__law_list⟩) (c__law_list : PySem.W.codeIn K cd__law_list "_law_list" = true) (k__law_list : PySem.W.keepIn K (.ref f__law_list) = true)
    (a__law_tidied : PySem.W.nsIn K mainGlobals "_law_tidied" = some (some (.ref f__law_tidied))) (l__law_tidied : K.lookup f__law_tidied = some ⟨oc__law_tidied, od__law_tidied, .func (PySem.W.fnOf "_law_tidied" "_law_tidied" (defArgs s_law_tidied) (defBody s_law_tidied) (defScope s_law_tidied) .none kV__law_tidied dc__law_tidied pm__law_tidied an__law_tidied cd__law_tidied ct__law_tidied), sl__law_tidied⟩) (c__law_tidied : PySem.W.codeIn K cd__law_tidied "_law_tidied" = true) (k__law_tidied : PySem.W.keepIn K (.ref f__law_tidied) = true)
    (a__law_right : PySem.W.nsIn K mainGlobals "_law_right" = some (some (.ref f__law_right))) (l__law_right : K.lookup f__law_right = some ⟨oc__law_right, od__law_right, .func (PySem.W.fnOf "_law_right" "_law_right" (defArgs s_law_right) (defBody s_law_right) (defScope s_law_right) .none kV__law_right dc__law_right pm__law_right an__law_right cd__law_right ct__law_right), sl__law_right⟩) (c__law_right : PySem.W.codeIn K cd__law_right "_law_right" = true) (k__law_right : PySem.W.keepIn K (.ref f__law_right) = true)
    (a_law : PySem.W.nsIn K mainGlobals "law" = some (some (.ref f_law))) (l_law : K.lookup f_law = some ⟨oc_law, od_law, .func (PySem.W.fnOf "law" "law" (defArgs slaw) (defBody slaw) (defScope slaw) .none kV_law dc_law pm_law an_law cd_law ct_law), sl_law⟩) (c_law : PySem.W.codeIn K cd_law "law" = true) (k_law : PySem.W.keepIn K (.ref f_law) = true)
    (z_len : PySem.W.nsIn K mainGlobals "len" = some none)
    (z_abs : PySem.W.nsIn K mainGlobals "abs" = some none)
    (z_max : PySem.W.nsIn K mainGlobals "max" = some none)
    (z_min : PySem.W.nsIn K mainGlobals "min" = some none)
    (z_sum : PySem.W.nsIn K mainGlobals "sum" = some none)
    (z_all : PySem.W.nsIn K mainGlobals "all" = some none)
    (z_repr : PySem.W.nsIn K mainGlobals "repr" = some none)
    (z_sorted : PySem.W.nsIn K mainGlobals "sorted" = some none)
    (z_isinstance : PySem.W.nsIn K mainGlobals "isinstance" = some none)
    (z_int : PySem.W.nsIn K mainGlobals "int" = some none)
    (z_bool : PySem.W.nsIn K mainGlobals "bool" = some none)
    (z_list : PySem.W.nsIn K mainGlobals "list" = some none)
    (z_tuple : PySem.W.nsIn K mainGlobals "tuple" = some none)
    (z_set : PySem.W.nsIn K mainGlobals "set" = some none)
    (z_range : PySem.W.nsIn K mainGlobals "range" = some none)
    (z_zip : PySem.W.nsIn K mainGlobals "zip" = some none)
    (z_reversed : PySem.W.nsIn K mainGlobals "reversed" = some none)
    : ∃ fd : FuncData, (∀ (s : Shared) (v : Value), BindsTo s fd ⟨[v], []⟩ [("script", v)]) ∧ ∀ base : Heap, K.In base → base.Ns mainGlobals mg → FnG P w K mg base 8 fa fd ["script"] (spLaw K) := by
  have e := hfa.symm.trans (PySem.W.mg_of X G a_law)
  cases e
  have Fis_integer := fun_mk (st := sis_integer) l_is_integer c_is_integer k_is_integer
  have Fis_from_zero := fun_mk (st := sis_from_zero) l_is_from_zero c_is_from_zero k_is_from_zero
  have Fis_scan := fun_mk (st := sis_scan) l_is_scan c_is_scan k_is_scan
  have Fis_list := fun_mk (st := sis_list) l_is_list c_is_list k_is_list
  have Fcheck_list := fun_mk (st := scheck_list) l_check_list c_check_list k_check_list
  have Fcheck_scan := fun_mk (st := scheck_scan) l_check_scan c_check_scan k_check_scan
  have Fcheck_from := fun_mk (st := scheck_from) l_check_from c_check_from k_check_from
  have Fcheck_interval := fun_mk (st := scheck_interval) l_check_interval c_check_interval k_check_interval
  have Fscan_length := fun_mk (st := sscan_length) l_scan_length c_scan_length k_scan_length
  have Faddress_in := fun_mk (st := saddress_in) l_address_in c_address_in k_address_in
  have Fscan_head := fun_mk (st := sscan_head) l_scan_head c_scan_head k_scan_head
  have Ffirst_reaching := fun_mk (st := sfirst_reaching) l_first_reaching c_first_reaching k_first_reaching
  have Fscan_outside := fun_mk (st := sscan_outside) l_scan_outside c_scan_outside k_scan_outside
  have Fall_without := fun_mk (st := sall_without) l_all_without c_all_without k_all_without
  have Fothers_of := fun_mk (st := sothers_of) l_others_of c_others_of k_others_of
  have Ffirst_of := fun_mk (st := sfirst_of) l_first_of c_first_of k_first_of
  have Fput_ahead := fun_mk (st := sput_ahead) l_put_ahead c_put_ahead k_put_ahead
  have Fjoined := fun_mk (st := sjoined) l_joined c_joined k_joined
  have Ffirst_part := fun_mk (st := sfirst_part) l_first_part c_first_part k_first_part
  have Fon_top := fun_mk (st := son_top) l_on_top c_on_top k_on_top
  have Fwithout := fun_mk (st := swithout) l_without c_without k_without
  have F_law_bag := fun_mk (st := s_law_bag) l__law_bag c__law_bag k__law_bag
  have F_law_pick := fun_mk (st := s_law_pick) l__law_pick c__law_pick k__law_pick
  have F_law_reads := fun_mk (st := s_law_reads) l__law_reads c__law_reads k__law_reads
  have F_law_joined := fun_mk (st := s_law_joined) l__law_joined c__law_joined k__law_joined
  have F_law_mixed := fun_mk (st := s_law_mixed) l__law_mixed c__law_mixed k__law_mixed
  have F_law_list := fun_mk (st := s_law_list) l__law_list c__law_list k__law_list
  have F_law_tidied := fun_mk (st := s_law_tidied) l__law_tidied c__law_tidied k__law_tidied
  have F_law_right := fun_mk (st := s_law_right) l__law_right c__law_right k__law_right
  have Flaw := fun_mk (st := slaw) l_law c_law k_law
  have B : Bt mg := { len := PySem.W.mg_none_of X G z_len, abs := PySem.W.mg_none_of X G z_abs, max := PySem.W.mg_none_of X G z_max, min := PySem.W.mg_none_of X G z_min, sum := PySem.W.mg_none_of X G z_sum, all := PySem.W.mg_none_of X G z_all, repr := PySem.W.mg_none_of X G z_repr, sorted := PySem.W.mg_none_of X G z_sorted, isinstance := PySem.W.mg_none_of X G z_isinstance, int := PySem.W.mg_none_of X G z_int, bool := PySem.W.mg_none_of X G z_bool, list := PySem.W.mg_none_of X G z_list, tuple := PySem.W.mg_none_of X G z_tuple, set := PySem.W.mg_none_of X G z_set, range := PySem.W.mg_none_of X G z_range, zip := PySem.W.mg_none_of X G z_zip }
  refine ⟨PySem.W.fnOf "law" "law" (defArgs slaw) (defBody slaw) (defScope slaw) .none kV_law dc_law pm_law an_law cd_law ct_law, fun s v => .of_eq rfl, fun base _ _ => ?_⟩
  have mis_integer {k : Nat} {sp : Sp} (ok : FnOk P w K mg base CX0 k f_is_integer _ ["value"] sp) : Df P w K mg base "is_integer" k ["value"] sp := ⟨_, _, PySem.W.mg_of X G a_is_integer, Fis_integer.kp, Fis_integer.binds fun _ _ _ _ _ _ us hl => match us, hl with | [_], _ => rfl, ok⟩
  have mis_from_zero {k : Nat} {sp : Sp} (ok : FnOk P w K mg base CX0 k f_is_from_zero _ ["value"] sp) : Df P w K mg base "is_from_zero" k ["value"] sp := ⟨_, _, PySem.W.mg_of X G a_is_from_zero, Fis_from_zero.kp, Fis_from_zero.binds fun _ _ _ _ _ _ us hl => match us, hl with | [_], _ => rfl, ok⟩
  have mis_scan {k : Nat} {sp : Sp} (ok : FnOk P w K mg base CX0 k f_is_scan _ ["value"] sp) : Df P w K mg base "is_scan" k ["value"] sp := ⟨_, _, PySem.W.mg_of X G a_is_scan, Fis_scan.kp, Fis_scan.binds fun _ _ _ _ _ _ us hl => match us, hl with | [_], _ => rfl, ok⟩
  have mis_list {k : Nat} {sp : Sp} (ok : FnOk P w K mg base CX0 k f_is_list _ ["value"] sp) : Df P w K mg base "is_list" k ["value"] sp := ⟨_, _, PySem.W.mg_of X G a_is_list, Fis_list.kp, Fis_list.binds fun _ _ _ _ _ _ us hl => match us, hl with | [_], _ => rfl, ok⟩
  have mcheck_list {k : Nat} {sp : Sp} (ok : FnOk P w K mg base CX0 k f_check_list _ ["scans"] sp) : Df P w K mg base "check_list" k ["scans"] sp := ⟨_, _, PySem.W.mg_of X G a_check_list, Fcheck_list.kp, Fcheck_list.binds fun _ _ _ _ _ _ us hl => match us, hl with | [_], _ => rfl, ok⟩
  have mcheck_scan {k : Nat} {sp : Sp} (ok : FnOk P w K mg base CX0 k f_check_scan _ ["scan"] sp) : Df P w K mg base "check_scan" k ["scan"] sp := ⟨_, _, PySem.W.mg_of X G a_check_scan, Fcheck_scan.kp, Fcheck_scan.binds fun _ _ _ _ _ _ us hl => match us, hl with | [_], _ => rfl, ok⟩
  have mcheck_from {k : Nat} {sp : Sp} (ok : FnOk P w K mg base CX0 k f_check_from _ ["number", "least"] sp) : Df P w K mg base "check_from" k ["number", "least"] sp := ⟨_, _, PySem.W.mg_of X G a_check_from, Fcheck_from.kp, Fcheck_from.binds fun _ _ _ _ _ _ us hl => match us, hl with | [_, _], _ => rfl, ok⟩
  have mcheck_interval {k : Nat} {sp : Sp} (ok : FnOk P w K mg base CX0 k f_check_interval _ ["low", "high"] sp) : Df P w K mg base "check_interval" k ["low", "high"] sp := ⟨_, _, PySem.W.mg_of X G a_check_interval, Fcheck_interval.kp, Fcheck_interval.binds fun _ _ _ _ _ _ us hl => match us, hl with | [_, _], _ => rfl, ok⟩
  have mscan_length {k : Nat} {sp : Sp} (ok : FnOk P w K mg base CX0 k f_scan_length _ ["scan"] sp) : Df P w K mg base "scan_length" k ["scan"] sp := ⟨_, _, PySem.W.mg_of X G a_scan_length, Fscan_length.kp, Fscan_length.binds fun _ _ _ _ _ _ us hl => match us, hl with | [_], _ => rfl, ok⟩
  have maddress_in {k : Nat} {sp : Sp} (ok : FnOk P w K mg base CX0 k f_address_in _ ["scan", "place"] sp) : Df P w K mg base "address_in" k ["scan", "place"] sp := ⟨_, _, PySem.W.mg_of X G a_address_in, Faddress_in.kp, Faddress_in.binds fun _ _ _ _ _ _ us hl => match us, hl with | [_, _], _ => rfl, ok⟩
  have mscan_head {k : Nat} {sp : Sp} (ok : FnOk P w K mg base CX0 k f_scan_head _ ["scan", "many"] sp) : Df P w K mg base "scan_head" k ["scan", "many"] sp := ⟨_, _, PySem.W.mg_of X G a_scan_head, Fscan_head.kp, Fscan_head.binds fun _ _ _ _ _ _ us hl => match us, hl with | [_, _], _ => rfl, ok⟩
  have mfirst_reaching {k : Nat} {sp : Sp} (ok : FnOk P w K mg base CX0 k f_first_reaching _ ["spans", "address"] sp) : Df P w K mg base "first_reaching" k ["spans", "address"] sp := ⟨_, _, PySem.W.mg_of X G a_first_reaching, Ffirst_reaching.kp, Ffirst_reaching.binds fun _ _ _ _ _ _ us hl => match us, hl with | [_, _], _ => rfl, ok⟩
  have mscan_outside {k : Nat} {sp : Sp} (ok : FnOk P w K mg base CX0 k f_scan_outside _ ["scan", "spans"] sp) : Df P w K mg base "scan_outside" k ["scan", "spans"] sp := ⟨_, _, PySem.W.mg_of X G a_scan_outside, Fscan_outside.kp, Fscan_outside.binds fun _ _ _ _ _ _ us hl => match us, hl with | [_, _], _ => rfl, ok⟩
  have mall_without {k : Nat} {sp : Sp} (ok : FnOk P w K mg base CX0 k f_all_without _ ["scans", "low", "high"] sp) : Df P w K mg base "all_without" k ["scans", "low", "high"] sp := ⟨_, _, PySem.W.mg_of X G a_all_without, Fall_without.kp, Fall_without.binds fun _ _ _ _ _ _ us hl => match us, hl with | [_, _, _], _ => rfl, ok⟩
  have mothers_of {k : Nat} {sp : Sp} (ok : FnOk P w K mg base CX0 k f_others_of _ ["scans", "taken"] sp) : Df P w K mg base "others_of" k ["scans", "taken"] sp := ⟨_, _, PySem.W.mg_of X G a_others_of, Fothers_of.kp, Fothers_of.binds fun _ _ _ _ _ _ us hl => match us, hl with | [_, _], _ => rfl, ok⟩
  have mfirst_of {k : Nat} {sp : Sp} (ok : FnOk P w K mg base CX0 k f_first_of _ ["scans", "many"] sp) : Df P w K mg base "first_of" k ["scans", "many"] sp := ⟨_, _, PySem.W.mg_of X G a_first_of, Ffirst_of.kp, Ffirst_of.binds fun _ _ _ _ _ _ us hl => match us, hl with | [_, _], _ => rfl, ok⟩
  have mput_ahead {k : Nat} {sp : Sp} (ok : FnOk P w K mg base CX0 k f_put_ahead _ ["scans", "others"] sp) : Df P w K mg base "put_ahead" k ["scans", "others"] sp := ⟨_, _, PySem.W.mg_of X G a_put_ahead, Fput_ahead.kp, Fput_ahead.binds fun _ _ _ _ _ _ us hl => match us, hl with | [_, _], _ => rfl, ok⟩
  have mjoined {k : Nat} {sp : Sp} (ok : FnOk P w K mg base CX0 k f_joined _ ["scans"] sp) : Df P w K mg base "joined" k ["scans"] sp := ⟨_, _, PySem.W.mg_of X G a_joined, Fjoined.kp, Fjoined.binds fun _ _ _ _ _ _ us hl => match us, hl with | [_], _ => rfl, ok⟩
  have mfirst_part {k : Nat} {sp : Sp} (ok : FnOk P w K mg base CX0 k f_first_part _ ["scans", "many"] sp) : Df P w K mg base "first_part" k ["scans", "many"] sp := ⟨_, _, PySem.W.mg_of X G a_first_part, Ffirst_part.kp, Ffirst_part.binds fun _ _ _ _ _ _ us hl => match us, hl with | [_, _], _ => rfl, ok⟩
  have mon_top {k : Nat} {sp : Sp} (ok : FnOk P w K mg base CX0 k f_on_top _ ["scans", "scan"] sp) : Df P w K mg base "on_top" k ["scans", "scan"] sp := ⟨_, _, PySem.W.mg_of X G a_on_top, Fon_top.kp, Fon_top.binds fun _ _ _ _ _ _ us hl => match us, hl with | [_, _], _ => rfl, ok⟩
  have mwithout {k : Nat} {sp : Sp} (ok : FnOk P w K mg base CX0 k f_without _ ["scans", "low", "high"] sp) : Df P w K mg base "without" k ["scans", "low", "high"] sp := ⟨_, _, PySem.W.mg_of X G a_without, Fwithout.kp, Fwithout.binds fun _ _ _ _ _ _ us hl => match us, hl with | [_, _, _], _ => rfl, ok⟩
  have m_law_bag {k : Nat} {sp : Sp} (ok : FnOk P w K mg base CX0 k f__law_bag _ ["cell"] sp) : Df P w K mg base "_law_bag" k ["cell"] sp := ⟨_, _, PySem.W.mg_of X G a__law_bag, F_law_bag.kp, F_law_bag.binds fun _ _ _ _ _ _ us hl => match us, hl with | [_], _ => rfl, ok⟩
  have m_law_pick {k : Nat} {sp : Sp} (ok : FnOk P w K mg base CX0 k f__law_pick _ ["bag", "many"] sp) : Df P w K mg base "_law_pick" k ["bag", "many"] sp := ⟨_, _, PySem.W.mg_of X G a__law_pick, F_law_pick.kp, F_law_pick.binds fun _ _ _ _ _ _ us hl => match us, hl with | [_, _], _ => rfl, ok⟩
  have m_law_reads {k : Nat} {sp : Sp} (ok : FnOk P w K mg base CX0 k f__law_reads _ ["scans"] sp) : Df P w K mg base "_law_reads" k ["scans"] sp := ⟨_, _, PySem.W.mg_of X G a__law_reads, F_law_reads.kp, F_law_reads.binds fun _ _ _ _ _ _ us hl => match us, hl with | [_], _ => rfl, ok⟩
  have m_law_joined {k : Nat} {sp : Sp} (ok : FnOk P w K mg base CX0 k f__law_joined _ ["scans"] sp) : Df P w K mg base "_law_joined" k ["scans"] sp := ⟨_, _, PySem.W.mg_of X G a__law_joined, F_law_joined.kp, F_law_joined.binds fun _ _ _ _ _ _ us hl => match us, hl with | [_], _ => rfl, ok⟩
  have m_law_mixed {k : Nat} {sp : Sp} (ok : FnOk P w K mg base CX0 k f__law_mixed _ ["bag", "items"] sp) : Df P w K mg base "_law_mixed" k ["bag", "items"] sp := ⟨_, _, PySem.W.mg_of X G a__law_mixed, F_law_mixed.kp, F_law_mixed.binds fun _ _ _ _ _ _ us hl => match us, hl with | [_, _], _ => rfl, ok⟩
  have m_law_list {k : Nat} {sp : Sp} (ok : FnOk P w K mg base CX0 k f__law_list _ ["bag", "many", "wide"] sp) : Df P w K mg base "_law_list" k ["bag", "many", "wide"] sp := ⟨_, _, PySem.W.mg_of X G a__law_list, F_law_list.kp, F_law_list.binds fun _ _ _ _ _ _ us hl => match us, hl with | [_, _, _], _ => rfl, ok⟩
  have m_law_tidied {k : Nat} {sp : Sp} (ok : FnOk P w K mg base CX0 k f__law_tidied _ ["addresses"] sp) : Df P w K mg base "_law_tidied" k ["addresses"] sp := ⟨_, _, PySem.W.mg_of X G a__law_tidied, F_law_tidied.kp, F_law_tidied.binds fun _ _ _ _ _ _ us hl => match us, hl with | [_], _ => rfl, ok⟩
  have m_law_right {k : Nat} {sp : Sp} (ok : FnG P w K mg base k f__law_right _ ["bag", "scans"] sp) : DfG P w K mg base "_law_right" k ["bag", "scans"] sp := ⟨_, _, PySem.W.mg_of X G a__law_right, F_law_right.kp, F_law_right.binds fun _ _ _ _ _ _ us hl => match us, hl with | [_, _], _ => rfl, ok⟩
  have D1 := mis_integer (ok_is_integer B Fis_integer)
  have D2 := mis_from_zero (ok_is_from_zero D1 Fis_from_zero)
  have D3 := mis_scan (ok_is_scan B D2 Fis_scan)
  have D4 := mis_list (ok_is_list B D3 Fis_list)
  have D5 := mcheck_list (ok_check_list D4 Fcheck_list)
  have D6 := mcheck_scan (ok_check_scan D3 Fcheck_scan)
  have D7 := mcheck_from (ok_check_from D1 Fcheck_from)
  have D8 := mcheck_interval (ok_check_interval D2 Fcheck_interval)
  have D9 := mscan_length (ok_scan_length B Fscan_length)
  have D10 := maddress_in (ok_address_in Faddress_in)
  have D11 := mscan_head (ok_scan_head B D9 D10 Fscan_head)
  have D12a := mfirst_reaching (ok_first_reaching B Ffirst_reaching)
  have D12 := mscan_outside (ok_scan_outside B (PySem.W.mg_none_of X G z_reversed) D12a Fscan_outside)
  have D12b := mothers_of (ok_others_of B D12 Fothers_of)
  have D13 := mall_without (ok_all_without D12b Fall_without)
  have D14 := mjoined (ok_joined B Fjoined)
  have D14b := mput_ahead (ok_put_ahead D12b D14 Fput_ahead)
  have D14c := mfirst_of (ok_first_of D11 D9 Ffirst_of)
  have D15 := mfirst_part (ok_first_part D5 D7 D14c D14 Ffirst_part)
  have D16 := mon_top (ok_on_top D5 D6 D14b Fon_top)
  have D17 := mwithout (ok_without D5 D8 D13 D14 Fwithout)
  have D18 := m_law_bag (ok_bag B F_law_bag)
  have D19 := m_law_pick (ok_pick B F_law_pick)
  have D20 := m_law_reads (ok_reads B F_law_reads)
  have D21 := m_law_joined (ok_law_joined B F_law_joined)
  have D22 := m_law_mixed (ok_mixed B D19 F_law_mixed)
  have D23 := m_law_list (ok_list B D19 D22 F_law_list)
  have D24 := m_law_tidied (ok_tidied D21 F_law_tidied)
  have D25 := m_law_right (ok_right3 B D19 D20 D15 D16 D17 D24 F_law_right)
  exact ok_law3 B D18 D19 D23 D25 D15 D16 D17 Flaw
end Kb
open PySem PySem.W PyProof.Rows
set_option maxHeartbeats 0 in
theorem PySem.Challenge.cw_scanmisses_k03_parts_of_lists_holds : PySem.Challenge.rw_scanmisses_k03_parts_of_lists.Holds := by
  w_on; o_law; k_head; (case hw => w_witness2)
  k_fill
  refine Kb.walk_g (l := PySem.Challenge.rw_scanmisses_k03_parts_of_lists) (n := 63) (k := 8) (x := "script") (sp := fun w => Kb.spLaw _) rfl (by decide) rfl ⟨rfl, by decide, by decide⟩ (fun w h Y => PySem.W.kIn_of Y) ?F (fun _ _ a ns hl _ hS => ⟨a, ns, rfl, hS, hl, fun _ => rfl⟩)
  case F =>
    intro w mg fa h KX G hmg
    refine' Kb.all_mk KX G hmg ?a_is_integer ?l_is_integer ?c_is_integer ?k_is_integer ?a_is_from_zero ?l_is_from_zero ?c_is_from_zero ?k_is_from_zero ?a_is_scan ?l_is_scan ?c_is_scan ?k_is_scan ?a_is_list ?l_is_list ?c_is_list ?k_is_list ?a_check_list ?l_check_list ?c_check_list ?k_check_list ?a_check_scan ?l_check_scan ?c_check_scan ?k_check_scan ?a_check_from ?l_check_from ?c_check_from ?k_check_from ?a_check_interval ?l_check_interval ?c_check_interval ?k_check_interval ?a_scan_length ?l_scan_length ?c_scan_length ?k_scan_length ?a_address_in ?l_address_in ?c_address_in ?k_address_in ?a_scan_head ?l_scan_head ?c_scan_head ?k_scan_head ?a_first_reaching ?l_first_reaching ?c_first_reaching ?k_first_reaching ?a_scan_outside ?l_scan_outside ?c_scan_outside ?k_scan_outside ?a_all_without ?l_all_without ?c_all_without ?k_all_without ?a_others_of ?l_others_of ?c_others_of ?k_others_of ?a_first_of ?l_first_of ?c_first_of ?k_first_of ?a_put_ahead ?l_put_ahead ?c_put_ahead ?k_put_ahead ?a_joined ?l_joined ?c_joined ?k_joined ?a_first_part ?l_first_part ?c_first_part ?k_first_part ?a_on_top ?l_on_top ?c_on_top ?k_on_top ?a_without ?l_without ?c_without ?k_without ?a__law_bag ?l__law_bag ?c__law_bag ?k__law_bag ?a__law_pick ?l__law_pick ?c__law_pick ?k__law_pick ?a__law_reads ?l__law_reads ?c__law_reads ?k__law_reads ?a__law_joined ?l__law_joined ?c__law_joined ?k__law_joined ?a__law_mixed ?l__law_mixed ?c__law_mixed ?k__law_mixed ?a__law_list ?l__law_list ?c__law_list ?k__law_list ?a__law_tidied ?l__law_tidied ?c__law_tidied ?k__law_tidied ?a__law_right ?l__law_right ?c__law_right ?k__law_right ?a_law ?l_law ?c_law ?k_law ?z_len ?z_abs ?z_max ?z_min ?z_sum ?z_all ?z_repr ?z_sorted ?z_isinstance ?z_int ?z_bool ?z_list ?z_tuple ?z_set ?z_range ?z_zip ?z_reversed
    (case a_is_integer => k_is)
    (case l_is_integer => k_is)
    (case c_is_integer => k_is)
    (case k_is_integer => k_is)
    (case a_is_from_zero => k_is)
    (case l_is_from_zero => k_is)
    (case c_is_from_zero => k_is)
    (case k_is_from_zero => k_is)
    (case a_is_scan => k_is)
    (case l_is_scan => k_is)
    (case c_is_scan => k_is)
    (case k_is_scan => k_is)
    (case a_is_list => k_is)
    (case l_is_list => k_is)
    (case c_is_list => k_is)
    (case k_is_list => k_is)
    (case a_check_list => k_is)
    (case l_check_list => k_is)
    (case c_check_list => k_is)
    (case k_check_list => k_is)
    (case a_check_scan => k_is)
    (case l_check_scan => k_is)
    (case c_check_scan => k_is)
    (case k_check_scan => k_is)
    (case a_check_from => k_is)
    (case l_check_from => k_is)
    (case c_check_from => k_is)
    (case k_check_from => k_is)
    (case a_check_interval => k_is)
    (case l_check_interval => k_is)
    (case c_check_interval => k_is)
    (case k_check_interval => k_is)
    (case a_scan_length => k_is)
    (case l_scan_length => k_is)
    (case c_scan_length => k_is)
    (case k_scan_length => k_is)
    (case a_address_in => k_is)
    (case l_address_in => k_is)
    (case c_address_in => k_is)
    (case k_address_in => k_is)
    (case a_scan_head => k_is)
    (case l_scan_head => k_is)
    (case c_scan_head => k_is)
    (case k_scan_head => k_is)
    (case a_first_reaching => k_is)
    (case l_first_reaching => k_is)
    (case c_first_reaching => k_is)
    (case k_first_reaching => k_is)
    (case a_scan_outside => k_is)
    (case l_scan_outside => k_is)
    (case c_scan_outside => k_is)
    (case k_scan_outside => k_is)
    (case a_all_without => k_is)
    (case l_all_without => k_is)
    (case c_all_without => k_is)
    (case k_all_without => k_is)
    (case a_others_of => k_is)
    (case l_others_of => k_is)
    (case c_others_of => k_is)
    (case k_others_of => k_is)
    (case a_first_of => k_is)
    (case l_first_of => k_is)
    (case c_first_of => k_is)
    (case k_first_of => k_is)
    (case a_put_ahead => k_is)
    (case l_put_ahead => k_is)
    (case c_put_ahead => k_is)
    (case k_put_ahead => k_is)
    (case a_joined => k_is)
    (case l_joined => k_is)
    (case c_joined => k_is)
    (case k_joined => k_is)
    (case a_first_part => k_is)
    (case l_first_part => k_is)
    (case c_first_part => k_is)
    (case k_first_part => k_is)
    (case a_on_top => k_is)
    (case l_on_top => k_is)
    (case c_on_top => k_is)
    (case k_on_top => k_is)
    (case a_without => k_is)
    (case l_without => k_is)
    (case c_without => k_is)
    (case k_without => k_is)
    (case a__law_bag => k_is)
    (case l__law_bag => k_is)
    (case c__law_bag => k_is)
    (case k__law_bag => k_is)
    (case a__law_pick => k_is)
    (case l__law_pick => k_is)
    (case c__law_pick => k_is)
    (case k__law_pick => k_is)
    (case a__law_reads => k_is)
    (case l__law_reads => k_is)
    (case c__law_reads => k_is)
    (case k__law_reads => k_is)
    (case a__law_joined => k_is)
    (case l__law_joined => k_is)
    (case c__law_joined => k_is)
    (case k__law_joined => k_is)
    (case a__law_mixed => k_is)
    (case l__law_mixed => k_is)
    (case c__law_mixed => k_is)
    (case k__law_mixed => k_is)
    (case a__law_list => k_is)
    (case l__law_list => k_is)
    (case c__law_list => k_is)
    (case k__law_list => k_is)
    (case a__law_tidied => k_is)
    (case l__law_tidied => k_is)
    (case c__law_tidied => k_is)
    (case k__law_tidied => k_is)
    (case a__law_right => k_is)
    (case l__law_right => k_is)
    (case c__law_right => k_is)
    (case k__law_right => k_is)
    (case a_law => k_is)
    (case l_law => k_is)
    (case c_law => k_is)
    (case k_law => k_is)
    (case z_len => k_is)
    (case z_abs => k_is)
    (case z_max => k_is)
    (case z_min => k_is)
    (case z_sum => k_is)
    (case z_all => k_is)
    (case z_repr => k_is)
    (case z_sorted => k_is)
    (case z_isinstance => k_is)
    (case z_int => k_is)
    (case z_bool => k_is)
    (case z_list => k_is)
    (case z_tuple => k_is)
    (case z_set => k_is)
    (case z_range => k_is)
    (case z_zip => k_is)
    (case z_reversed => k_is)
