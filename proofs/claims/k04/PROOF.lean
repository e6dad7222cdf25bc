import PyProof.Rows.All
import Wide.All
import OpenK.AllK
import Wide.FinOn
import PyProof.EqAt
import PyProof.EqKinds
import PyProof.TupleCall
import HandS.ForMost
import HandS.Conv
import HandS.Style
import HandS.Wide
import HandS.Strs
import HandS.SetFor
import HandS.SortRule
import HandS.SortInts
import HandS.IsInst
import HandS.RaiseMore
import HandS.EndBits
import HandS.Star
import HandS.Property
import HandS.Walk
import HandS.Dict
import HandS.Iter
import HandS.FStr
import HandS.StrMore
import HandS.TupAny
import PyProof.InstNe
import KE.KOpsOwn
import PyProof.StrOps2
import HandS.Rev
import KE.GoesMore
import KE.GoesEnum
import PySem.Challenge.RW_scanmisses_k04_great_lists
set_option Elab.async false
set_option linter.all false
set_option maxRecDepth 100000
set_option maxHeartbeats 4000000
namespace Kb
open PySem PySem.Spec PyProof.Rows L2

/-! ### heaps that grow -/
def Ex (H H' : Hp) : Prop := ∀ a o, H a = some o → H' a = some o
theorem Ex.refl (H : Hp) : Ex H H := fun _ _ h => h
theorem Ex.trans {H H1 H2 : Hp} (a : Ex H H1) (b : Ex H1 H2) : Ex H H2 := fun x o h => b x o (a x o h)
theorem Ex.new {H : Hp} {p : Addr} {o : HO} (h : H p = none) : Ex H (upd H p o) := fun a u e => by
  rw [upd_ne (ne_of_none e h)]
  exact e
theorem Ex.mut {H H' : Hp} {p : Addr} {o : HO} (e : Ex H H') (h : H p = none) : Ex H (upd H' p o) := fun a u ha => by
  rw [upd_ne (ne_of_none ha h)]
  exact e a u ha
theorem Ex.add {H H' : Hp} {p : Addr} {o : HO} (e : Ex H H') (h : H' p = none) : Ex H (upd H' p o) := e.trans (Ex.new h)
theorem Ex.back {H H' : Hp} {p : Addr} (e : Ex H H') (h : H' p = none) : H p = none := by
  cases h1 : H p with
  | none => rfl
  | some o =>
    rw [e p o h1] at h
    cases h

/-! ### a def that is there -/
structure Df (P : Program) (w : World) (K : PySem.W.Frag) (mg : Str → Option Value) (base : Heap) (x : Str) (k : Nat) (ps : List Str) (sp : Sp) : Prop where
  ex : ∃ f fd, mg x = some (.ref f) ∧ PySem.W.keepIn K (.ref f) = true ∧ Binds K fd ps [] ∧ FnOk P w K mg base CX0 k f fd ps sp
theorem pe_df {X : Cx} {x : Str} {k k' : Nat} {ps : List Str} {sp : Sp} {p pos : Pos} {e : Expr} {es : List Expr} {t : TA} (D : Df X.prog X.w X.K X.mg X.base x k ps sp) (hr : Room k' X.A) (ha : PA X (e :: es) t) (hk : k ≤ k' := by decide) (hg : Gl X x := by rfl)
    (hdb : (x == ("__debug__" : Str)) = false := by decide) (he : starEach (e :: es) X.env = (false, eval e X.env) :: starEach es X.env := by rfl) (hpl : (backTo pos (starEach es X.env)).any (·.1) = false := by rfl) :
    PE X (.Call (.Name x p) (e :: es) [] pos) (tCall sp [] E0 t) := by
  obtain ⟨f, fd, h1, h2, h3, h4⟩ := D.ex
  exact pe_call h4 (hr.mono hk) hg h1 h2 h3 .nil pass0 ha hdb he hpl
/-- what a def hands back: this value, and the heap has grown -/
def RetV (v : V) (H : Hp) (Q : VK) : Prop := ∀ H', Ex H H' → Q v H'
theorem RetV.go {v : V} {H H' : Hp} {Q : VK} (k : RetV v H Q) (e : Ex H H') : Q v H' := k H' e

/-! ### pairs, lists of pairs -/
abbrev Sc := Int × Int
def IsSc (H : Hp) (v : V) (s : Sc) : Prop := ∃ t, v = .ref t ∧ H t = some (.tup [.int s.1, .int s.2])
theorem IsSc.mono {H H' : Hp} {v : V} {s : Sc} (e : Ex H H') (h : IsSc H v s) : IsSc H' v s := by
  obtain ⟨t, h1, h2⟩ := h
  exact ⟨t, h1, e _ _ h2⟩
theorem Pa.mono {H H' : Hp} (e : Ex H H') : ∀ {vs : List V} {ss : List Sc}, Paired (IsSc H) vs ss → Paired (IsSc H') vs ss
  | _, _, .nil => .nil
  | _, _, .cons h t => .cons (h.mono e) (Pa.mono e t)
theorem Pa.len {H : Hp} : ∀ {vs : List V} {ss : List Sc}, Paired (IsSc H) vs ss → vs.length = ss.length
  | _, _, .nil => rfl
  | _, _, .cons h t => congrArg (· + 1) (Pa.len t)
theorem Pa.get {H : Hp} : ∀ {vs : List V} {ss : List Sc} {i : Nat} {v : V}, Paired (IsSc H) vs ss → vs[i]? = some v → ∃ s, ss[i]? = some s ∧ IsSc H v s
  | _, _, i, v, .nil, e => by simp at e
  | _, _, 0, v, .cons h t, e => by
    cases e
    exact ⟨_, rfl, h⟩
  | _, _, i + 1, v, .cons h t, e => Pa.get (i := i) t e
theorem Pa.get2 {H : Hp} : ∀ {vs : List V} {ss : List Sc} {i : Nat} {s : Sc}, Paired (IsSc H) vs ss → ss[i]? = some s → ∃ v, vs[i]? = some v ∧ IsSc H v s
  | _, _, i, s, .nil, e => by simp at e
  | _, _, 0, s, .cons h t, e => by
    cases e
    exact ⟨_, rfl, h⟩
  | _, _, i + 1, s, .cons h t, e => Pa.get2 (i := i) t e
theorem Pa.app {H : Hp} : ∀ {vs us : List V} {ss ts : List Sc}, Paired (IsSc H) vs ss → Paired (IsSc H) us ts → Paired (IsSc H) (vs ++ us) (ss ++ ts)
  | _, _, _, _, .nil, b => b
  | _, _, _, _, .cons h t, b => .cons h (Pa.app t b)
theorem Pa.rev {H : Hp} : ∀ {vs : List V} {ss : List Sc}, Paired (IsSc H) vs ss → Paired (IsSc H) vs.reverse ss.reverse
  | _, _, .nil => .nil
  | _, _, .cons h t => by
    rw [List.reverse_cons, List.reverse_cons]
    exact Pa.app (Pa.rev t) (.cons h .nil)
theorem Pa.erase {H : Hp} : ∀ {vs : List V} {ss : List Sc} (i : Nat), Paired (IsSc H) vs ss → Paired (IsSc H) (vs.eraseIdx i) (ss.eraseIdx i)
  | _, _, _, .nil => .nil
  | _, _, 0, .cons h t => t
  | _, _, i + 1, .cons h t => .cons h (Pa.erase i t)
def Scs (H : Hp) (a : Addr) (ss : List Sc) : Prop := ∃ vs, H a = some (.lst vs) ∧ Paired (IsSc H) vs ss
theorem Scs.mono {H H' : Hp} {a : Addr} {ss : List Sc} (e : Ex H H') (h : Scs H a ss) : Scs H' a ss := by
  obtain ⟨vs, h1, h2⟩ := h
  exact ⟨vs, e _ _ h1, Pa.mono e h2⟩

/-! ### a bag: a list of three ints that is not looked into from outside -/
def bagP (b : Addr) (h : Heap) : Prop := ∃ (x c t : Int) (its : List Value) (n : Nat), Vals [V.int x, V.int c, V.int t] its ∧ h.get? b = some { cls := .type "list", data := .seq its.toArray n }
def bagO (b : Addr) : HO := .ext (bagP b)
theorem bag_ok {P : Program} {w : World} {H H1 : Hp} {h : Heap} {b : Addr} {x c t : Int} (e : ObjOk P w H h b (.lst [.int x, .int c, .int t])) : ObjOk P w H1 h b (bagO b) := by
  obtain ⟨_, its, n, r, g⟩ := e
  exact ⟨⟨x, c, t, its, n, r, g⟩, ⟨_, g⟩, fun h1 h2 p k => by
    obtain ⟨x, c, t, its, n, r, g⟩ := p
    exact ⟨x, c, t, its, n, r, k _ g⟩⟩
theorem bag_open {P : Program} {w : World} {H : Hp} {h : Heap} {b : Addr} (ok : HOk P w H h) (e : H b = some (bagO b)) : ∃ x c t : Int, HOk P w (upd H b (.lst [.int x, .int c, .int t])) h := by
  obtain ⟨⟨x, c, t, its, n, r, g⟩, _, _⟩ : ObjOk P w H h b (.ext (bagP b)) := ok b _ e
  refine ⟨x, c, t, fun a o q => ?_⟩
  by_cases hb : a = b
  · subst hb
    rw [upd_same] at q
    cases q
    exact ⟨by show 3 ≤ sizeLine; decide, its, n, r, g⟩
  · rw [upd_ne hb] at q
    refine (ok a o q).stay (fun _ _ _ z => z) (fun d z => ?_) fun d xs z => ?_
    · rw [upd_ne]
      · exact z
      · intro y
        rw [y, e] at z
        cases (show HO.ext (bagP b) = .own a from Option.some.inj z)
    · rw [upd_ne]
      · exact z
      · intro y
        rw [y, e] at z
        cases (show HO.ext (bagP b) = .tup xs from Option.some.inj z)
theorem bag_close {P : Program} {w : World} {H : Hp} {h : Heap} {b : Addr} {x c t : Int} (ok : HOk P w H h) (e : H b = some (.lst [.int x, .int c, .int t])) : HOk P w (upd H b (bagO b)) h := fun a o q => by
  by_cases hb : a = b
  · subst hb
    rw [upd_same] at q
    cases q
    exact bag_ok (ok a _ e)
  · rw [upd_ne hb] at q
    refine (ok a o q).stay (fun _ _ _ z => z) (fun d z => ?_) fun d xs z => ?_
    · rw [upd_ne]
      · exact z
      · intro y
        rw [y, e] at z
        cases z
    · rw [upd_ne]
      · exact z
      · intro y
        rw [y, e] at z
        cases z
/-- a promise about a list of three ints, said of a bag -/
theorem bag_fn {P : Program} {w : World} {K : PySem.W.Frag} {mg : Str → Option Value} {base : Heap} {k : Nat} {f : Addr} {fd : FuncData} {ps : List Str} {sp sp' : Sp} (F : FnOk P w K mg base CX0 k f fd ps sp)
    (h : ∀ vs H Q E, sp' vs H Q E → vs.length = ps.length ∧ ∃ b, H b = some (bagO b) ∧ ∀ x c t : Int, sp vs (upd H b (.lst [.int x, .int c, .int t])) (fun v H2 => ∃ x c t : Int, H2 b = some (.lst [.int x, .int c, .int t]) ∧ Q v (upd H2 b (bagO b))) E) :
    FnOk P w K mg base CX0 k f fd ps sp' := by
  refine ⟨fun vs H Q E q => (h _ _ _ _ q).1, fun A outer s H args us vs Q E hr he hb hv hs => ?_⟩
  obtain ⟨_, b, eb, q⟩ := h _ _ _ _ hs
  obtain ⟨x, c, t, ok⟩ := bag_open he.hok eb
  have ne : ∀ {d : Addr}, H d = none → d ≠ b := fun {d} n z => by
    rw [z, eb] at n
    cases n
  have e2 : Env0 P w K mg base A outer s (upd H b (.lst [.int x, .int c, .int t])) :=
    ⟨he.frames, he.mod, fun d o z => ⟨(he.bs d o z).1, by rw [upd_ne (ne (he.bs d o z).2)]; exact (he.bs d o z).2⟩, he.bsz, he.funs, fun d z => by rw [upd_ne (ne (he.frf d z))]; exact he.frf d z, ok, he.bare⟩
  refine codeAny_mono (F.run A outer s _ args us vs _ E hr e2 hb hv (q x c t)) fun r s' hq => ?_
  cases r with
  | error e => exact hq
  | ok fl =>
    cases fl with
    | next => exact hq
    | brk => exact hq
    | cont => exact hq
    | ret u =>
      obtain ⟨v, H2, os, bare, un, hok, r, x', c', t', e3, q3⟩ := hq
      have ne2 : ∀ {d : Addr}, H2 d = none → d ≠ b := fun {d} n z => by
        rw [z, e3] at n
        cases n
      have nb : ∀ {d : Addr} {o : HO}, H d = some o → o ≠ bagO b → d ≠ b := fun {d o} z y e => by
        rw [e, eb] at z
        exact y (Option.some.inj z).symm
      refine ⟨v, _, os, bare, ?_, bag_close hok e3, r, q3⟩
      exact {
        keep := fun d o g n hf hx => un.keep d o g (by rw [upd_ne (ne n)]; exact n) hf hx
        slot := fun d o g n hf hx => un.slot d o g (by rw [upd_ne (ne n)]; exact n) hf hx
        free := fun d o g n hx => by
          have y := un.free d o g (by rw [upd_ne (ne n)]; exact n) hx
          rw [upd_ne (ne2 y)]
          exact y
        there := fun d o g hx => un.there d o g hx
        tups := fun d xs z => by
          have y : d ≠ b := nb z (by intro q; cases (show HO.tup xs = HO.ext (bagP b) from q))
          rw [upd_ne y]
          exact un.tups d xs (by rw [upd_ne y]; exact z)
        frzs := fun d o u z => by
          have y : d ≠ b := nb z (by intro q; cases (show HO.frz o u = HO.ext (bagP b) from q))
          rw [upd_ne y]
          exact un.frzs d o u (by rw [upd_ne y]; exact z)
        tbls := fun d xs z => by
          have y : d ≠ b := nb z (by intro q; cases (show HO.tbl xs = HO.ext (bagP b) from q))
          rw [upd_ne y]
          exact un.tbls d xs (by rw [upd_ne y]; exact z) }
end Kb

namespace Kb
open PySem PySem.Spec PyProof.Rows L2

/-! ### a bag that is made -/
theorem bag_new {P : Program} {w : World} {K : PySem.W.Frag} {mg : Str → Option Value} {base : Heap} {k : Nat} {f : Addr} {fd : FuncData} {ps : List Str} {sp sp' : Sp} (F : FnOk P w K mg base CX0 k f fd ps sp)
    (h : ∀ vs H Q E, sp' vs H Q E → vs.length = ps.length ∧ sp vs H (fun v H2 => ∃ (b : Addr) (x c t : Int), v = .ref b ∧ H b = none ∧ H2 b = some (.lst [.int x, .int c, .int t]) ∧ Q v (upd H2 b (bagO b))) E) :
    FnOk P w K mg base CX0 k f fd ps sp' := by
  refine ⟨fun vs H Q E q => (h _ _ _ _ q).1, fun A outer s H args us vs Q E hr he hb hv hs => ?_⟩
  refine codeAny_mono (F.run A outer s _ args us vs _ E hr he hb hv (h _ _ _ _ hs).2) fun r s' hq => ?_
  cases r with
  | error e => exact hq
  | ok fl =>
    cases fl with
    | next => exact hq
    | brk => exact hq
    | cont => exact hq
    | ret u =>
      obtain ⟨v, H2, os, bare, un, hok, r, b, x', c', t', ev, e0, e3, q3⟩ := hq
      have ne2 : ∀ {d : Addr}, H2 d = none → d ≠ b := fun {d} n z => by
        rw [z, e3] at n
        cases n
      refine ⟨v, _, os, bare, ?_, bag_close hok e3, r, q3⟩
      exact {
        keep := un.keep
        slot := un.slot
        free := fun d o g n hx => by
          have y := un.free d o g n hx
          rw [upd_ne (ne2 y)]
          exact y
        there := un.there
        tups := fun d xs z => by
          rw [upd_ne (ne_of_none z e0)]
          exact un.tups d xs z
        frzs := fun d o u z => by
          rw [upd_ne (ne_of_none z e0)]
          exact un.frzs d o u z
        tbls := fun d xs z => by
          rw [upd_ne (ne_of_none z e0)]
          exact un.tbls d xs z }

/-! ### set(xs), xs a list of ints -/
section
variable {P : Program} {w : World} {A : Around} {E : Value → Shared → Prop} {s : Shared}
abbrev bare0 (w : World) : Obj := { cls := .type "set", dict := none, data := .set #[] 0 (.fresh 0 0 (!w.params.followText "set-order")) }
abbrev with0 (w : World) (s : Shared) : Shared := { s with heap := s.heap.push (bare0 w) }
set_option maxHeartbeats 6400000 in
theorem set_of_list {l : Addr} {its : Array Value} (ns : List Int) {Q : Value → Shared → Prop} (ah : A.handled = none) (hl : s.heap.IsList l its) (ia : IntsAre its.toList ns) (room : ns.length + 1 < scanBound)
    (h : ∀ (g : Heap) (tk c : Nat), SetR w g s.heap.objs.size (fun j => decide (j ∈ ns)) c → c ≤ ns.length → (∀ b o, s.heap.get? b = some o → g.get? b = some o) → Q (.ref s.heap.objs.size) { s with heap := g, toks := tk }) :
    wpAny (model P w) A (call (.type "set") [.ref l]) Q E s := by
  have sz : its.size = ns.length := by
    have q := IntsAre.length ia
    rwa [Array.length_toList] at q
  obtain ⟨c0, tl0, mro0⟩ := F.called_set.mro
  have m1 := F.called_set.made
  have m2 := F.called_set.sub
  refine wpAny_call (codeAny_of_tree (show wpAny _ _ (callAny (.type "set") _) _ _ _ from wpAny_pure ⟨Code.quiet_builtin _ (by decide +kernel), codeAny_builtin F.entry_type_call ?_⟩))
  rw [Around.under_plain (weight_type_call_type "set" [.ref l] []) rfl]
  have m3 := F.called_set.notType
  have m4 := F.called_set.canCreate
  have m5 := F.typeCall_set_1 (.ref l)
  repeat (any_goals (first | assumption | wp_step))
  refine codeAny_mono (code_set_led1 (.ref l) (E := E) (Q₁ := fun ob s1 => ob = .ref s.heap.objs.size ∧ s1 = with0 w s) ⟨rfl, rfl⟩) fun r s1 hr => ?_
  cases r with
  | error e => exact hr
  | ok fl =>
    cases fl with
    | ret obj =>
      obtain ⟨rfl, rfl⟩ := hr
      have gS : (s.heap.push (bare0 w)).get? s.heap.objs.size = some (bare0 w) := Heap.get?_push_size _ rfl
      have tS : Shared.TypeIs (with0 w s) (.ref s.heap.objs.size) "set" := ⟨_, gS, rfl⟩
      have n1 := F.called_set.init.lookup
      have n2 := F.called_set.init.bind (.ref s.heap.objs.size)
      repeat (any_goals (first | assumption | wp_step))
      refine codeAny_mono (codeAny_call_builtin (R := wants (fun r s2 => r = .none ∧ ∃ g tk c, s2 = { s with heap := g, toks := tk } ∧ SetR w g s.heap.objs.size (fun j => decide (j ∈ ns)) c ∧ c ≤ ns.length ∧
          ∀ b o, s.heap.get? b = some o → g.get? b = some o) E) F.called_set.init.plain F.entry_set_init (check_set_init_1 tS ?_)) fun r2 s2 hr2 => ?_
      · obtain ⟨ol, gl, hcl, nl, hdl⟩ := hl
        obtain ⟨ocls, odict, odata, oslots⟩ := ol
        simp only at hcl hdl
        subst hcl
        subst hdl
        have gl2 : (s.heap.push (bare0 w)).get? l = some { cls := .type "list", dict := odict, data := .seq its nl, slots := oslots } := Heap.get?_push_of_some _ gl
        have k1 := F.sub_list_set
        have k2 := F.sub_list_frozenset
        have k3 : (Value.type "list" == Value.type "dict") = false := by decide
        have il : (s.heap.push (bare0 w)).IsList l its := ⟨_, gl2, rfl, nl, rfl⟩
        unfold Builtin.«set.__init__» noKeywords Builtin.Frozenset.updateFrom
        generalize eP : pyIter = PI
        wp_walk
        subst eP
        refine wpAny_pyIter_list il (wpAny_bind (wpAny_runValue ?_))
        have lS : l < s.heap.objs.size := Heap.lt_size gl
        have ah3 : A.in1.in1.in1.handled = none := by simp [ah]
        have zS : (s.heap.push (bare0 w)).objs.size = s.heap.objs.size + 1 := Heap.size_push ..
        have neI : l ≠ (s.heap.push (bare0 w)).objs.size := by
          rw [zS]
          exact Nat.ne_of_lt (Nat.lt_succ_of_lt lS)
        have fS : s.heap.objs.size ∉ [(s.heap.push (bare0 w)).objs.size, l] := by
          rw [zS]
          simp only [List.mem_cons, List.mem_singleton, List.not_mem_nil, or_false, not_or]
          exact ⟨Nat.ne_of_lt (Nat.lt_succ_self _), Nat.ne_of_gt lS⟩
        have vals : ∀ (i : Nat) (v : Value), its[i]? = some v → ∃ k t, ns[i]? = some k ∧ v = .int k t := fun i v hv => by
          have li : i < ns.length := by
            rw [← sz]
            exact (Array.getElem?_eq_some_iff.mp hv).1
          obtain ⟨t, e⟩ := PyProof.Rows.IntsAre.int_at ia i v (by rw [Array.getElem?_toList]; exact hv)
          refine ⟨ns[i], t, List.getElem?_eq_getElem li, e.trans ?_⟩
          rw [List.getD_eq_getElem?_getD, List.getElem?_eq_getElem li] <;> rfl
        refine set_update_ints ((Walks.list ah3 _ l neI its).toS) s.heap.objs.size fS ns sz room vals (its.size - 0) 0 _ (by omega) (Nat.zero_le _) ⟨⟨_, Heap.get?_push_size _ rfl, rfl, rfl⟩, il.push _⟩
          ⟨0, Nat.le_refl 0, setR_new_at (Heap.get?_push_of_some _ gS)⟩ fun s3 c3 hm hc3 hS3 => ?_
        obtain ⟨g, g2, d3, tk3, os3⟩ := s3
        obtain rfl : g2 = s.gens := hm.gens
        obtain rfl : d3 = s.drawn := hm.drawn
        obtain rfl : os3 = s.os := hm.os
        rw [sz] at hc3
        show wpAny _ _ _ _ _ _
        refine wpAny_pure ?_
        show wpAny _ _ (ret Value.none) _ _ _
        refine wpAny_pure ⟨rfl, g, tk3, c3, rfl, hS3, hc3, fun b o e => ?_⟩
        have lb : b < s.heap.objs.size := Heap.lt_size e
        refine hm.heap b o ?_ (Heap.get?_push_of_some _ (Heap.get?_push_of_some _ e))
        simp only [List.mem_cons, List.mem_singleton, List.not_mem_nil, or_false, not_or]
        refine ⟨Nat.ne_of_lt lb, ?_⟩
        rw [zS]
        exact Nat.ne_of_lt (Nat.lt_succ_of_lt lb)
      · cases r2 with
        | error e => exact hr2
        | ok fl2 =>
          cases fl2 with
          | ret r =>
            obtain ⟨rfl, g, tk, c, rfl, z1, z2, z3⟩ := hr2
            repeat (any_goals (first | assumption | wp_step))
            exact h _ _ _ z1 z2 z3
          | _ => exact hr2.elim
    | _ => exact hr.elim
end
section
variable {X : Cx}
theorem cr_set (hc : X.calm = true) : CallR X (.type "set") (fun xs H Q => ∃ (l : Addr) (ns : List Int), xs = [.ref l] ∧ SqL X.K H l (ns.map V.int) ∧ ns.length ≤ 60 ∧
    ∀ (a : Addr) (c : Nat), H a = none → c ≤ ns.length → Q (.ref a) (upd H a (SetO X.w a (fun j => decide (j ∈ ns)) c))) := by
  intro pins s σ H xs us Q I r h
  obtain ⟨l, ns, rfl, hq, hl, q⟩ := h
  rw [Vals.ref1 r]
  obtain ⟨its, rv, pt, hz⟩ := I.list hq
  refine set_of_list (its := its.toArray) ns (I.ok.hd hc) pt.isList (ints_of_vals rv) (by unfold scanBound; omega) fun g tk c R hc k => ?_
  have n : H s.heap.objs.size = none := I.hok.fresh (Nat.le_refl _)
  exact ⟨.ref _, _, I.laid (t' := tk) k (Nat.le_refl _) (setO_new R), rfl, q _ c n hc⟩
theorem cr_repr : CallR X (.builtin "repr") (fun xs H Q => (∃ i, xs = [.int i] ∧ i.natAbs.log2 < 1920 ∧ Q (.str (toString i)) H) ∨ (xs = [.non] ∧ Q (.str "None") H)) := by
  intro pins s σ H xs us Q I r h
  rcases h with ⟨i, rfl, hz, q⟩ | ⟨rfl, q⟩
  · obtain ⟨u, rfl, t, rfl⟩ := vals1 r
    exact PySem.P.repr_of_int hz ⟨.str _, H, I.tok _, ⟨_, rfl⟩, q⟩
  · obtain ⟨u, rfl, ru⟩ := vals1 r
    obtain rfl : u = Value.none := ru
    exact PySem.P.repr_of_none ⟨.str _, H, I.tok _, ⟨_, rfl⟩, q⟩
end
end Kb

namespace Kb
open PySem PySem.Spec PyProof.Rows L2
theorem bo_len : bootBuiltins "len" = some (.builtin "len") := by decide +kernel
theorem bo_abs : bootBuiltins "abs" = some (.builtin "abs") := by decide +kernel
theorem bo_max : bootBuiltins "max" = some (.builtin "max") := by decide +kernel
theorem bo_min : bootBuiltins "min" = some (.builtin "min") := by decide +kernel
theorem bo_sum : bootBuiltins "sum" = some (.builtin "sum") := by decide +kernel
theorem bo_all : bootBuiltins "all" = some (.builtin "all") := by decide +kernel
theorem bo_repr : bootBuiltins "repr" = some (.builtin "repr") := by decide +kernel
theorem bo_sorted : bootBuiltins "sorted" = some (.builtin "sorted") := by decide +kernel
theorem bo_isinstance : bootBuiltins "isinstance" = some (.builtin "isinstance") := by decide +kernel
theorem bo_int : bootBuiltins "int" = some (.type "int") := by decide +kernel
theorem bo_bool : bootBuiltins "bool" = some (.type "bool") := by decide +kernel
theorem bo_list : bootBuiltins "list" = some (.type "list") := by decide +kernel
theorem bo_tuple : bootBuiltins "tuple" = some (.type "tuple") := by decide +kernel
theorem bo_set : bootBuiltins "set" = some (.type "set") := by decide +kernel
theorem bo_str : bootBuiltins "str" = some (.type "str") := by decide +kernel
/-- names that are still the built-in ones -/
structure Bt (mg : Str → Option Value) : Prop where
  len : mg "len" = none
  abs : mg "abs" = none
  max : mg "max" = none
  min : mg "min" = none
  sum : mg "sum" = none
  all : mg "all" = none
  repr : mg "repr" = none
  sorted : mg "sorted" = none
  isinstance : mg "isinstance" = none
  int : mg "int" = none
  bool : mg "bool" = none
  list : mg "list" = none
  tuple : mg "tuple" = none
  set : mg "set" = none
  range : mg "range" = none
  zip : mg "zip" = none

/-! ### xs[::k], k reckoned, 1 or -1 -/
theorem pick_one (its : Array Value) : slicePick its none none (some 1) = its := by
  unfold slicePick
  have b : sliceBounds none none (some 1) its.size = (0, (its.size : Int), 1) := by first | rfl | simp [sliceBounds]
  rw [b]
  have e : sliceRange 0 (its.size : Int) 1 = List.range its.size := by
    unfold sliceRange
    by_cases h : (its.size : Int) > 0
    · have e1 : ((its.size : Int) - 0 + 1 - 1) / 1 = (its.size : Int) := by
        rw [Int.ediv_one]
        omega
      simp only [show ((1 : Int) > 0) from by decide, if_true, show (0 : Int) < (its.size : Int) from h, e1, Int.toNat_natCast]
      refine (List.map_congr_left fun k hk => ?_).trans (List.map_id _)
      show ((0 : Int) + 1 * (k : Int)).toNat = id k
      simp
    · have z : its.size = 0 := by omega
      rw [z]
      simp
  show ((sliceRange 0 (its.size : Int) 1).filterMap (its[·]?)).toArray = its
  rw [e, PySem.W.krv_all, Array.toArray_toList]
def tStep (K : PySem.W.Frag) (te ts : TE) : TE := fun σ H Q => te σ H fun x H1 => tPart ts σ H1 fun o H2 => ∃ a xs k, x = .ref a ∧ o = some k ∧ SqL K H2 a xs ∧
  ((k = 1 ∧ ∀ p, H2 p = none → Q (.ref p) (upd H2 p (.lst xs))) ∨ (k = -1 ∧ ∀ p, H2 p = none → Q (.ref p) (upd H2 p (.lst xs.reverse))))
theorem pe_slstep {X : Cx} {e st : Expr} {te ts : TE} {p3 pos : Pos} (he : PE X e te) (hst : PE X st ts) : PE X (.Subscript e (.Slice none none (some st) p3) pos) (tStep X.K te ts) := by
  refine ⟨fun pins s σ H Q I h => ?_⟩
  refine Subscript_ (thn (he.run pins s σ H _ I h) fun v s1 ⟨x, H1, I1, r1, q1⟩ => ?_)
  refine wpAny_Slice (thn (po_none.run pins s1 σ H1 (fun o H2 => o = none ∧ H2 = H1) I1 ⟨rfl, rfl⟩) fun vl s2 ⟨l, H2, I2, pl, el, e2⟩ => ?_)
  subst el e2
  refine thn (po_none.run pins s2 σ H2 (fun o H3 => o = none ∧ H3 = H2) I2 ⟨rfl, rfl⟩) fun vu s3 ⟨u, H3, I3, pu, eu, e3⟩ => ?_
  subst eu e3
  refine thn ((po_some hst).run pins s3 σ H3 _ I3 q1) fun vs s4 ⟨o, H4, I4, ps, a, xs, k, ex, eo, hx, q⟩ => ?_
  subst ex eo
  cases r1
  have I5 : Inv X pins σ H4 { s4 with heap := s4.heap.push { cls := .type "slice", data := .fields #[vl, vu, vs] } } := I4.kept (t' := s4.toks) fun b ob q => Heap.get?_push_of_some _ q
  obtain ⟨its, r, ht, hz⟩ := I5.list hx
  have hlen := r.length
  show wpAny (model X.prog X.w) X.A (subscriptTail e (.Slice none none (some st) p3) (.ref a) (.ref s4.heap.objs.size)) (EP X pins σ Q) X.xe { s4 with heap := s4.heap.push { cls := .type "slice", data := .fields #[vl, vu, vs] } }
  refine tail_any (ops := [.ref a, .ref s4.heap.objs.size]) ht.isList.typeIs (PySem.slot_list_getitem.lookup) ?_ rfl
  have bz : its.toArray.size ≤ sizeLine := by
    rw [List.size_toArray]
    omega
  rcases q with ⟨ek, q⟩ | ⟨ek, q⟩
  · subst ek
    refine wpAny_getItem_list_slice ht.isList (Heap.IsSliceOf.new _ vl vu vs) pl pu ps (by decide) ?_ bz
    rw [pick_one]
    exact ⟨.ref _, _, I5.laid (t' := s4.toks) (o := .lst xs) (fun b ob q => Heap.get?_push_of_some _ q) (Nat.le_refl _) ⟨hz, _, 0, r, Heap.get?_push_size _ rfl⟩, rfl, q _ (I5.hok.fresh (Nat.le_refl _))⟩
  · subst ek
    refine wpAny_getItem_list_slice ht.isList (Heap.IsSliceOf.new _ vl vu vs) pl pu ps (by decide) ?_ bz
    rw [PySem.W.krv_pick]
    exact ⟨.ref _, _, I5.laid (t' := s4.toks) (o := .lst xs.reverse) (fun b ob q => Heap.get?_push_of_some _ q) (Nat.le_refl _) ⟨by rw [List.length_reverse]; exact hz, _, 0, r.reverse, Heap.get?_push_size _ rfl⟩, rfl, q _ (I5.hok.fresh (Nat.le_refl _))⟩

/-! ### list(range(i, j, c)) -/
def tLstRg3 (ta : TA) : TE := fun σ H Q => ta σ H fun vs H1 => ∃ (i j c : Int) (n : Nat), vs = [.int i, .int j, .int c] ∧ RgC i j c n ∧ n ≤ 2 ^ 20 ∧ ∀ q, H1 q = none → Q (.ref q) (upd H1 q (.lst ((List.range n).map fun (m : Nat) => V.int (i + (m : Int) * c))))
theorem pe_listRg3 {X : Cx} {a b c : Expr} {ta : TA} {p p2 pos pos2 : Pos} (hc : X.calm = true) (hg : Gl X "list") (hm : X.mg "list" = none) (hm2 : X.mg "range" = none) (ha : PA X [a, b, c] ta) (hg2 : Gl X "range" := by rfl)
    (hs : starEach [a, b, c] X.env = (false, eval a X.env) :: starEach [b, c] X.env := by rfl) (hpl : (backTo pos2 (starEach [b, c] X.env)).any (·.1) = false := by rfl)
    (na : starEach [.Call (.Name "range" p2) [a, b, c] [] pos2] X.env = (false, eval (.Call (.Name "range" p2) [a, b, c] [] pos2) X.env) :: starEach [] X.env := by rfl) :
    PE X (.Call (.Name "list" p) [.Call (.Name "range" p2) [a, b, c] [] pos2] [] pos) (tLstRg3 ta) := by
  refine ⟨fun pins s σ H Q I h => ?_⟩
  refine Call_ (ld_blt I hg hm boot_list (PyProof.Rows.callWith_type1 (args_cons ?_ na) na))
  refine Call_ (ld_blt I hg2 hm2 boot_range (PyProof.Rows.callWith_type1 (thn (ha.run pos2 pins s σ H _ I h) fun us s1 ⟨vs, H1, I1, r1, q1⟩ => ?_) hs hpl))
  obtain ⟨i, j, k, n, e, ⟨c0, c1, c2, c3⟩, hn, q⟩ := q1
  subst e
  cases r1 with
  | cons r rr =>
    cases rr with
    | cons r' rr =>
      cases rr with
      | cons r'' rr =>
        cases rr
        obtain ⟨t, rfl⟩ := r
        obtain ⟨t', rfl⟩ := r'
        obtain ⟨t'', rfl⟩ := r''
        refine call_range_3 c0 ?_ (.inl (PyProof.noPylong_small c1))
        refine args_nil ?_
        have I2 : Inv X pins σ H1 { s1 with heap := s1.heap.push { cls := .type "range", data := .fields #[.int i t, .int j t', .int k t''] } } := I1.kept (t' := s1.toks) fun b o e => Heap.get?_push_of_some _ e
        refine call_list_range (n := n) (I2.ok.hd hc) (IsRange.new _ _ _ _ _ _ _) c2 c3 (Nat.le_trans hn (by decide)) fun h' tk acc c' hk e' hi => ?_
        have el : acc.toList.length = n := by
          rw [Array.length_toList]
          exact hi.1
        have hv : Vals ((List.range n).map fun (m : Nat) => V.int (i + (m : Int) * k)) acc.toList := by
          rw [← el]
          refine vals_of_get acc.toList _ fun m u hm => ?_
          obtain ⟨tt, rfl⟩ := hi.2 m u (by rw [← hm, Array.getElem?_toList])
          exact ⟨tt, rfl⟩
        refine ⟨.ref _, upd H1 _ (.lst _), I2.laid hk (Nat.le_refl _) (show ObjOk X.prog X.w _ _ _ (.lst ((List.range n).map fun (m : Nat) => V.int (i + (m : Int) * k))) from ⟨?_, acc.toList, c', hv, ?_⟩), rfl, q _ (I2.hok.fresh (Nat.le_refl _))⟩
        · rw [List.length_map, List.length_range, sizeLine_eq]
          omega
        · rw [Array.toArray_toList]
          exact e'
end Kb

namespace Kb
open PySem PySem.Spec PyProof.Rows L2
section
variable {K : PySem.W.Frag} {a b : Addr} {xs ys : List V} {n : Nat} {g : TG}
theorem for_zip {tb : TS} {D : Ends} {σ : L2.St} {H : Hp} (hn : n = min xs.length ys.length) (Pv : Nat → L2.St → Hp → Prop) (h0 : Pv 0 σ H) (hl : ∀ i σ H, i ≤ n → Pv i σ H → SqL K H a xs ∧ SqL K H b ys)
    (hs : ∀ i x y T σ H, i < n → xs[i]? = some x → ys[i]? = some y → H T = none → Pv i σ H → g (.ref T) σ (upd H T (.tup [x, y])) fun σ2 H2 => tb { D with nx := Pv (i + 1), ct := Pv (i + 1), bk := D.nx } σ2 H2) (hd : ∀ σ H, Pv n σ H → D.nx σ H) :
    ∃ W : Nat → Nat → L2.St → Hp → Prop, (∃ m, W 0 m σ H) ∧ ∀ i m σ H, W i m σ H →
      ((Itz K a b).stop i H ∧ D.nx σ H) ∨ ((Itz K a b).go i H ∧ ∃ N : L2.St → Hp → Prop, (∀ σ' H', N σ' H' → ∃ m', m' < m ∧ W (i + 1) m' σ' H') ∧ ∀ x H', (Itz K a b).yld i H x H' → g x σ H' fun σ2 H2 => tb { D with nx := N, ct := N, bk := D.nx } σ2 H2) := by
  refine ⟨fun i m σ H => m = n - i ∧ i ≤ n ∧ Pv i σ H, ⟨n, by simp, Nat.zero_le _, h0⟩, ?_⟩
  rintro i m σ H ⟨rfl, hi, p⟩
  obtain ⟨q1, q2⟩ := hl i σ H hi p
  by_cases hlt : i < n
  · have l1 : i < xs.length := by omega
    have l2 : i < ys.length := by omega
    have g1 : xs[i]? = some xs[i] := List.getElem?_eq_getElem l1
    have g2 : ys[i]? = some ys[i] := List.getElem?_eq_getElem l2
    refine .inr ⟨⟨_, _, _, _, q1, q2, g1, g2⟩, Pv (i + 1), fun σ' H' p' => ⟨n - (i + 1), by omega, rfl, hlt, p'⟩, fun v H' y => ?_⟩
    obtain ⟨T, x1, x2, rfl, nT, rfl, f1, f2⟩ := y
    exact hs i x1 x2 T σ H hlt (f1 xs q1) (f2 ys q2) nT p
  · have e : i = n := by omega
    subst e
    exact .inl ⟨⟨xs, ys, q1, q2, by omega⟩, hd σ H p⟩
theorem lc_zip {tt : TT} {te : TE} {vs : List Nat} {σ : L2.St} {H1 : Hp} {D : Addr} {Qd : Hp → Prop} (hn : n = min xs.length ys.length) (Pv : Nat → Hp → Prop) (h0 : Pv 0 (upd H1 D (.lst []))) (hl : ∀ i H, i ≤ n → Pv i H → SqL K H a xs ∧ SqL K H b ys)
    (hs : ∀ i x y T H, i < n → xs[i]? = some x → ys[i]? = some y → H T = none → Pv i H → g (.ref T) (wipe σ vs) (upd H T (.tup [x, y])) fun σ2 H2 => wipe σ2 vs = wipe σ vs ∧ tt σ2 H2 fun b H3 =>
      if b = true then te σ2 H3 fun y H4 => ∃ acc, H4 D = some (.lst acc) ∧ acc.length < sizeLine ∧ Pv (i + 1) (upd H4 D (.lst (acc ++ [y]))) else Pv (i + 1) H3) (hd : ∀ H, Pv n H → Qd H) :
    ∃ W : Nat → Nat → Hp → Prop, (∃ m, W 0 m (upd H1 D (.lst []))) ∧ ∀ i m H, W i m H →
      ((Itz K a b).stop i H ∧ Qd H) ∨ ((Itz K a b).go i H ∧ ∃ Nx : Hp → Prop, (∀ H', Nx H' → ∃ m', m' < m ∧ W (i + 1) m' H') ∧ ∀ x H', (Itz K a b).yld i H x H' → g x (wipe σ vs) H' fun σ2 H2 => wipe σ2 vs = wipe σ vs ∧ tt σ2 H2 fun b H3 =>
        if b = true then te σ2 H3 fun y H4 => ∃ acc, H4 D = some (.lst acc) ∧ acc.length < sizeLine ∧ Nx (upd H4 D (.lst (acc ++ [y]))) else Nx H3) := by
  refine ⟨fun i m H => m = n - i ∧ i ≤ n ∧ Pv i H, ⟨n, by simp, Nat.zero_le _, h0⟩, ?_⟩
  rintro i m H ⟨rfl, hi, p⟩
  obtain ⟨q1, q2⟩ := hl i H hi p
  by_cases hlt : i < n
  · have l1 : i < xs.length := by omega
    have l2 : i < ys.length := by omega
    have g1 : xs[i]? = some xs[i] := List.getElem?_eq_getElem l1
    have g2 : ys[i]? = some ys[i] := List.getElem?_eq_getElem l2
    refine .inr ⟨⟨_, _, _, _, q1, q2, g1, g2⟩, Pv (i + 1), fun H' p' => ⟨n - (i + 1), by omega, rfl, hlt, p'⟩, fun v H' y => ?_⟩
    obtain ⟨T, x1, x2, rfl, nT, rfl, f1, f2⟩ := y
    exact hs i x1 x2 T H hlt (f1 xs q1) (f2 ys q2) nT p
  · have e : i = n := by omega
    subst e
    exact .inl ⟨⟨xs, ys, q1, q2, by omega⟩, hd H p⟩
end
/-! ### a list in the making, and what else stands -/
theorem IsSc.lset {H : Hp} {D : Addr} {us us' : List V} {v : V} {s : Sc} (hD : H D = some (.lst us)) (h : IsSc H v s) : IsSc (upd H D (.lst us')) v s := by
  obtain ⟨t, e, ht⟩ := h
  refine ⟨t, e, ?_⟩
  rw [upd_ne (ne_of ht hD (by intro z; cases z))]
  exact ht
theorem Pa.lset {H : Hp} {D : Addr} {us us' : List V} (hD : H D = some (.lst us)) : ∀ {vs : List V} {ss : List Sc}, Paired (IsSc H) vs ss → Paired (IsSc (upd H D (.lst us'))) vs ss
  | _, _, .nil => .nil
  | _, _, .cons h t => .cons (h.lset hD) (Pa.lset hD t)
theorem Pa.snoc {H : Hp} {vs : List V} {ss : List Sc} {v : V} {s : Sc} (h : Paired (IsSc H) vs ss) (k : IsSc H v s) : Paired (IsSc H) (vs ++ [v]) (ss ++ [s]) := Pa.app h (.cons k .nil)
/-- the pair that a value stands for -/
def kOf (H : Hp) : V → Int × Int
  | .ref t => match H t with
    | some (.tup [.int x, .int y]) => (x, y)
    | _ => (0, 0)
  | _ => (0, 0)
theorem kOf_eq {H : Hp} {v : V} {s : Sc} (h : IsSc H v s) : kOf H v = s := by
  obtain ⟨t, rfl, e⟩ := h
  show (match H t with
    | some (.tup [.int x, .int y]) => (x, y)
    | _ => (0, 0)) = s
  rw [e]
theorem Pa.kOf {H : Hp} : ∀ {vs : List V} {ss : List Sc}, Paired (IsSc H) vs ss → vs.map (Kb.kOf H) = ss
  | _, _, .nil => rfl
  | _, _, .cons h t => by rw [List.map_cons, kOf_eq h, Pa.kOf t]
theorem Pa.of_map {H : Hp} : ∀ {vs : List V}, (∀ v ∈ vs, ∃ s, IsSc H v s) → Paired (IsSc H) vs (vs.map (Kb.kOf H))
  | [], _ => .nil
  | v :: r, h => by
    obtain ⟨s, hs⟩ := h v List.mem_cons_self
    have e := kOf_eq hs
    refine .cons ?_ (Pa.of_map fun u hu => h u (List.mem_cons_of_mem _ hu))
    rw [e]
    exact hs
theorem Pa.mem {H : Hp} : ∀ {vs : List V} {ss : List Sc}, Paired (IsSc H) vs ss → ∀ v ∈ vs, ∃ s, s ∈ ss ∧ IsSc H v s
  | _, _, .nil, v, hv => by cases hv
  | _, _, .cons h t, v, hv => by
    rcases List.mem_cons.mp hv with e | e
    · subst e
      exact ⟨_, List.mem_cons_self, h⟩
    · obtain ⟨s, m, q⟩ := Pa.mem t v e
      exact ⟨s, List.mem_cons_of_mem _ m, q⟩
/-- sorted pairs: what a call of sorted hands back, by pairs -/
theorem Pa.sorted {H : Hp} {us vs : List V} {ss : List Sc} (h : Paired (IsSc H) vs ss) (s1 : SrtO.Srtd (ltP (Kb.kOf H)) us) (s2 : SrtO.Stb (ltP (Kb.kOf H)) us vs) :
    ∃ ts : List Sc, Paired (IsSc H) us ts ∧ ts.Perm ss ∧ ts.Pairwise fun p q => p.1 ≤ q.1 := by
  refine ⟨us.map (Kb.kOf H), Pa.of_map fun v hv => ?_, ?_, ?_⟩
  · obtain ⟨s, _, q⟩ := Pa.mem h v (s2.perm.mem_iff.mp hv)
    exact ⟨s, q⟩
  · rw [← Pa.kOf h]
    exact s2.perm.map _
  · refine List.pairwise_map.mpr (s1.imp fun {x y} q => ?_)
    have z := SrtO.lexB_no.mp q
    omega
end Kb
namespace Kb
open PySem PySem.Spec PyProof.Rows L2
structure Br (mg : Str → Option Value) : Prop where
  reversed : mg "reversed" = none
theorem lc_rev {K : PySem.W.Frag} {a : Addr} {xs : List V} {g : TG} {tt : TT} {te : TE} {vs : List Nat} {σ : L2.St} {H1 : Hp} {D : Addr} {Qd : Hp → Prop} (Pv : Nat → Hp → Prop) (h0 : Pv 0 (upd H1 D (.lst []))) (hl : ∀ i H, i ≤ xs.length → Pv i H → SqL K H a xs)
    (hs : ∀ i x H, xs.reverse[i]? = some x → Pv i H → g x (wipe σ vs) H fun σ2 H2 => wipe σ2 vs = wipe σ vs ∧ tt σ2 H2 fun b H3 =>
      if b = true then te σ2 H3 fun y H4 => ∃ acc, H4 D = some (.lst acc) ∧ acc.length < sizeLine ∧ Pv (i + 1) (upd H4 D (.lst (acc ++ [y]))) else Pv (i + 1) H3) (hd : ∀ H, Pv xs.length H → Qd H) :
    ∃ W : Nat → Nat → Hp → Prop, (∃ m, W 0 m (upd H1 D (.lst []))) ∧ ∀ i m H, W i m H →
      ((Itv K a xs.length).stop i H ∧ Qd H) ∨ ((Itv K a xs.length).go i H ∧ ∃ Nx : Hp → Prop, (∀ H', Nx H' → ∃ m', m' < m ∧ W (i + 1) m' H') ∧ ∀ x H', (Itv K a xs.length).yld i H x H' → g x (wipe σ vs) H' fun σ2 H2 => wipe σ2 vs = wipe σ vs ∧ tt σ2 H2 fun b H3 =>
        if b = true then te σ2 H3 fun y H4 => ∃ acc, H4 D = some (.lst acc) ∧ acc.length < sizeLine ∧ Nx (upd H4 D (.lst (acc ++ [y]))) else Nx H3) := by
  refine ⟨fun i m H => m = xs.length - i ∧ i ≤ xs.length ∧ Pv i H, ⟨xs.length, by simp, Nat.zero_le _, h0⟩, ?_⟩
  rintro i m H ⟨rfl, hi, p⟩
  have q := hl i H hi p
  by_cases hlt : i < xs.length
  · have ix : xs.length - 1 - i < xs.length := by omega
    refine .inr ⟨⟨hlt, xs, xs[xs.length - 1 - i], q, List.getElem?_eq_getElem ix⟩, Pv (i + 1), fun H' p' => ⟨xs.length - (i + 1), by omega, rfl, hlt, p'⟩, fun x H' y => ?_⟩
    obtain ⟨e, y⟩ := y
    subst e
    refine hs i x _ ?_ p
    rw [List.getElem?_reverse hlt]
    exact y xs q
  · have e : i = xs.length := by omega
    subst e
    exact .inl ⟨Nat.le_refl _, hd H p⟩
end Kb

namespace Kb
open PySem PySem.Spec PyProof.Rows L2
/-! ### defs that print lists: they are called where no list is being printed -/
structure FnG (P : Program) (w : World) (K : PySem.W.Frag) (mg : Str → Option Value) (base : Heap) (k : Nat) (f : Addr) (fd : FuncData) (ps : List Str) (sp : Sp) : Prop where
  len : ∀ vs H Q E, sp vs H Q E → vs.length = ps.length
  run : ∀ (A : Around) (outer : List Env) (s : Shared) (H : Hp) (args : Args) (us : List Value) (vs : List V) (Q : VK) (E : XK), Room k A → A.guards = some [] → Env0 P w K mg base A outer s H → BindsTo s fd args (ps.zip us) → Vals vs us → sp vs H Q E →
    codeAny (model P w) A (.call (.ref f) args) (CR CX0 outer P w H s Q E) s
section
variable {P : Program} {w : World} {K : PySem.W.Frag} {mg : Str → Option Value} {base : Heap}
theorem okG {x qual : Str} {st : Stmt} {f : Addr} {fd : FuncData} {N ps : List Str} {k : Nat} {sp : Sp} (F : Fun K x qual st f fd) (S : FnScope N ps (defScope st)) (len : ∀ vs H Q E, sp vs H Q E → vs.length = ps.length)
    (hbody : ∀ (cdv : Value) (A : Around) (outer : List Env) (s : Shared) (H : Hp) (vs : List V) (Q : VK) (E : XK), Room k (A.deeper (envOfC qual (defScope st) s.heap.objs.size f cdv)) → A.guards = some [] → sp vs H Q E →
      ∃ t, PSs (cxOf CX0 P w K mg base N qual (defScope st) f cdv A outer s H E).nox (defBody st) t ∧ t { nx := fun _ H' => Q .non H', rt := Q } (start N vs) H) : FnG P w K mg base (k + 1) f fd ps sp := by
  obtain ⟨oc, od, kV, doc, pm, an, cdv, ct, osl, rfl, lk, code⟩ := F.ex
  refine ⟨len, fun A outer s H args us vs Q E room g e0 bnd r hs => ?_⟩
  have kin : K.In s.heap := e0.mod.kin.keeps fun b o z => (e0.bs b o z).1
  have nl : s.heap.NoLimit := e0.mod.nolimit.keeps fun b o z => (e0.bs b o z).1
  have hl := len _ _ _ _ hs
  have lc : ∀ y ∈ ps.zip us, (defScope st).names.lookup y.1 = some .local ∨ ((defScope st).names.lookup y.1 = some .cell ∧ ((cellsFrom (s.heap.objs.size + 1) (defScope st).names []).lookup y.1).isSome = true) := by
    rintro ⟨n, v⟩ hy
    exact (S.par n (List.of_mem_zip hy).1).imp id fun z => ⟨z, PySem.W.cellsFrom_some _ _ _ (.inl z)⟩
  refine codeAny_call_function room.depth (kin _ _ lk) rfl S.co S.gen rfl (PySem.W.codeRec_of kin code) (bnd _ _ _ _ (wpAny_newFunctionEnv_cells S.kind lc fun env ev s1 ic => ?_))
  subst ev
  refine ⟨nl.keeps ic.toInCall.keep, codeAny_func ?_⟩
  obtain ⟨t, ht, hq⟩ := hbody cdv A outer s H vs Q E (room.deeper _) g hs
  have I := inv_start (CX := CX0) (P := P) (E := E) S room.hd e0 hl r ic
  refine wpAny_mono (ht.nox.run [] s1 _ H _ I hq) (fun fl s2 z => ?_) fun _ _ z => z
  cases fl with
  | next =>
    obtain ⟨σ', H', J, y⟩ := z
    exact ⟨.non, H', J.os, J.bare, J.base, J.hok, rfl, y⟩
  | ret u =>
    obtain ⟨v, σ', H', J, rv, y⟩ := z
    exact ⟨v, H', J.os, J.bare, J.base, J.hok, rv, y⟩
  | brk =>
    obtain ⟨_, _, _, y⟩ := z
    exact y.elim
  | cont =>
    obtain ⟨_, _, _, y⟩ := z
    exact y.elim
structure DfG (P : Program) (w : World) (K : PySem.W.Frag) (mg : Str → Option Value) (base : Heap) (x : Str) (k : Nat) (ps : List Str) (sp : Sp) : Prop where
  ex : ∃ f fd, mg x = some (.ref f) ∧ PySem.W.keepIn K (.ref f) = true ∧ Binds K fd ps [] ∧ FnG P w K mg base k f fd ps sp
theorem FnG.lift {k k' : Nat} {f : Addr} {fd : FuncData} {ps : List Str} {sp : Sp} (F : FnG P w K mg base k f fd ps sp) (h : k ≤ k') : FnG P w K mg base k' f fd ps sp :=
  ⟨F.len, fun A outer s H args us vs Q E hr => F.run A outer s H args us vs Q E (hr.mono h)⟩
end
theorem pe_dg {X : Cx} {x : Str} {k k' : Nat} {ps : List Str} {sp : Sp} {p pos : Pos} {e : Expr} {es : List Expr} {t : TA} (D : DfG X.prog X.w X.K X.mg X.base x k ps sp) (hr : Room k' X.A) (g : X.A.guards = some []) (ha : PA X (e :: es) t) (hk : k ≤ k' := by decide) (hg : Gl X x := by rfl)
    (hdb : (x == ("__debug__" : Str)) = false := by decide) (he : starEach (e :: es) X.env = (false, eval e X.env) :: starEach es X.env := by rfl) (hpl : (backTo pos (starEach es X.env)).any (·.1) = false := by rfl) :
    PE X (.Call (.Name x p) (e :: es) [] pos) (tCall sp [] E0 t) := by
  obtain ⟨f, fd, hm, hkp, hb, F⟩ := D.ex
  refine ⟨fun pins s σ H Q I h => wpAny_Call_Name_kw (ld_glob I hg hm ?_ hdb)⟩
  refine PySem.W.callWith_K (h₀ := X.base) I.ok.mod.kin hkp (thn (ha.run pos pins s σ H _ I h) fun us s1 ⟨vs, H1, I1, r, q⟩ => ⟨I1.kIn, ?_⟩) he hpl
  have q' : sp vs H1 Q E0 := by
    rw [← List.append_nil vs]
    exact q
  have hl : (us ++ []).length = ps.length := by
    rw [List.append_nil, ← r.length]
    exact F.len _ _ _ _ q'
  have bd := hb s1 us I1.kIn hl
  rw [List.append_nil] at bd
  refine wpAny_call (codeAny_mono (F.run X.A X.stack s1 H1 ⟨us, []⟩ us vs Q E0 (hr.mono hk) g I1.env0 bd r q') fun y s2 z => ?_)
  cases y with
  | error er => exact z.elim
  | ok fl =>
    cases fl with
    | ret u => exact I1.after z
    | next => exact z.elim
    | brk => exact z.elim
    | cont => exact z.elim
/-! ### repr of data of any depth -/
theorem cr_reprD {X : Cx} (g : X.A.guards = some []) (hu : X.A.units + 64 < cLine) : CallR X (.builtin "repr") (fun xs H Q => ∃ (a : Addr) (d : PyData), xs = [.ref a] ∧ Dp X.K H (.ref a) d ∧ d.showable = true ∧ d.hasDict = false ∧ d.depth ≤ 60 ∧ d.shown.length ≤ sizeLine ∧ Q (.str d.shown) H) := by
  intro pins s σ H xs us Q I r h
  obtain ⟨a, d, rfl, hd, h1, h2, h3, h4, q⟩ := h
  rw [Vals.ref1 r]
  obtain ⟨as, hr⟩ := Dp.reads I d _ _ hd rfl
  exact PySem.repr_of_reads' hr h1 (fun z => by rw [h2] at z; cases z) g (by omega) (fun _ _ z => z) (fun h' u tk k => ⟨.str d.shown, H, I.kept (t' := tk) k, ⟨u, rfl⟩, q⟩) h4
/-! ### the law's own call -/
section
variable {P : Program} {w : World} {K : PySem.W.Frag} {mg mb : Str → Option Value}
theorem law_run {k : Nat} {fa a : Addr} {fd : FuncData} {x : Str} {sp : Sp} {s1 : Shared} {vs : List Value} {ns : List Int} (kin : K.In s1.heap) (hns : s1.heap.Ns mainGlobals mg) (hb : s1.heap.Ns builtinsNs mb) (hbb : ∀ x : Str, x ≠ "__name__" → mb x = bootBuiltins x)
    (hlim : s1.heap.NoLimit) (hg : s1.gens = #[]) (ha : s1.heap.get? a = some { cls := .type "list", data := .seq vs.toArray }) (hia : IntsAre vs ns) (hl : ns.length ≤ sizeLine) (room : Room k callerA)
    (F : ∀ base : Heap, K.In base → base.Ns mainGlobals mg → FnG P w K mg base k fa fd [x] sp) (bnd : ∀ (s : Shared) (u : Value), BindsTo s fd ⟨[u], []⟩ [(x, u)])
    (hsp : ∀ H : Hp, Only H → SqL K H a (ns.map V.int) → sp [.ref a] H (fun v _ => v = .bl true) E0) :
    codeAny (model P w) callerA (.call (.ref fa) ⟨[.ref a], []⟩) (fun r s' => r = .ok (.ret (.bool true)) ∧ OldK s1.heap s'.heap ∧ s'.os = s1.os ∧ AllBare s'.gens) s1 := by
  have go : ∀ H : Hp, Only H → SqL K H a (ns.map V.int) → HOk P w H s1.heap → (∀ b, b ≠ a → H b = none) → (H a = none ∨ K.lookup a = none) →
      codeAny (model P w) callerA (.call (.ref fa) ⟨[.ref a], []⟩) (fun r s' => r = .ok (.ret (.bool true)) ∧ OldK s1.heap s'.heap ∧ s'.os = s1.os ∧ AllBare s'.gens) s1 := by
    intro H only hS ok off aK
    have dct : ∀ {b : Addr} {o : Obj} {es : Array DictEntry} {ep : Nat}, s1.heap.get? b = some o → o.data = .dict es ep → H b = none := by
      intro b o es ep e d
      refine off b fun z => ?_
      subst z
      rw [ha] at e
      cases e
      cases (show Data.seq vs.toArray _ = Data.dict es ep from d)
    have nsOf : ∀ {b : Addr} {m : Str → Option Value}, s1.heap.Ns b m → (hidT s1.heap H).Ns b m := by
      rintro b m ⟨o, es, ep, e, d, r⟩
      exact ⟨o, es, ep, hidT_get e (dct e d), d, r⟩
    have kin2 : K.In (hidT s1.heap H) := by
      intro b o e
      refine hidT_get (kin b o e) ?_
      by_cases z : b = a
      · subst z
        rcases aK with y | y
        · exact y
        · rw [y] at e
          cases e
      · exact off b z
    have lim2 : (hidT s1.heap H).NoLimit := by
      obtain ⟨mc, y1, y2⟩ := hlim
      exact ⟨mc, nsOf y1, y2⟩
    have env : Env0 P w K mg (hidT s1.heap H) callerA [] s1 H :=
      { frames := rfl, mod := ⟨kin2, nsOf hns, ⟨mb, nsOf hb, hbb⟩, lim2⟩, bs := fun b o e => of_hidT e, bsz := Nat.le_of_eq (hidT_size _ _), funs := trivial, frf := fun b z => (by cases (show b ∈ ([] : List Addr) from z)), hok := ok, bare := .of_eq hg }
    refine codeAny_mono ((F _ kin2 (nsOf hns)).run callerA [] s1 H ⟨[.ref a], []⟩ [.ref a] [.ref a] _ _ room rfl env (bnd s1 (.ref a)) (.cons rfl .nil) (hsp H only hS)) fun r s2 z => ?_
    cases r with
    | error e => exact z.elim
    | ok fl =>
      cases fl with
      | next => exact z.elim
      | brk => exact z.elim
      | cont => exact z.elim
      | ret u =>
        obtain ⟨v, H2, os, bare, un, ok2, rv, y⟩ := z
        have y' : v = .bl true := y
        subst y'
        obtain rfl : u = Value.bool true := rv
        refine ⟨rfl, OldK.of_keep fun b o e => ?_, os, bare⟩
        rcases only b with n | ⟨ob, xs, n⟩
        · exact un.keep b o e n (fun q => by cases (show b ∈ ([] : List Addr) from q)) (by simp)
        · obtain ⟨g1, _⟩ := ok b _ n
          obtain ⟨g2, _⟩ := ok2 b _ (un.frzs b ob _ n)
          exact g2.trans (g1.symm.trans e)
  have rv : Vals (ns.map V.int) vs := vals_ints hia
  cases hk : K.lookup a with
  | some o =>
    have e := kin a o hk
    rw [ha] at e
    cases e
    refine go (fun _ => none) (fun _ => .inl rfl) (.inr ⟨_, vs.toArray, _, hk, rfl, rfl, rfl, ?_, by simpa using rv⟩) (fun b u z => by cases (show (none : Option HO) = some u from z)) (fun _ _ => rfl) (.inl rfl)
    rw [List.size_toArray, hia.length]
    exact hl
  | none =>
    have at_a : (fun b => if b = a then some (HO.frz { cls := .type "list", data := .seq vs.toArray } (.lst (ns.map V.int))) else none : Hp) a = some (.frz { cls := .type "list", data := .seq vs.toArray } (.lst (ns.map V.int))) := if_pos rfl
    refine go (fun b => if b = a then some (.frz { cls := .type "list", data := .seq vs.toArray } (.lst (ns.map V.int))) else none) (fun b => ?_) (.inl (.inr ⟨_, at_a⟩)) (fun b u z => ?_) (fun b z => if_neg z) (.inr hk)
    · by_cases z : b = a
      · exact .inr ⟨_, _, if_pos z⟩
      · exact .inl (if_neg z)
    · by_cases y : b = a
      · subst y
        cases at_a.symm.trans z
        exact ⟨ha, by rw [List.length_map]; exact hl, vs, _, rv, ha⟩
      · cases (if_neg y).symm.trans z
theorem walk_g {l : PySem.W.OpenLaw} {n k : Nat} {q : Program} {loose : List Str} {XP : (Str → Option Value) → Heap → Prop} {YP : World → Heap → Prop} {d : DefRec} {K : Params → PySem.W.Frag} {sp : World → Sp} {x : Str} (hn : l.most = some n) (hn2 : n ≤ sizeLine) (hdf : d.params.defaults = []) (room : Room k callerA)
    (hY : ∀ (w : World) (h : Heap), YP w h → (K w.params).In h)
    (F : ∀ (w : World) (mg : Str → Option Value) (fa : Addr) (h : Heap), (K w.params).In h → h.Ns mainGlobals mg → mg d.name = some (.ref fa) →
      ∃ fd : FuncData, (∀ (s : Shared) (u : Value), BindsTo s fd ⟨[u], []⟩ [(x, u)]) ∧ ∀ base : Heap, (K w.params).In base → base.Ns mainGlobals mg → FnG l.prog w (K w.params) mg base k fa fd [x] (sp w))
    (hsp : ∀ (w : World) (H : Hp) (a : Addr) (ns : List Int), ns.length ≤ n → Only H → SqL (K w.params) H a (ns.map V.int) → sp w [.ref a] H (fun v _ => v = .bl true) E0) :
    PySem.W.WalkO q loose XP YP l.row.toRowW d [] (fun f vs => PySem.call f vs) := by
  refine Att.attach_call hn hdf fun w s0 s1 mg mb fa o pm cd doc a vs ns G Y ho hd code hmg obj hia hlen gens => ?_
  have kin := hY w _ Y
  obtain ⟨fd, bnd, hF⟩ := F w mg fa _ kin G.T.g hmg
  exact law_run kin G.T.g G.T.b G.T.builtins G.T.nolimit gens obj hia (Nat.le_trans hlen hn2) room hF bnd fun H only hS => hsp w H a ns hlen only hS
end
end Kb

namespace Kb
open PySem PySem.Spec PyProof.Rows L2
/-! ### the mathematics of scans -/
def lo (s : Sc) : Int := if s.2 < s.1 then s.2 else s.1
def hi (s : Sc) : Int := if s.2 > s.1 then s.2 else s.1
def Nn (s : Sc) : Prop := 0 ≤ s.1 ∧ 0 ≤ s.2
def Apart (s t : Sc) : Prop := hi s < lo t ∨ hi t < lo s
structure Good (ss : List Sc) : Prop where
  nn : ∀ s ∈ ss, Nn s
  dis : ss.Pairwise Apart
  few : ss.length ≤ 1000
def spn (s : Sc) : Sc := (lo s, hi s)
theorem spn_le (s : Sc) : (spn s).1 ≤ (spn s).2 := by
  show lo s ≤ hi s
  unfold lo hi
  split <;> split <;> omega
theorem Good.next {ss zs : List Sc} (G : Good ss) (p : zs.Perm (ss.map spn)) (o : zs.Pairwise fun a b => a.1 ≤ b.1) {i : Nat} {x y : Sc} (hx : zs[i]? = some x) (hy : zs[i + 1]? = some y) : x.2 < y.1 := by
  have d1 : (ss.map spn).Pairwise fun a b => a.2 < b.1 ∨ b.2 < a.1 := List.pairwise_map.mpr (G.dis.imp fun h => h)
  have d2 : zs.Pairwise fun a b => a.2 < b.1 ∨ b.2 < a.1 := (p.pairwise_iff (R := fun a b : Sc => a.2 < b.1 ∨ b.2 < a.1) (fun {a b} h => h.symm)).mpr d1
  obtain ⟨l1, rfl⟩ := List.getElem?_eq_some_iff.mp hx
  obtain ⟨l2, rfl⟩ := List.getElem?_eq_some_iff.mp hy
  have a := List.pairwise_iff_getElem.mp d2 i (i + 1) l1 l2 (Nat.lt_succ_self i)
  have b := List.pairwise_iff_getElem.mp o i (i + 1) l1 l2 (Nat.lt_succ_self i)
  have w : ∀ z ∈ zs, z.1 ≤ z.2 := fun z hz => by
    obtain ⟨s, _, rfl⟩ := List.mem_map.mp (p.mem_iff.mp hz)
    exact spn_le s
  have c := w _ (List.getElem_mem l2)
  have d := w _ (List.getElem_mem l1)
  omega
def slen (s : Sc) : Int := (if s.2 - s.1 < 0 then -(s.2 - s.1) else s.2 - s.1) + 1
/-! ### promises -/
def spIsInteger : Sp := fun vs H Q _ => ∃ i : Int, vs = [.int i] ∧ RetV (.bl true) H Q
def spFromZero : Sp := fun vs H Q _ => ∃ i : Int, vs = [.int i] ∧ 0 ≤ i ∧ RetV (.bl true) H Q
def spIsScan : Sp := fun vs H Q _ => ∃ (v : V) (s : Sc), vs = [v] ∧ IsSc H v s ∧ Nn s ∧ RetV (.bl true) H Q
def spIsList : Sp := fun vs H Q _ => ∃ (a : Addr) (ss : List Sc), vs = [.ref a] ∧ Scs H a ss ∧ Good ss ∧ RetV (.bl true) H Q
def spCheckList : Sp := fun vs H Q _ => ∃ (a : Addr) (ss : List Sc), vs = [.ref a] ∧ Scs H a ss ∧ Good ss ∧ RetV .non H Q
def spCheckAddress : Sp := fun vs H Q _ => ∃ i : Int, vs = [.int i] ∧ 0 ≤ i ∧ RetV .non H Q
def spCheckIndex : Sp := fun vs H Q _ => ∃ i n : Int, vs = [.int i, .int n] ∧ 0 ≤ i ∧ i < n ∧ RetV .non H Q
/-! ### the addresses of scans, one by one -/
def stp (s : Sc) : Int := if s.1 ≤ s.2 then 1 else -1
def rd (s : Sc) : List Int := (List.range (slen s).toNat).map fun (m : Nat) => s.1 + (m : Int) * stp s
def rdL : List Sc → List Int
  | [] => []
  | s :: r => rd s ++ rdL r
def psum : List Sc → Int
  | [] => 0
  | s :: r => slen s + psum r
def absI (z : Int) : Int := if z < 0 then -z else z
def plc : List Sc → Int → Int → V
  | [], _, _ => .non
  | s :: r, acc, a => if lo s ≤ a ∧ a ≤ hi s then .int (acc + absI (a - s.1)) else plc r (acc + slen s) a
theorem slen_pos (s : Sc) : 1 ≤ slen s := by
  unfold slen
  split <;> omega
theorem rd_len (s : Sc) : (rd s).length = (slen s).toNat := by
  unfold rd
  rw [List.length_map, List.length_range]
theorem rd_get {s : Sc} {i : Nat} (h : i < (slen s).toNat) : (rd s)[i]? = some (if s.1 ≤ s.2 then s.1 + i else s.1 - i) := by
  unfold rd stp
  rw [List.getElem?_map, List.getElem?_range h]
  show some (s.1 + (i : Int) * (if s.1 ≤ s.2 then 1 else -1)) = some _
  congr 1
  split <;> omega
theorem slen_eq (s : Sc) : slen s = hi s - lo s + 1 := by
  unfold slen hi lo
  split <;> split <;> split <;> omega
theorem mem_rd {s : Sc} {a : Int} : a ∈ rd s ↔ lo s ≤ a ∧ a ≤ hi s := by
  constructor
  · intro h
    obtain ⟨i, hi⟩ := List.mem_iff_getElem?.mp h
    have hl : i < (slen s).toNat := by
      rw [← rd_len]
      exact (List.getElem?_eq_some_iff.mp hi).1
    rw [rd_get hl] at hi
    have e := Option.some.inj hi
    have z := slen_eq s
    have p := slen_pos s
    unfold lo Kb.hi at *
    revert e z
    split <;> split <;> split <;> intro e z <;> omega
  · rintro ⟨h1, h2⟩
    have z := slen_eq s
    have p := slen_pos s
    have hl : (if s.1 ≤ s.2 then a - s.1 else s.1 - a).toNat < (slen s).toNat := by
      unfold lo Kb.hi at *
      revert z h1 h2
      split <;> split <;> split <;> intros <;> omega
    refine List.mem_iff_getElem?.mpr ⟨_, (rd_get hl).trans ?_⟩
    congr 1
    unfold lo Kb.hi at *
    revert h1 h2
    split <;> split <;> split <;> intros <;> omega
theorem rdL_app (a b : List Sc) : rdL (a ++ b) = rdL a ++ rdL b := by
  induction a with
  | nil => rfl
  | cons s r ih =>
    show rd s ++ rdL (r ++ b) = (rd s ++ rdL r) ++ rdL b
    rw [ih, List.append_assoc]
theorem psum_app (a b : List Sc) : psum (a ++ b) = psum a + psum b := by
  induction a with
  | nil =>
    show psum b = 0 + psum b
    omega
  | cons s r ih =>
    show slen s + psum (r ++ b) = slen s + psum r + psum b
    rw [ih]
    omega
theorem rdL_len (ss : List Sc) : ((rdL ss).length : Int) = psum ss := by
  induction ss with
  | nil => rfl
  | cons s r ih =>
    show (((rd s ++ rdL r).length : Nat) : Int) = slen s + psum r
    rw [List.length_append, rd_len]
    have := slen_pos s
    omega
theorem drop_at {ss : List Sc} {j : Nat} {s : Sc} (h : ss[j]? = some s) : ss.drop j = s :: ss.drop (j + 1) := by
  obtain ⟨l, rfl⟩ := List.getElem?_eq_some_iff.mp h
  exact List.drop_eq_getElem_cons l
theorem psum_snoc {ss : List Sc} {j : Nat} {s : Sc} (h : ss[j]? = some s) : psum (ss.take (j + 1)) = psum (ss.take j) + slen s := by
  rw [List.take_add_one, h, psum_app]
  show _ + (slen s + 0) = _
  omega
theorem mem_rdL {ss : List Sc} {a : Int} : a ∈ rdL ss ↔ ∃ s ∈ ss, lo s ≤ a ∧ a ≤ hi s := by
  induction ss with
  | nil =>
    constructor
    · intro h
      cases h
    · rintro ⟨s, h, _⟩
      cases h
  | cons s r ih =>
    show a ∈ rd s ++ rdL r ↔ _
    rw [List.mem_append, mem_rd, ih]
    constructor
    · rintro (h | ⟨t, ht, h⟩)
      · exact ⟨s, List.mem_cons_self, h⟩
      · exact ⟨t, List.mem_cons_of_mem _ ht, h⟩
    · rintro ⟨t, ht, h⟩
      rcases List.mem_cons.mp ht with e | e
      · subst e
        exact .inl h
      · exact .inr ⟨t, e, h⟩
theorem plc_at : ∀ {ss : List Sc} (acc : Int) {j : Nat} {a : Int}, ss.Pairwise Apart → (rdL ss)[j]? = some a → plc ss acc a = .int (acc + j)
  | [], acc, j, a, _, h => by simp [rdL] at h
  | s :: r, acc, j, a, d, h => by
    have h' : (rd s ++ rdL r)[j]? = some a := h
    have p := slen_pos s
    obtain ⟨d1, d2⟩ := List.pairwise_cons.mp d
    show (if lo s ≤ a ∧ a ≤ hi s then V.int (acc + absI (a - s.1)) else plc r (acc + slen s) a) = _
    by_cases hj : j < (rd s).length
    · rw [List.getElem?_append_left hj] at h'
      have m := mem_rd.mp (List.mem_of_getElem? h')
      rw [if_pos m]
      rw [rd_get (by rw [← rd_len]; exact hj)] at h'
      have e := Option.some.inj h'
      congr 2
      unfold absI
      revert e
      split <;> split <;> intro e <;> omega
    · rw [List.getElem?_append_right (by omega)] at h'
      have m := mem_rdL.mp (List.mem_of_getElem? h')
      obtain ⟨t, ht, m1, m2⟩ := m
      have ap := d1 t ht
      rw [if_neg (by unfold Apart at ap; omega), plc_at (acc + slen s) d2 h']
      congr 1
      rw [rd_len] at hj ⊢
      omega
theorem plc_no : ∀ {ss : List Sc} (acc : Int) {a : Int}, a ∉ rdL ss → plc ss acc a = .non
  | [], acc, a, _ => rfl
  | s :: r, acc, a, h => by
    have h' : a ∉ rd s ++ rdL r := h
    rw [List.mem_append, mem_rd] at h'
    show (if lo s ≤ a ∧ a ≤ hi s then V.int (acc + absI (a - s.1)) else plc r (acc + slen s) a) = _
    rw [if_neg (fun z => h' (.inl z)), plc_no _ fun z => h' (.inr z)]
/-! ### promises -/
def spScanLength : Sp := fun vs H Q _ => ∃ (v : V) (s : Sc), vs = [v] ∧ IsSc H v s ∧ RetV (.int (slen s)) H Q
def spAddressIn : Sp := fun vs H Q _ => ∃ (v : V) (s : Sc) (p : Int), vs = [v, .int p] ∧ IsSc H v s ∧ RetV (.int (if s.1 ≤ s.2 then s.1 + p else s.1 - p)) H Q
def spPlaceIn : Sp := fun vs H Q _ => ∃ (v : V) (s : Sc) (a : Int), vs = [v, .int a] ∧ IsSc H v s ∧ RetV (if lo s ≤ a ∧ a ≤ hi s then .int (absI (a - s.1)) else .non) H Q
def spCount : Sp := fun vs H Q _ => ∃ (a : Addr) (ss : List Sc), vs = [.ref a] ∧ Scs H a ss ∧ Good ss ∧ RetV (.int (psum ss)) H Q
def spPlaceOf : Sp := fun vs H Q _ => ∃ (a : Addr) (ss : List Sc) (x : Int), vs = [.ref a, .int x] ∧ Scs H a ss ∧ Good ss ∧ 0 ≤ x ∧ RetV (plc ss 0 x) H Q
def spNth : Sp := fun vs H Q _ => ∃ (a : Addr) (ss : List Sc) (k : Nat) (x : Int), vs = [.ref a, .int k] ∧ Scs H a ss ∧ Good ss ∧ (rdL ss)[k]? = some x ∧ RetV (.int x) H Q
/-! ### data of depth two -/
def pdS (s : Sc) : PyData := .tuple [.int s.1, .int s.2]
def pdL (ss : List Sc) : PyData := .list (ss.map pdS)
def pdI (ns : List Int) : PyData := .list (ns.map .int)
theorem shaped_L (ss : List Sc) : SeqAt.shaped (pdL ss) = true := by
  have h1 : PyData.canLayAll0 (ss.map pdS) = true := by
    induction ss with
    | nil => rfl
    | cons s r ih =>
      show (PyData.canLay0 (pdS s) && PyData.canLayAll0 (r.map pdS)) = true
      rw [ih]
      rfl
  have h2 : PyData.depthAll (ss.map pdS) ≤ 1 := by
    induction ss with
    | nil => exact Nat.zero_le _
    | cons s r ih =>
      show max (PyData.depth (pdS s)) (PyData.depthAll (r.map pdS)) ≤ 1
      have : PyData.depth (pdS s) = 1 := rfl
      have := ih (by
        have z : (PyData.canLay0 (pdS s) && PyData.canLayAll0 (r.map pdS)) = true := h1
        exact (Bool.and_eq_true_iff.mp z).2)
      omega
  show (PyData.canLayAll0 (ss.map pdS) && decide (PyData.depthAll (ss.map pdS) + 1 ≤ 64)) = true
  rw [h1, decide_eq_true (by omega)]
  rfl
theorem shaped_I (ns : List Int) : SeqAt.shaped (pdI ns) = true := by
  have h1 : PyData.canLayAll0 (ns.map PyData.int) = true := by
    induction ns with
    | nil => rfl
    | cons s r ih =>
      show (true && PyData.canLayAll0 (r.map PyData.int)) = true
      rw [ih]
      rfl
  have h2 : PyData.depthAll (ns.map PyData.int) = 0 := by
    clear h1
    induction ns with
    | nil => rfl
    | cons s r ih =>
      show max 0 (PyData.depthAll (r.map PyData.int)) = 0
      omega
  show (PyData.canLayAll0 (ns.map PyData.int) && decide (PyData.depthAll (ns.map PyData.int) + 1 ≤ 64)) = true
  rw [h1, h2]
  rfl
theorem eqv_S (s t : Sc) : PyData.eqv (pdS s) (pdS t) = decide (s = t) := by
  obtain ⟨a, b⟩ := s
  obtain ⟨c, d⟩ := t
  show ((a == c) && ((b == d) && true)) = _
  rw [Bool.eq_iff_iff]
  simp
theorem eqv_L : ∀ ss ts : List Sc, PyData.eqv (pdL ss) (pdL ts) = decide (ss = ts)
  | [], [] => rfl
  | [], _ :: _ => rfl
  | _ :: _, [] => rfl
  | s :: r, t :: q => by
    show (PyData.eqv (pdS s) (pdS t) && PyData.eqv (pdL r) (pdL q)) = _
    rw [eqv_S, eqv_L r q, Bool.eq_iff_iff]
    simp
theorem eqv_I : ∀ ns ms : List Int, PyData.eqv (pdI ns) (pdI ms) = decide (ns = ms)
  | [], [] => rfl
  | [], _ :: _ => rfl
  | _ :: _, [] => rfl
  | s :: r, t :: q => by
    show ((s == t) && PyData.eqv (pdI r) (pdI q)) = _
    rw [eqv_I r q, Bool.eq_iff_iff]
    simp
theorem Scs.dp {K : PySem.W.Frag} {H : Hp} {a : Addr} {ss : List Sc} (h : Scs H a ss) : Dp K H (.ref a) (pdL ss) := by
  obtain ⟨vs, ha, pa⟩ := h
  have all : ∀ {vs : List V} {ss : List Sc}, Paired (IsSc H) vs ss → DpAll K H vs (ss.map pdS) := by
    intro vs ss p
    induction p with
    | nil => exact .nil
    | cons h t ih =>
      obtain ⟨t0, rfl, ht⟩ := h
      exact .cons (.tup (SqT.of ht) (.cons (.int _) (.cons (.int _) .nil))) ih
  exact .lst (SqL.of ha) (all pa)
theorem dp_ints {K : PySem.W.Frag} {H : Hp} {a : Addr} {ns : List Int} (h : H a = some (.lst (ns.map V.int))) : Dp K H (.ref a) (pdI ns) := by
  have all : ∀ ns : List Int, DpAll K H (ns.map V.int) (ns.map PyData.int) := by
    intro ns
    induction ns with
    | nil => exact .nil
    | cons n r ih => exact .cons (.int n) ih
  exact .lst (SqL.of h) (all ns)
/-! ### promises -/
def RetL (xs : List V) (H : Hp) (Q : VK) : Prop := ∀ p H', H p = none → Ex H H' → H' p = some (.lst xs) → Q (.ref p) H'
def spBag : Sp := fun vs H Q _ => ∃ c : Int, vs = [.int c] ∧ ∀ b H', H b = none → Ex H H' → H' b = some (bagO b) → Q (.ref b) H'
def spBag0 : Sp := fun vs H Q _ => ∃ c : Int, vs = [.int c] ∧ ∀ b H' x y z, H b = none → Ex H H' → H' b = some (.lst [.int x, .int y, .int z]) → Q (.ref b) H'
def spPick : Sp := fun vs H Q _ => ∃ (b : Addr) (many : Int), vs = [.ref b, .int many] ∧ H b = some (bagO b) ∧ 1 ≤ many ∧ many ≤ 10 ^ 100 ∧ ∀ n H', 0 ≤ n → n < many → Ex H H' → Q (.int n) H'
def spPick0 : Sp := fun vs H Q _ => ∃ (b : Addr) (many x c t : Int), vs = [.ref b, .int many] ∧ H b = some (.lst [.int x, .int c, .int t]) ∧ 1 ≤ many ∧ many ≤ 10 ^ 100 ∧
  ∀ n H' x' t', 0 ≤ n → n < many → (∀ a o, a ≠ b → H a = some o → H' a = some o) → H' b = some (.lst [.int x', .int c, .int t']) → Q (.int n) H'
def spReads : Sp := fun vs H Q _ => ∃ (a : Addr) (ss : List Sc), vs = [.ref a] ∧ Scs H a ss ∧ (∀ s ∈ ss, Nn s ∧ s.1 ≤ 10000 ∧ s.2 ≤ 10000) ∧ ss.length ≤ 1000 ∧ RetL ((rdL ss).map V.int) H Q
def spMixed : Sp := fun vs H Q _ => ∃ (b a : Addr) (ss : List Sc), vs = [.ref b, .ref a] ∧ H b = some (bagO b) ∧ Scs H a ss ∧ ss.length ≤ 1000 ∧ ∀ p H' ts, H p = none → Ex H H' → Scs H' p ts → ts.Perm ss → Q (.ref p) H'
def spList : Sp := fun vs H Q _ => ∃ (b : Addr) (many wide : Int), vs = [.ref b, .int many, .int wide] ∧ H b = some (bagO b) ∧ 1 ≤ many ∧ many ≤ 50 ∧ 1 ≤ wide ∧ wide ≤ 10 ^ 100 ∧
  ∀ p H' ss, H p = none → Ex H H' → Scs H' p ss → Good ss → (∀ s ∈ ss, s.1 < wide ∧ s.2 < wide) → ss.length ≤ 60 → Q (.ref p) H'
theorem nox_w {CX : CXT} {P : Program} {w : World} {K : PySem.W.Frag} {mg : Str → Option Value} {base : Heap} {N : List Str} {q : Str} {sc : Scope} {f : Addr} {cd : Value} {A : Around} {outer : List Env} {s : Shared} {H : Hp} {E : XK} : (cxOf CX P w K mg base N q sc f cd A outer s H E).nox.w = w := rfl
theorem ixq {i : Int} {n : Nat} (h0 : 0 ≤ i) (h1 : i < n) : seqIndex? i n = some i.toNat := seqIndex_of h0 h1
theorem perm_pick {α : Type} {l f ss : List α} {i : Nat} {s : α} (h : (l ++ f).Perm ss) (e : l[i]? = some s) : (l.eraseIdx i ++ (f ++ [s])).Perm ss := by
  obtain ⟨hl, rfl⟩ := List.getElem?_eq_some_iff.mp e
  refine List.Perm.trans ?_ h
  have h1 : (l.eraseIdx i ++ (f ++ [l[i]])).Perm ([l[i]] ++ (l.eraseIdx i ++ f)) := by
    rw [← List.append_assoc]
    exact List.perm_append_comm
  refine h1.trans ?_
  rw [← List.append_assoc]
  refine List.Perm.append_right f ?_
  rw [List.eraseIdx_eq_take_drop_succ]
  have h2 : l = l.take i ++ (l[i] :: l.drop (i + 1)) := by
    rw [← List.drop_eq_getElem_cons hl, List.take_append_drop]
  refine List.Perm.trans ?_ (List.Perm.of_eq h2.symm)
  show (l[i] :: (l.take i ++ l.drop (i + 1))).Perm (l.take i ++ l[i] :: l.drop (i + 1))
  exact List.perm_middle.symm
theorem Good.perm {fs ts : List Sc} (n : ∀ s ∈ fs, 0 ≤ lo s) (d : fs.Pairwise fun s t => hi s < lo t) (few : fs.length ≤ 1000) (p : ts.Perm fs) : Good ts := by
  refine ⟨fun s hs => ?_, (p.pairwise_iff (R := Apart) (fun {a b} h => h.symm)).mpr (d.imp fun h => .inl h), by rw [p.length_eq]; exact few⟩
  have z := n s (p.mem_iff.mp hs)
  unfold lo at z
  unfold Nn
  revert z
  split <;> intro z <;> omega
theorem top_of {s : Sc} {w : Int} (h : hi s < w) : s.1 < w ∧ s.2 < w := by
  unfold hi at h
  revert h
  split <;> intro h <;> omega
theorem first_at {a : Int} : ∀ {l : List Int}, a ∈ l → ∃ j : Nat, l[j]? = some a ∧ ∀ m : Nat, m < j → l[m]? ≠ some a
  | [], h => by cases h
  | b :: r, h => by
    by_cases e : b = a
    · exact ⟨0, by rw [e]; rfl, fun m hm => absurd hm (Nat.not_lt_zero m)⟩
    · have h' : a ∈ r := by
        rcases List.mem_cons.mp h with z | z
        · exact absurd z.symm e
        · exact z
      obtain ⟨j, h1, h2⟩ := first_at h'
      refine ⟨j + 1, h1, fun m hm => ?_⟩
      cases m with
      | zero =>
        intro z
        exact e (Option.some.inj z)
      | succ m => exact h2 m (by omega)
theorem flat_ints (ns : List Int) : (ns.map V.int).all flatV = true := by
  induction ns with
  | nil => rfl
  | cons n r ih => exact ih
theorem inV_ints (ns : List Int) (a : Int) : inV (.int a) (ns.map V.int) = decide (a ∈ ns) := by
  induction ns with
  | nil => rfl
  | cons n r ih =>
    show ((n == a) || inV (.int a) (r.map V.int)) = _
    rw [ih, Bool.eq_iff_iff, Bool.or_eq_true, beq_iff_eq, decide_eq_true_eq, decide_eq_true_eq, List.mem_cons]
    exact ⟨fun h => h.imp Eq.symm id, fun h => h.imp Eq.symm id⟩
theorem iteSame {x : V} {A B : Prop} (h : B) : if (!decide (x = x)) = true then A else B := by
  rw [decide_eq_true rfl]
  exact iteF h
theorem Good.rev {ss : List Sc} (G : Good ss) : Good ss.reverse := by
  refine ⟨fun s hs => G.nn s (List.mem_reverse.mp hs), ?_, by rw [List.length_reverse]; exact G.few⟩
  exact ((List.reverse_perm ss).pairwise_iff (R := Apart) (fun {a b} h => h.symm)).mpr G.dis
def Small (ss : List Sc) : Prop := Good ss ∧ ∀ s ∈ ss, s.1 < 40 ∧ s.2 < 40
theorem Small.rev {ss : List Sc} (h : Small ss) : Small ss.reverse := ⟨h.1.rev, fun s hs => h.2 s (List.mem_reverse.mp hs)⟩
theorem Small.bd {ss : List Sc} (h : Small ss) : ∀ s ∈ ss, Nn s ∧ s.1 ≤ 10000 ∧ s.2 ≤ 10000 := fun s hs => ⟨h.1.nn s hs, by have := h.2 s hs; omega, by have := h.2 s hs; omega⟩
theorem Small.len {ss : List Sc} (h : Small ss) : (rdL ss).length ≤ 1000 * 40 := by
  have few := h.1.few
  have g : ∀ l : List Sc, (∀ s ∈ l, s ∈ ss) → (rdL l).length ≤ l.length * 40 := by
    intro l
    induction l with
    | nil => intro _; exact Nat.le_refl _
    | cons s r ih =>
      intro hm
      have z := h.2 s (hm s List.mem_cons_self)
      have y := h.1.nn s (hm s List.mem_cons_self)
      have i := ih fun t ht => hm t (List.mem_cons_of_mem _ ht)
      show (rd s ++ rdL r).length ≤ (r.length + 1) * 40
      rw [List.length_append, rd_len]
      have sl : slen s ≤ 40 := by
        obtain ⟨y1, y2⟩ := y
        unfold slen
        split <;> omega
      omega
  have := g ss fun _ h => h
  have := Nat.mul_le_mul_right 40 few
  omega
def spRight : Sp := fun vs H Q _ => ∃ (a : Addr) (ss : List Sc), vs = [.ref a] ∧ Scs H a ss ∧ Small ss ∧ RetV (.bl true) H Q
def spLaw (K : PySem.W.Frag) : Sp := fun vs H Q _ => ∃ (a : Addr) (ns : List Int), vs = [.ref a] ∧ SqL K H a (ns.map V.int) ∧ ns.length ≤ 63 ∧ ∀ H', Q (.bl true) H'
theorem Good.nil : Good [] := ⟨fun s hs => (by cases hs), List.Pairwise.nil, Nat.zero_le _⟩
theorem Good.one {z : Int} (h : 0 ≤ z) : Good [(z, z)] := ⟨fun s hs => by
  rw [List.mem_singleton.mp hs]
  exact ⟨h, h⟩, List.pairwise_singleton _ _, by show 1 ≤ 1000; decide⟩
theorem plc_one (z : Int) : plc [(z, z)] 0 z = .int 0 := by
  have e : (rdL [(z, z)])[0]? = some z := by
    show (rd (z, z) ++ [])[0]? = some z
    rw [List.append_nil]
    have l : slen (z, z) = 1 := by
      show (if z - z < 0 then -(z - z) else z - z) + 1 = 1
      split <;> omega
    rw [rd_get (by rw [l]; decide)]
    show some (if z ≤ z then z + ((0 : Nat) : Int) else z - ((0 : Nat) : Int)) = some z
    rw [if_pos (Int.le_refl z)]
    congr 1
    omega
  exact plc_at 0 (List.pairwise_singleton _ _) e
theorem pick2 {x y n : Int} {p : Int → Prop} (h0 : 0 ≤ n) (h1 : n < 2) (hx : p x) (hy : p y) : ∃ m, atI [V.int x, V.int y] n = some (.int m) ∧ p m := by
  have c : n = 0 ∨ n = 1 := by omega
  rcases c with rfl | rfl
  · exact ⟨x, rfl, hx⟩
  · exact ⟨y, rfl, hy⟩
end Kb

namespace Kb
open PySem PySem.Spec PyProof.Rows L2
/-! ### scans joined -/
def jstep (acc : List Sc) (s : Sc) : List Sc := match acc.getLast? with
  | some t => if absI (s.1 - t.2) = 1 then acc.dropLast ++ [(t.1, s.2)] else acc ++ [s]
  | none => [s]
def jn (ss : List Sc) : List Sc := ss.foldl jstep []
theorem jstep_nil (s : Sc) : jstep [] s = [s] := rfl
theorem jstep_snoc (pre : List Sc) (t s : Sc) : jstep (pre ++ [t]) s = if absI (s.1 - t.2) = 1 then pre ++ [(t.1, s.2)] else pre ++ [t] ++ [s] := by
  unfold jstep
  rw [List.getLast?_concat, List.dropLast_concat]
theorem jn_snoc (ss : List Sc) (s : Sc) : jn (ss ++ [s]) = jstep (jn ss) s := by
  unfold jn
  rw [List.foldl_append]
  rfl
def dup (ns : List Int) : List Sc := ns.map fun a => (a, a)
def al (x c : Int) (n : Nat) : List Int := (List.range n).map fun (m : Nat) => x + (m : Int) * c
theorem jstep_shape (acc : List Sc) (x : Int) : ∃ (pre : List Sc) (u : Int), ∀ z, jstep acc (x, z) = pre ++ [(u, z)] := by
  rcases List.eq_nil_or_concat acc with e | ⟨pre, t, e⟩
  · subst e
    exact ⟨[], x, fun z => rfl⟩
  · rw [List.concat_eq_append] at e
    subst e
    by_cases h : absI (x - t.2) = 1
    · exact ⟨pre, t.1, fun z => by rw [jstep_snoc, if_pos h]⟩
    · exact ⟨pre ++ [t], x, fun z => by rw [jstep_snoc, if_neg h]⟩
theorem fold_al (acc : List Sc) (x c : Int) (hc : c = 1 ∨ c = -1) : ∀ n : Nat, (dup (al x c (n + 1))).foldl jstep acc = jstep acc (x, x + (n : Int) * c)
  | 0 => by
    show jstep acc (x + ((0 : Nat) : Int) * c, x + ((0 : Nat) : Int) * c) = _
    have e : x + ((0 : Nat) : Int) * c = x := by simp
    rw [e]
  | n + 1 => by
    have e : al x c (n + 1 + 1) = al x c (n + 1) ++ [x + ((n + 1 : Nat) : Int) * c] := by
      unfold al
      rw [List.range_succ, List.map_append]
      rfl
    rw [e]
    unfold dup
    rw [List.map_append, List.foldl_append]
    have ih := fold_al acc x c hc n
    unfold dup at ih
    rw [ih]
    obtain ⟨pre, u, h⟩ := jstep_shape acc x
    rw [h, h]
    show jstep (pre ++ [(u, x + (n : Int) * c)]) (x + ((n + 1 : Nat) : Int) * c, x + ((n + 1 : Nat) : Int) * c) = _
    rw [jstep_snoc]
    have e2 : x + ((n + 1 : Nat) : Int) * c - (x + (n : Int) * c) = c := by
      rw [Int.natCast_add, Int.add_mul]
      show x + ((n : Int) * c + ((1 : Nat) : Int) * c) - (x + (n : Int) * c) = c
      rw [show ((1 : Nat) : Int) * c = c from Int.one_mul c]
      omega
    rw [if_pos]
    show absI (x + ((n + 1 : Nat) : Int) * c - (x + (n : Int) * c)) = 1
    rw [e2]
    rcases hc with rfl | rfl <;> rfl
theorem fold_rd (acc : List Sc) (s : Sc) : (dup (rd s)).foldl jstep acc = jstep acc s := by
  have p := slen_pos s
  obtain ⟨n, hn⟩ : ∃ n : Nat, (slen s).toNat = n + 1 := ⟨(slen s).toNat - 1, by omega⟩
  have e : rd s = al s.1 (stp s) (n + 1) := by
    unfold rd al
    rw [hn]
  have hc : stp s = 1 ∨ stp s = -1 := by
    unfold stp
    split
    · exact .inl rfl
    · exact .inr rfl
  rw [e, fold_al acc _ _ hc]
  congr 1
  have z := hn
  unfold slen at z
  unfold stp
  refine Prod.ext rfl ?_
  show s.1 + (n : Int) * (if s.1 ≤ s.2 then 1 else -1) = s.2
  revert z
  split <;> split <;> intro z <;> omega
theorem fold_rdL : ∀ (ss : List Sc) (acc : List Sc), (dup (rdL ss)).foldl jstep acc = ss.foldl jstep acc
  | [], acc => rfl
  | s :: r, acc => by
    show ((rd s ++ rdL r).map fun a => (a, a)).foldl jstep acc = (r.foldl jstep (jstep acc s))
    rw [List.map_append, List.foldl_append]
    have h1 := fold_rd acc s
    have h2 := fold_rdL r (jstep acc s)
    unfold dup at h1 h2
    rw [h1, h2]
theorem jn_rdL (ss : List Sc) : jn (dup (rdL ss)) = jn ss := fold_rdL ss []
def swp (s : Sc) : Sc := (s.2, s.1)
theorem rd_swp (s : Sc) : rd (swp s) = (rd s).reverse := by
  have l : slen (swp s) = slen s := by
    unfold slen swp
    show (if s.1 - s.2 < 0 then -(s.1 - s.2) else s.1 - s.2) + 1 = _
    split <;> split <;> omega
  refine List.ext_getElem? fun i => ?_
  by_cases h : i < (slen s).toNat
  · rw [rd_get (by rw [l]; exact h), List.getElem?_reverse (by rw [rd_len]; exact h), rd_len, rd_get (by omega)]
    congr 1
    have z2 : (((slen s).toNat : Nat) : Int) = (if s.2 - s.1 < 0 then -(s.2 - s.1) else s.2 - s.1) + 1 := by
      have := slen_pos s
      show _ = slen s
      omega
    generalize (slen s).toNat = n at h z2 ⊢
    show (if s.2 ≤ s.1 then s.2 + (i : Int) else s.2 - (i : Int)) = _
    revert z2
    split <;> split <;> split <;> intro z2 <;> omega
  · rw [List.getElem?_eq_none (by rw [rd_len, l]; omega), List.getElem?_eq_none (by rw [List.length_reverse, rd_len]; omega)]
theorem rdL_rev : ∀ ss : List Sc, rdL (ss.reverse.map swp) = (rdL ss).reverse
  | [] => rfl
  | s :: r => by
    rw [List.reverse_cons, List.map_append, rdL_app, rdL_rev r]
    show (rdL r).reverse ++ (rd (swp s) ++ []) = (rd s ++ rdL r).reverse
    rw [List.append_nil, rd_swp, List.reverse_append]
theorem jn_len : ∀ (ss : List Sc), (jn ss).length ≤ ss.length := by
  have key : ∀ (ss acc : List Sc), (ss.foldl jstep acc).length ≤ acc.length + ss.length := by
    intro ss
    induction ss with
    | nil => intro acc; exact Nat.le_refl _
    | cons s r ih =>
      intro acc
      have h := ih (jstep acc s)
      have h2 : (jstep acc s).length ≤ acc.length + 1 := by
        rcases List.eq_nil_or_concat acc with e | ⟨pre, t, e⟩
        · subst e
          exact Nat.le_refl _
        · rw [List.concat_eq_append] at e
          subst e
          rw [jstep_snoc]
          split
          · rw [List.length_append, List.length_append]
            show pre.length + 1 ≤ pre.length + 1 + 1
            omega
          · rw [List.length_append]
            exact Nat.le_refl _
      show (r.foldl jstep (jstep acc s)).length ≤ acc.length + (r.length + 1)
      omega
  intro ss
  have := key ss []
  simpa [jn] using this
/-- what a joined list's ends are -/
def Cd (B : Int) (ss : List Sc) : Prop := ∀ s ∈ ss, 0 ≤ s.1 ∧ s.1 < B ∧ 0 ≤ s.2 ∧ s.2 < B
theorem jn_cd {B : Int} {ss : List Sc} (h : Cd B ss) : Cd B (jn ss) := by
  have key : ∀ (ss acc : List Sc), Cd B ss → Cd B acc → Cd B (ss.foldl jstep acc) := by
    intro ss
    induction ss with
    | nil => intro acc _ ha; exact ha
    | cons s r ih =>
      intro acc hs ha
      refine ih _ (fun t ht => hs t (List.mem_cons_of_mem _ ht)) ?_
      have hs1 := hs s List.mem_cons_self
      rcases List.eq_nil_or_concat acc with e | ⟨pre, t, e⟩
      · subst e
        intro t ht
        rw [List.mem_singleton.mp ht]
        exact hs1
      · rw [List.concat_eq_append] at e
        subst e
        have ht1 := ha t (List.mem_append_right _ (List.mem_singleton.mpr rfl))
        rw [jstep_snoc]
        split
        · intro u hu
          rcases List.mem_append.mp hu with hu | hu
          · exact ha u (List.mem_append_left _ hu)
          · rw [List.mem_singleton.mp hu]
            exact ⟨ht1.1, ht1.2.1, hs1.2.2.1, hs1.2.2.2⟩
        · intro u hu
          rcases List.mem_append.mp hu with hu | hu
          · exact ha u hu
          · rw [List.mem_singleton.mp hu]
            exact hs1
  exact key ss [] h fun _ hu => by cases hu
/-! ### joined lists as they are printed -/
theorem short_int {z : Int} (h0 : 0 ≤ z) (h : z < 60) : (PyData.shown (.int z)).length ≤ 100 := by
  have e := PyProof.Rows.len_str_of_int z
  show (Str.ofString (toString z)).length ≤ 100
  omega
theorem show_L {ss : List Sc} {B : Nat} (hB : 100 ≤ B) (h : Cd 60 ss) : (pdL ss).showable = true ∧ (pdL ss).hasDict = false ∧ (pdL ss).leavesShort B = true ∧ (pdL ss).bulk ≤ 10 * ss.length + 10 := by
  have l2 : ∀ z : Int, 0 ≤ z → z < 60 → decide (z.natAbs.log2 < 1920) = true := fun z a b => decide_eq_true (Nat.lt_trans (PySem.Flt.log2_lt_of (k := 6) (by decide) (by omega)) (by decide))
  have key : ∀ l : List Sc, Cd 60 l → PyData.showableAll (l.map pdS) = true ∧ PyData.hasDictAll (l.map pdS) = false ∧ PyData.leavesShortAll B (l.map pdS) = true ∧ PyData.bulkAll (l.map pdS) ≤ 10 * l.length := by
    intro l
    induction l with
    | nil => intro _; exact ⟨rfl, rfl, rfl, Nat.zero_le _⟩
    | cons s r ih =>
      intro hl
      obtain ⟨i1, i2, i3, i4⟩ := ih fun t ht => hl t (List.mem_cons_of_mem _ ht)
      obtain ⟨a1, a2, a3, a4⟩ := hl s List.mem_cons_self
      refine ⟨?_, ?_, ?_, ?_⟩
      · show ((decide (s.1.natAbs.log2 < 1920) && (decide (s.2.natAbs.log2 < 1920) && true)) && PyData.showableAll (r.map pdS)) = true
        rw [l2 _ a1 a2, l2 _ a3 a4, i1]
        rfl
      · show ((false || (false || false)) || PyData.hasDictAll (r.map pdS)) = false
        rw [i2]
        rfl
      · show ((decide ((PyData.shown (.int s.1)).length ≤ B) && (decide ((PyData.shown (.int s.2)).length ≤ B) && true)) && PyData.leavesShortAll B (r.map pdS)) = true
        rw [decide_eq_true (Nat.le_trans (short_int a1 a2) hB), decide_eq_true (Nat.le_trans (short_int a3 a4) hB), i3]
        rfl
      · simp only [List.map_cons, PyData.bulkAll, pdS, PyData.bulk, List.length_cons]
        omega
  obtain ⟨i1, i2, i3, i4⟩ := key ss h
  refine ⟨i1, i2, i3, ?_⟩
  simp only [pdL, PyData.bulk]
  omega
/-! ### a joined list stays so -/
def Loose (l : List Sc) : Prop := ∀ (i : Nat) (a b : Sc), l[i]? = some a → l[i + 1]? = some b → absI (b.1 - a.2) ≠ 1
theorem snoc_at {α : Type} {pre : List α} {t b : α} {i : Nat} (h : (pre ++ [t])[i]? = some b) : (i < pre.length ∧ pre[i]? = some b) ∨ (i = pre.length ∧ b = t) := by
  by_cases z : i < pre.length
  · rw [List.getElem?_append_left z] at h
    exact .inl ⟨z, h⟩
  · rw [List.getElem?_append_right (by omega)] at h
    have y : i - pre.length = 0 := by
      have := (List.getElem?_eq_some_iff.mp h).1
      rw [List.length_singleton] at this
      omega
    rw [y] at h
    exact .inr ⟨by omega, (Option.some.inj h).symm⟩
theorem Loose.init {pre : List Sc} {t : Sc} (h : Loose (pre ++ [t])) : Loose pre := fun i a b ha hb => by
  have l1 := (List.getElem?_eq_some_iff.mp ha).1
  have l2 := (List.getElem?_eq_some_iff.mp hb).1
  exact h i a b (by rw [List.getElem?_append_left l1]; exact ha) (by rw [List.getElem?_append_left l2]; exact hb)
theorem loose_step {acc : List Sc} (h : Loose acc) (s : Sc) : Loose (jstep acc s) := by
  rcases List.eq_nil_or_concat acc with e | ⟨pre, t, e⟩
  · subst e
    intro i a b _ hb
    have := (List.getElem?_eq_some_iff.mp hb).1
    rw [jstep_nil, List.length_singleton] at this
    omega
  · rw [List.concat_eq_append] at e
    subst e
    rw [jstep_snoc]
    by_cases hc : absI (s.1 - t.2) = 1
    · rw [if_pos hc]
      intro i a b ha hb
      rcases snoc_at hb with ⟨z, hb'⟩ | ⟨z, rfl⟩
      · refine h i a b ?_ (by rw [List.getElem?_append_left z]; exact hb')
        rw [List.getElem?_append_left (by omega)] at ha ⊢
        exact ha
      · refine h i a t ?_ (by rw [z, List.getElem?_append_right (Nat.le_refl _), Nat.sub_self]; rfl)
        rw [List.getElem?_append_left (by omega)] at ha ⊢
        exact ha
    · rw [if_neg hc]
      intro i a b ha hb
      rcases snoc_at hb with ⟨z, hb'⟩ | ⟨z, rfl⟩
      · refine h i a b ?_ hb'
        rw [List.getElem?_append_left (by omega)] at ha
        exact ha
      · rw [List.getElem?_append_left (by omega)] at ha
        rw [List.length_append, List.length_singleton] at z
        have z2 : i = pre.length := by omega
        rw [z2, List.getElem?_append_right (Nat.le_refl _), Nat.sub_self] at ha
        cases (Option.some.inj (show some t = some a from ha))
        exact hc
theorem loose_jn (ss : List Sc) : Loose (jn ss) := by
  have key : ∀ (ss acc : List Sc), Loose acc → Loose (ss.foldl jstep acc) := by
    intro ss
    induction ss with
    | nil => intro acc h; exact h
    | cons s r ih => intro acc h; exact ih _ (loose_step h s)
  exact key ss [] fun i a b ha _ => by
    have z : (none : Option Sc) = some a := ha
    cases z
theorem jn_fix : ∀ (n : Nat) (l : List Sc), l.length = n → Loose l → jn l = l
  | 0, l, e, _ => by
    cases l with
    | nil => rfl
    | cons a r => cases e
  | n + 1, l, e, h => by
    rcases List.eq_nil_or_concat l with z | ⟨pre, s, z⟩
    · subst z
      rfl
    · rw [List.concat_eq_append] at z
      subst z
      rw [List.length_append, List.length_singleton] at e
      rw [jn_snoc, jn_fix n pre (by omega) h.init]
      rcases List.eq_nil_or_concat pre with y | ⟨q, t, y⟩
      · subst y
        rfl
      · rw [List.concat_eq_append] at y
        subst y
        rw [jstep_snoc, if_neg]
        refine h q.length t s ?_ ?_
        · rw [List.append_assoc, List.getElem?_append_right (Nat.le_refl _), Nat.sub_self]
          rfl
        · rw [List.getElem?_append_right (by rw [List.length_append]; exact Nat.le_refl _), List.length_append, List.length_singleton, Nat.sub_self]
          rfl
theorem jn_jn (ss : List Sc) : jn (jn ss) = jn ss := jn_fix _ _ rfl (loose_jn ss)
theorem lo_hi (s : Sc) : lo s ≤ hi s := spn_le s
theorem merge {t s : Sc} (a : Apart t s) (h : absI (s.1 - t.2) = 1) : (lo (t.1, s.2) = lo t ∧ hi (t.1, s.2) = hi s ∧ hi t + 1 = lo s) ∨ (lo (t.1, s.2) = lo s ∧ hi (t.1, s.2) = hi t ∧ hi s + 1 = lo t) := by
  obtain ⟨u, v⟩ := t
  obtain ⟨x, y⟩ := s
  unfold Apart lo hi absI at *
  revert a h
  show ((if v > u then v else u) < (if y < x then y else x) ∨ (if y > x then y else x) < (if v < u then v else u)) → (if x - v < 0 then -(x - v) else x - v) = 1 →
    ((if y < u then y else u) = (if v < u then v else u) ∧ (if y > u then y else u) = (if y > x then y else x) ∧ (if v > u then v else u) + 1 = (if y < x then y else x)) ∨
    ((if y < u then y else u) = (if y < x then y else x) ∧ (if y > u then y else u) = (if v > u then v else u) ∧ (if y > x then y else x) + 1 = (if v < u then v else u))
  split <;> split <;> split <;> split <;> split <;> split <;> split <;> intros <;> omega
theorem merge_apart {t s z : Sc} (a : Apart t s) (h : absI (s.1 - t.2) = 1) (h1 : Apart z t) (h2 : Apart z s) : Apart z (t.1, s.2) := by
  have m := merge a h
  have c := lo_hi z
  unfold Apart at h1 h2 ⊢
  omega
theorem Apart.symm {s t : Sc} (h : Apart s t) : Apart t s := Or.symm h
theorem apart_step {acc r : List Sc} {s : Sc} (h : (acc ++ s :: r).Pairwise Apart) : (jstep acc s ++ r).Pairwise Apart := by
  rcases List.eq_nil_or_concat acc with e | ⟨pre, t, e⟩
  · subst e
    exact h
  · rw [List.concat_eq_append] at e
    subst e
    rw [jstep_snoc]
    by_cases hc : absI (s.1 - t.2) = 1
    · rw [if_pos hc]
      rw [List.append_assoc] at h ⊢
      obtain ⟨p1, p2, p3⟩ := List.pairwise_append.mp h
      obtain ⟨q1, q2⟩ := List.pairwise_cons.mp (show (t :: (s :: r)).Pairwise Apart from p2)
      obtain ⟨q3, q4⟩ := List.pairwise_cons.mp q2
      have ats := q1 s List.mem_cons_self
      refine List.pairwise_append.mpr ⟨p1, List.pairwise_cons.mpr ⟨fun z hz => ?_, q4⟩, fun a ha b hb => ?_⟩
      · exact (merge_apart ats hc (q1 z (List.mem_cons_of_mem _ hz)).symm (q3 z hz).symm).symm
      · rcases List.mem_cons.mp (show b ∈ (t.1, s.2) :: r from hb) with e | e
        · rw [e]
          exact merge_apart ats hc (p3 a ha t (List.mem_append_left _ (List.mem_singleton.mpr rfl))) (p3 a ha s (List.mem_append_right _ List.mem_cons_self))
        · exact p3 a ha b (List.mem_append_right _ (List.mem_cons_of_mem _ e))
    · rw [if_neg hc, List.append_assoc]
      exact h
theorem apart_jn {ss : List Sc} (h : ss.Pairwise Apart) : (jn ss).Pairwise Apart := by
  have key : ∀ (r acc : List Sc), (acc ++ r).Pairwise Apart → (r.foldl jstep acc).Pairwise Apart := by
    intro r
    induction r with
    | nil =>
      intro acc h
      rw [List.append_nil] at h
      exact h
    | cons s r ih => intro acc h; exact ih _ (apart_step h)
  exact key ss [] h
theorem Good.jn {ss : List Sc} (G : Good ss) {B : Int} (c : Cd B ss) : Good (Kb.jn ss) :=
  ⟨fun s hs => ⟨(jn_cd c s hs).1, (jn_cd c s hs).2.2.1⟩, apart_jn G.dis, Nat.le_trans (jn_len ss) G.few⟩
end Kb

namespace Kb
open PySem PySem.Spec PyProof.Rows L2
theorem small20 {n : Nat} (h : n ≤ 2 ^ 20) : n < sizeLine := Nat.lt_of_le_of_lt h (by decide)
theorem Pa.concat {H : Hp} {pre : List V} {v : V} {l : List Sc} (h : Paired (IsSc H) (pre ++ [v]) l) : ∃ (pre' : List Sc) (t : Sc), l = pre' ++ [t] ∧ Paired (IsSc H) pre pre' ∧ IsSc H v t := by
  have r : Paired (IsSc H) (v :: pre.reverse) l.reverse := by
    have z := Pa.rev h
    rw [List.reverse_append] at z
    exact z
  generalize e : l.reverse = m at r
  cases r with
  | @cons _ t _ q h1 h2 =>
    have z := congrArg List.reverse e
    rw [List.reverse_reverse, List.reverse_cons] at z
    have y := Pa.rev h2
    rw [List.reverse_reverse] at y
    exact ⟨q.reverse, t, z, y, h1⟩
theorem ix_last {α : Type} (pre : List α) (v : α) : ixN (pre ++ [v]).length (-1) = some pre.length := by
  unfold ixN
  rw [List.length_append]
  show (if (0 : Int) ≤ -1 then _ else if -(((pre.length + 1 : Nat)) : Int) ≤ -1 then some ((-1 : Int) + ((pre.length + 1 : Nat) : Int)).toNat else none) = _
  rw [if_neg (by decide), if_pos (by omega)]
  congr 1
  omega
theorem set_last {α : Type} (pre : List α) (v u : α) : (pre ++ [v]).set pre.length u = pre ++ [u] := by
  rw [List.set_append_right (h := Nat.le_refl _), Nat.sub_self]
  rfl
theorem eq_nil_or_snoc {α : Type} (l : List α) : l = [] ∨ ∃ (pre : List α) (t : α), l = pre ++ [t] := by
  rcases List.eq_nil_or_concat l with e | ⟨pre, t, e⟩
  · exact .inl e
  · exact .inr ⟨pre, t, by rw [e, List.concat_eq_append]⟩
theorem absI_sub (a b : Int) : absI (a - b) = absI (b - a) := by
  unfold absI
  split <;> split <;> omega
theorem Pa.swap {H : Hp} {l : Addr} {us : List V} (hl : H l = some (.lst us)) {ss : List Sc} (p : Paired (IsSc H) us ss) : ∀ x ∈ us, x ≠ .ref l := fun x hx e => by
  obtain ⟨s, _, t, rfl, ht⟩ := Pa.mem p x hx
  cases e
  rw [hl] at ht
  cases ht
def spJoined : Sp := fun vs H Q _ => ∃ (a : Addr) (ss : List Sc), vs = [.ref a] ∧ Scs H a ss ∧ ss.length ≤ 2 ^ 20 ∧ ∀ p H', H p = none → Ex H H' → Scs H' p (jn ss) → Q (.ref p) H'
def spTidy : Sp := fun vs H Q _ => ∃ (a : Addr) (ss : List Sc), vs = [.ref a] ∧ Scs H a ss ∧ Good ss ∧ ∀ p H', H p = none → Ex H H' → Scs H' p (jn ss) → Q (.ref p) H'
def spTurned : Sp := fun vs H Q _ => ∃ (a : Addr) (ss : List Sc), vs = [.ref a] ∧ Scs H a ss ∧ Good ss ∧ ∀ p H', H p = none → Ex H H' → Scs H' p (jn (ss.reverse.map swp)) → Q (.ref p) H'
def spTidied : Sp := fun vs H Q _ => ∃ (a : Addr) (ns : List Int), vs = [.ref a] ∧ H a = some (.lst (ns.map V.int)) ∧ ns.length ≤ 2 ^ 20 ∧ ∀ p H', H p = none → Ex H H' → Scs H' p (jn (dup ns)) → Q (.ref p) H'
def JW (H : Hp) (a p : Addr) (ss : List Sc) (i : Nat) (σ : L2.St) (H1 : Hp) : Prop := ∃ y2 y3 us, σ = [some (.ref a), some (.ref p), y2, y3] ∧ Ex H H1 ∧ H1 p = some (.lst us) ∧ Paired (IsSc H1) us (jn (ss.take i))
theorem jw_snoc {H : Hp} {a p : Addr} {ss : List Sc} {i : Nat} {s : Sc} (gs : ss[i]? = some s) : jn (ss.take (i + 1)) = jstep (jn (ss.take i)) s := by
  rw [List.take_add_one, gs]
  exact jn_snoc _ _
theorem jw_app {H H1 : Hp} {a p q : Addr} {ss : List Sc} {i : Nat} {x y : Int} {us : List V} (np : H p = none) (gs : ss[i]? = some (x, y)) (e : Ex H H1) (hp : H1 p = some (.lst us)) (pu : Paired (IsSc H1) us (jn (ss.take i))) (nq : H1 q = none)
    (hj : jstep (jn (ss.take i)) (x, y) = jn (ss.take i) ++ [(x, y)]) {σ : L2.St} (es : ∃ y2 y3, σ = [some (.ref a), some (.ref p), y2, y3]) : JW H a p ss (i + 1) σ (upd (upd H1 q (.tup [.int x, .int y])) p (.lst (us ++ [.ref q]))) := by
  obtain ⟨y2, y3, rfl⟩ := es
  have n : p ≠ q := ne_of_none hp nq
  refine ⟨y2, y3, us ++ [.ref q], rfl, (e.add nq).mut np, upd_same, ?_⟩
  rw [jw_snoc (H := H) (a := a) (p := p) gs, hj]
  exact Pa.lset ((upd_ne n).trans hp) (Pa.snoc (Pa.mono (Ex.new nq) pu) ⟨q, rfl, upd_same⟩)
theorem jw_set {H H1 : Hp} {a p q : Addr} {ss : List Sc} {i : Nat} {x y : Int} {pre : List V} {v : V} {pre' : List Sc} {t : Sc} (np : H p = none) (gs : ss[i]? = some (x, y)) (e : Ex H H1) (hp : H1 p = some (.lst (pre ++ [v]))) (pu : Paired (IsSc H1) pre pre') (nq : H1 q = none)
    (ej : jn (ss.take i) = pre' ++ [t]) (hc : absI (x - t.2) = 1) {σ : L2.St} (es : ∃ y2 y3, σ = [some (.ref a), some (.ref p), y2, y3]) : JW H a p ss (i + 1) σ (upd (upd H1 q (.tup [.int t.1, .int y])) p (.lst ((pre ++ [v]).set pre.length (.ref q)))) := by
  obtain ⟨y2, y3, rfl⟩ := es
  have n : p ≠ q := ne_of_none hp nq
  refine ⟨y2, y3, _, rfl, (e.add nq).mut np, upd_same, ?_⟩
  rw [jw_snoc (H := H) (a := a) (p := p) gs, ej, jstep_snoc, if_pos hc, set_last]
  exact Pa.lset ((upd_ne n).trans hp) (Pa.snoc (Pa.mono (Ex.new nq) pu) ⟨q, rfl, upd_same⟩)
def Sm (ss : List Sc) : Prop := Small ss ∧ ss.length ≤ 60
theorem Sm.cd {ss : List Sc} (h : Sm ss) : Cd 60 ss := fun s hs => by
  have a := h.1.1.nn s hs
  have b := h.1.2 s hs
  exact ⟨a.1, by omega, a.2, by omega⟩
theorem cd_swp {B : Int} {ss : List Sc} (h : Cd B ss) : Cd B (ss.reverse.map swp) := fun s hs => by
  obtain ⟨t, ht, rfl⟩ := List.mem_map.mp hs
  have z := h t (List.mem_reverse.mp ht)
  exact ⟨z.2.2.1, z.2.2.2, z.1, z.2.1⟩
theorem Sm.sum {ss : List Sc} (h : Sm ss) : 0 ≤ psum ss ∧ psum ss ≤ 2400 := by
  have key : ∀ l : List Sc, (∀ s ∈ l, s ∈ ss) → 0 ≤ psum l ∧ psum l ≤ 40 * (l.length : Int) := by
    intro l
    induction l with
    | nil => intro _; exact ⟨Int.le_refl 0, Int.le_refl _⟩
    | cons s r ih =>
      intro hm
      have i := ih fun t ht => hm t (List.mem_cons_of_mem _ ht)
      have a := h.1.1.nn s (hm s List.mem_cons_self)
      have b := h.1.2 s (hm s List.mem_cons_self)
      have p := slen_pos s
      have sl : slen s ≤ 40 := by
        obtain ⟨a1, a2⟩ := a
        unfold slen
        split <;> omega
      show 0 ≤ slen s + psum r ∧ slen s + psum r ≤ 40 * ((r.length + 1 : Nat) : Int)
      omega
  have z := key ss fun _ h => h
  have := h.2
  omega
def pdT (j1 j2 : List Sc) (n : Int) : PyData := .list [pdL j1, pdL j2, .int n]
theorem show_T {j1 j2 : List Sc} {n : Int} (h1 : Cd 60 j1) (h2 : Cd 60 j2) (l1 : j1.length ≤ 60) (l2 : j2.length ≤ 60) (n0 : 0 ≤ n) (n1 : n ≤ 2400) :
    (pdT j1 j2 n).showable = true ∧ (pdT j1 j2 n).hasDict = false ∧ (pdT j1 j2 n).depth ≤ 60 ∧ (pdT j1 j2 n).shown.length ≤ sizeLine := by
  obtain ⟨a1, a2, a3, a4⟩ := show_L (B := 2500) (by decide) h1
  obtain ⟨b1, b2, b3, b4⟩ := show_L (B := 2500) (by decide) h2
  have s1 := PyData.hasDict_of_canLay _ (SeqAt.canLay_of_shaped (shaped_L j1))
  have d1 := SeqAt.depth_of_shaped (shaped_L j1)
  have e1 : ∀ l : List Sc, (pdL l).depth ≤ 2 := fun l => by
    have h2 : PyData.depthAll (l.map pdS) ≤ 1 := by
      induction l with
      | nil => exact Nat.zero_le _
      | cons s r ih =>
        show max (PyData.depth (pdS s)) (PyData.depthAll (r.map pdS)) ≤ 1
        have : PyData.depth (pdS s) = 1 := rfl
        omega
    show PyData.depthAll (l.map pdS) + 1 ≤ 2
    omega
  have x1 := e1 j1
  have x2 := e1 j2
  have li : (PyData.shown (.int n)).length ≤ 2500 := by
    have e := PyProof.Rows.len_str_of_int n
    show (Str.ofString (toString n)).length ≤ 2500
    omega
  refine ⟨?_, ?_, ?_, ?_⟩
  · show ((pdL j1).showable && ((pdL j2).showable && (decide (n.natAbs.log2 < 1920) && true))) = true
    rw [a1, b1, decide_eq_true (Nat.lt_trans (PySem.Flt.log2_lt_of (k := 12) (by decide) (by omega)) (by decide))]
    rfl
  · show ((pdL j1).hasDict || ((pdL j2).hasDict || (false || false))) = false
    rw [a2, b2]
    rfl
  · show max (pdL j1).depth (max (pdL j2).depth (max 0 0)) + 1 ≤ 60
    omega
  · have lv : (pdT j1 j2 n).leavesShort 2500 = true := by
      show ((pdL j1).leavesShort 2500 && ((pdL j2).leavesShort 2500 && (decide ((PyData.shown (.int n)).length ≤ 2500) && true))) = true
      rw [a3, b3, decide_eq_true li]
      rfl
    have bk : (pdT j1 j2 n).bulk ≤ 1300 := by
      simp only [pdT, PyData.bulk, PyData.bulkAll] at *
      omega
    have z := PyData.shown_le_bulk 2500 (by decide) _ lv
    have y := Nat.mul_le_mul_left (2500 + 2) bk
    rw [sizeLine_eq]
    omega
theorem show_S {ss : List Sc} (h : Cd 60 ss) (l : ss.length ≤ 60) : (pdL ss).showable = true ∧ (pdL ss).hasDict = false ∧ (pdL ss).depth ≤ 60 ∧ (pdL ss).shown.length ≤ sizeLine := by
  obtain ⟨a1, a2, a3, a4⟩ := show_L (B := 2500) (by decide) h
  refine ⟨a1, a2, ?_, ?_⟩
  · have h2 : PyData.depthAll (ss.map pdS) ≤ 1 := by
      clear a1 a2 a3 a4 h l
      induction ss with
      | nil => exact Nat.zero_le _
      | cons s r ih =>
        show max (PyData.depth (pdS s)) (PyData.depthAll (r.map pdS)) ≤ 1
        have : PyData.depth (pdS s) = 1 := rfl
        omega
    show PyData.depthAll (ss.map pdS) + 1 ≤ 60
    omega
  · have z := PyData.shown_le_bulk 2500 (by decide) _ a3
    have y := Nat.mul_le_mul_left (2500 + 2) a4
    rw [sizeLine_eq]
    omega
def spRight1 : Sp := fun vs H Q _ => ∃ (a : Addr) (ss : List Sc), vs = [.ref a] ∧ Scs H a ss ∧ Sm ss ∧ RetV (.bl true) H Q
end Kb

namespace Kb
open PySem PySem.Spec PyProof.Rows L2
/-! ### min, max of a pair -/
section
variable {prog : Program} {w : World} {A : Around} {E : Value → Shared → Prop} {s : Shared}
theorem tup_iter {l : Addr} {its : Array Value} {Q : Value → Shared → Prop} (hl : s.heap.IsTuple l its)
    (h : ∀ s2 : Shared, s2 = { s with heap := s.heap.push { cls := .type "tuple_iterator", data := .fields #[.ref l, .int 0 0] } } → (s2.heap.IsTupleIter s.heap.objs.size l 0 ∧ s2.heap.IsTuple l its) → (∀ b ∈ [s.heap.objs.size, l], b < s2.heap.objs.size) → l ≠ s.heap.objs.size → Q (.ref s.heap.objs.size) s2) :
    wpAny (model prog w) A (pyIter (.ref l)) Q E s := by
  have lt : l < s.heap.objs.size := by
    obtain ⟨_, e, _⟩ := hl
    exact Heap.lt_size e
  refine wpAny_pyIter_tuple hl (h _ rfl ⟨⟨_, Heap.get?_push_size _ rfl, rfl, rfl⟩, hl.push _⟩ (fun b hb => ?_) (Nat.ne_of_lt lt))
  show b < (s.heap.push _).objs.size
  rw [Heap.size_push]
  rcases List.mem_cons.mp hb with e | e
  · rw [e]
    exact Nat.lt_succ_self _
  · rw [List.mem_singleton.mp e]
    exact Nat.lt_succ_of_lt lt
end
def fn2 (x y : Int) : Nat → Int := fun i => if i = 0 then x else y
theorem pair_at {x y : Int} {t u : Tok} (i : Nat) (v : Value) (h : (#[Value.int x t, Value.int y u] : Array Value)[i]? = some v) : ∃ k, v = .int (fn2 x y i) k := by
  match i, h with
  | 0, h =>
    cases h
    exact ⟨t, rfl⟩
  | 1, h =>
    cases h
    exact ⟨u, rfl⟩
  | i + 2, h => simp at h
section
variable {X : Cx}
theorem cr_minT (hc : X.calm = true) : CallR X (.builtin "min") (fun vs H Q => ∃ (a : Addr) (x y : Int), vs = [.ref a] ∧ H a = some (.tup [.int x, .int y]) ∧ Q (.int (if y < x then y else x)) H) := by
  intro pins s σ H vs us Q I r h
  obtain ⟨a, x, y, rfl, ha, q⟩ := h
  rw [Vals.ref1 r]
  obtain ⟨its, rv, pt, _⟩ := I.tuple (SqT.of ha)
  obtain ⟨u1, u2, rfl, ⟨t, rfl⟩, ⟨u, rfl⟩⟩ := vals2 rv
  refine call_min_walk (tup_iter (its := #[Value.int x t, Value.int y u]) pt fun s2 e st hfp ne => ?_)
  subst e
  refine ⟨_, _, _, _, _, _, _, rfl, Walks.tuple (A := X.A.in1) (I.ok.hd hc) _ a ne _, st, hfp, Nat.succ_pos 1, CmpOf.ints_lt (fn2 x y) pair_at, fun v h' tk hP hk => ?_⟩
  obtain ⟨k, rfl⟩ := pair_at _ _ hP
  obtain ⟨b1, b2⟩ := argBest_lt (fn2 x y) 1
  have c0 := b2 0 (by decide)
  have c1 := b2 1 (by decide)
  have e : fn2 x y (argBest (fun i j => decide (fn2 x y i < fn2 x y j)) 1) = if y < x then y else x := by
    generalize argBest (fun i j => decide (fn2 x y i < fn2 x y j)) 1 = m at b1 c0 c1
    have d : m = 0 ∨ m = 1 := by omega
    rcases d with rfl | rfl
    · have z : x ≤ y := c1
      show x = _
      rw [if_neg (by omega)]
    · have z : y ≤ x := c0
      show y = _
      split <;> omega
  refine ⟨.int _, H, I.kept (t' := tk) fun b o eo => hk b o (fun hm => ?_) (Heap.get?_push_of_some _ eo), ⟨k, rfl⟩, ?_⟩
  · rcases List.mem_cons.mp hm with e1 | hm
    · exact absurd (e1 ▸ Heap.lt_size eo) (Nat.lt_irrefl _)
    · cases hm
  · show Q (.int (fn2 x y (argBest (fun i j => decide (fn2 x y i < fn2 x y j)) 1))) H
    rw [e]
    exact q
theorem cr_maxT (hc : X.calm = true) : CallR X (.builtin "max") (fun vs H Q => ∃ (a : Addr) (x y : Int), vs = [.ref a] ∧ H a = some (.tup [.int x, .int y]) ∧ Q (.int (if y > x then y else x)) H) := by
  intro pins s σ H vs us Q I r h
  obtain ⟨a, x, y, rfl, ha, q⟩ := h
  rw [Vals.ref1 r]
  obtain ⟨its, rv, pt, _⟩ := I.tuple (SqT.of ha)
  obtain ⟨u1, u2, rfl, ⟨t, rfl⟩, ⟨u, rfl⟩⟩ := vals2 rv
  refine call_max_walk (tup_iter (its := #[Value.int x t, Value.int y u]) pt fun s2 e st hfp ne => ?_)
  subst e
  refine ⟨_, _, _, _, _, _, _, rfl, Walks.tuple (A := X.A.in1) (I.ok.hd hc) _ a ne _, st, hfp, Nat.succ_pos 1, CmpOf.ints_gt (fn2 x y) pair_at, fun v h' tk hP hk => ?_⟩
  obtain ⟨k, rfl⟩ := pair_at _ _ hP
  obtain ⟨b1, b2⟩ := argBest_gt (fn2 x y) 1
  have c0 := b2 0 (by decide)
  have c1 := b2 1 (by decide)
  have e : fn2 x y (argBest (fun i j => decide (fn2 x y i > fn2 x y j)) 1) = if y > x then y else x := by
    generalize argBest (fun i j => decide (fn2 x y i > fn2 x y j)) 1 = m at b1 c0 c1
    have d : m = 0 ∨ m = 1 := by omega
    rcases d with rfl | rfl
    · have z : y ≤ x := c1
      show x = _
      rw [if_neg (by omega)]
    · have z : x ≤ y := c0
      show y = _
      split <;> omega
  refine ⟨.int _, H, I.kept (t' := tk) fun b o eo => hk b o (fun hm => ?_) (Heap.get?_push_of_some _ eo), ⟨k, rfl⟩, ?_⟩
  · rcases List.mem_cons.mp hm with e1 | hm
    · exact absurd (e1 ▸ Heap.lt_size eo) (Nat.lt_irrefl _)
    · cases hm
  · show Q (.int (fn2 x y (argBest (fun i j => decide (fn2 x y i > fn2 x y j)) 1))) H
    rw [e]
    exact q
end
/-! ### parts of scans -/
def seg (a b : Int) : List Int := (List.range (b + 1 - a).toNat).map fun (m : Nat) => a + (m : Int)
theorem seg_nil {a b : Int} (h : b < a) : seg a b = [] := by
  unfold seg
  rw [show (b + 1 - a).toNat = 0 by omega]
  rfl
theorem seg_cons {a b : Int} (h : a ≤ b) : seg a b = a :: seg (a + 1) b := by
  unfold seg
  obtain ⟨n, hn⟩ : ∃ n : Nat, (b + 1 - a).toNat = n + 1 := ⟨(b + 1 - a).toNat - 1, by omega⟩
  rw [hn, show (b + 1 - (a + 1)).toNat = n by omega, List.range_succ_eq_map, List.map_cons, List.map_map]
  congr 1
  · show a + ((0 : Nat) : Int) = a
    omega
  · refine List.map_congr_left fun m _ => ?_
    show a + ((m + 1 : Nat) : Int) = a + 1 + (m : Int)
    omega
theorem seg_cut (l h : Int) (hlh : l ≤ h) : ∀ (n : Nat) (a b : Int), (b + 1 - a).toNat = n → (seg a b).filter (fun z => !decide (l ≤ z ∧ z ≤ h)) = seg a (min b (l - 1)) ++ seg (max a (h + 1)) b
  | 0, a, b, e => by
    rw [seg_nil (by omega), seg_nil (by omega), seg_nil (by omega)]
    rfl
  | n + 1, a, b, e => by
    have hab : a ≤ b := by omega
    rw [seg_cons hab, List.filter_cons]
    have ih := seg_cut l h hlh n (a + 1) b (by omega)
    by_cases h1 : a < l
    · rw [if_pos (by simp; omega), ih, seg_cons (show a ≤ min b (l - 1) by omega)]
      rw [show max (a + 1) (h + 1) = max a (h + 1) by omega]
      rfl
    · by_cases h2 : a ≤ h
      · rw [if_neg (by simp; omega), ih, seg_nil (show min b (l - 1) < a + 1 by omega), seg_nil (show min b (l - 1) < a by omega), show max (a + 1) (h + 1) = max a (h + 1) by omega]
      · rw [if_pos (by simp; omega), ih, seg_nil (show min b (l - 1) < a + 1 by omega), seg_nil (show min b (l - 1) < a by omega), show max a (h + 1) = a by omega, show max (a + 1) (h + 1) = a + 1 by omega, seg_cons hab]
        rfl
theorem rd_up {s : Sc} (h : s.1 ≤ s.2) : rd s = seg s.1 s.2 := by
  unfold rd seg stp slen
  rw [if_pos h, if_neg (by omega), show (s.2 - s.1 + 1).toNat = (s.2 + 1 - s.1).toNat by omega]
  refine List.map_congr_left fun m _ => ?_
  omega
theorem rd_dn {s : Sc} (h : s.2 ≤ s.1) : rd s = (seg s.2 s.1).reverse := by
  have e : s = swp (swp s) := rfl
  rw [e, rd_swp, rd_up (s := swp s) h]
  rfl
def ends (s : Sc) (l h : Int) : List Sc := [(lo s, if l - 1 < hi s then l - 1 else hi s), (if h + 1 > lo s then h + 1 else lo s, hi s)]
def lft (s : Sc) (l h : Int) : List Sc := (ends s l h).filter fun p => decide (p.1 ≤ p.2)
def wo (s : Sc) (l h : Int) : List Sc := if s.1 ≤ s.2 then lft s l h else (lft s l h).reverse.map swp
theorem rdL_lft {s : Sc} {l h : Int} (hl : l ≤ h) : rdL (lft s l h) = (seg (lo s) (hi s)).filter (fun z => !decide (l ≤ z ∧ z ≤ h)) := by
  rw [seg_cut l h hl _ _ _ rfl]
  have one : ∀ a b : Int, rdL ([((a, b) : Sc)].filter fun p => decide (p.1 ≤ p.2)) = seg a b := fun a b => by
    by_cases z : a ≤ b
    · rw [List.filter_cons, if_pos (decide_eq_true z)]
      show rd (a, b) ++ [] = _
      rw [List.append_nil, rd_up z]
    · rw [List.filter_cons, if_neg (by simp; omega), seg_nil (by omega)]
      rfl
  have e1 : (if l - 1 < hi s then l - 1 else hi s) = min (hi s) (l - 1) := by split <;> omega
  have e2 : (if h + 1 > lo s then h + 1 else lo s) = max (lo s) (h + 1) := by split <;> omega
  unfold lft ends
  rw [e1, e2, show [(lo s, min (hi s) (l - 1)), (max (lo s) (h + 1), hi s)] = [((lo s, min (hi s) (l - 1)) : Sc)] ++ [(max (lo s) (h + 1), hi s)] from rfl, List.filter_append, rdL_app, one, one]
theorem rdL_wo {s : Sc} {l h : Int} (hl : l ≤ h) : rdL (wo s l h) = (rd s).filter (fun z => !decide (l ≤ z ∧ z ≤ h)) := by
  unfold wo
  by_cases hs : s.1 ≤ s.2
  · rw [if_pos hs, rdL_lft hl, rd_up hs]
    have a : lo s = s.1 := by unfold lo; split <;> omega
    have b : hi s = s.2 := by unfold hi; split <;> omega
    rw [a, b]
  · rw [if_neg hs, rdL_rev, rdL_lft hl, rd_dn (by omega), List.filter_reverse]
    have a : lo s = s.2 := by unfold lo; split <;> omega
    have b : hi s = s.1 := by unfold hi; split <;> omega
    rw [a, b]
def woL (ss : List Sc) (l h : Int) : List Sc := ss.flatMap fun s => wo s l h
theorem rdL_woL {l h : Int} (hl : l ≤ h) : ∀ ss : List Sc, rdL (woL ss l h) = (rdL ss).filter (fun z => !decide (l ≤ z ∧ z ≤ h))
  | [] => rfl
  | s :: r => by
    show rdL (wo s l h ++ woL r l h) = (rd s ++ rdL r).filter _
    rw [rdL_app, rdL_wo hl, rdL_woL hl r, List.filter_append]
def hd (s : Sc) (m : Int) : Sc := (s.1, if s.1 ≤ s.2 then s.1 + ((if slen s < m then slen s else m) - 1) else s.1 - ((if slen s < m then slen s else m) - 1))
theorem rd_hd {s : Sc} {m : Int} (h : 0 < m) : rd (hd s m) = (rd s).take m.toNat := by
  have p := slen_pos s
  have l : slen (hd s m) = if slen s < m then slen s else m := by
    unfold hd
    generalize hk : (if slen s < m then slen s else m) = k
    have k1 : 1 ≤ k := by rw [← hk]; split <;> omega
    show (if (if s.1 ≤ s.2 then s.1 + (k - 1) else s.1 - (k - 1)) - s.1 < 0 then -((if s.1 ≤ s.2 then s.1 + (k - 1) else s.1 - (k - 1)) - s.1) else (if s.1 ≤ s.2 then s.1 + (k - 1) else s.1 - (k - 1)) - s.1) + 1 = k
    split <;> split <;> omega
  refine List.ext_getElem? fun i => ?_
  by_cases hi : i < (slen (hd s m)).toNat
  · have i1 : i < (slen s).toNat := by
      rw [l] at hi
      revert hi
      split <;> intro hi <;> omega
    have i2 : i < m.toNat := by
      rw [l] at hi
      revert hi
      split <;> intro hi <;> omega
    rw [rd_get hi, List.getElem?_take_of_lt i2, rd_get i1]
    congr 1
    show (if s.1 ≤ (hd s m).2 then s.1 + (i : Int) else s.1 - (i : Int)) = _
    unfold hd
    generalize hk : (if slen s < m then slen s else m) = k at l
    have k1 : 1 ≤ k := by rw [← hk]; split <;> omega
    have hi2 : (i : Int) < k := by rw [l] at hi; omega
    show (if s.1 ≤ (if s.1 ≤ s.2 then s.1 + (k - 1) else s.1 - (k - 1)) then s.1 + (i : Int) else s.1 - (i : Int)) = _
    split <;> split <;> omega
  · rw [List.getElem?_eq_none (by rw [rd_len]; omega)]
    rw [List.getElem?_eq_none]
    rw [List.length_take, rd_len]
    rw [l] at hi
    revert hi
    split <;> intro hi <;> omega
def fpart : List Sc → Int → List Sc
  | [], _ => []
  | s :: r, m => (if 0 < m then [hd s m] else []) ++ fpart r (m - slen s)
theorem rdL_fpart : ∀ (ss : List Sc) (m : Int), rdL (fpart ss m) = (rdL ss).take m.toNat
  | [], m => by
    show [] = List.take _ []
    rw [List.take_nil]
  | s :: r, m => by
    have p := slen_pos s
    show rdL ((if 0 < m then [hd s m] else []) ++ fpart r (m - slen s)) = (rd s ++ rdL r).take m.toNat
    rw [rdL_app, rdL_fpart r, List.take_append, rd_len, show m.toNat - (slen s).toNat = (m - slen s).toNat by omega]
    congr 1
    by_cases h : 0 < m
    · rw [if_pos h]
      show rd (hd s m) ++ [] = _
      rw [List.append_nil, rd_hd h]
    · rw [if_neg h, show m.toNat = 0 by omega]
      rfl
end Kb

namespace Kb
open PySem PySem.Spec PyProof.Rows L2
/-! ### a comprehension of two loops -/
section
variable {K : PySem.W.Frag} {a b : Addr} {xs ys : List V} {g g1 : TG} {tt tt1 : TT} {wi1 : TI} {te : TE} {vs vs1 : List Nat} {σ σ2 : L2.St} {H1 H4 : Hp} {D : Addr} {Qd N : Hp → Prop}
def InOk (g1 : TG) (tt1 : TT) (te : TE) (vs1 : List Nat) (σ2 : L2.St) (D : Addr) (N : Hp → Prop) (J : It) (H4 : Hp) : Prop :=
  ∃ W1 : Nat → Nat → Hp → Prop, (∃ m, W1 0 m H4) ∧ ∀ j k H, W1 j k H →
    (J.stop j H ∧ N H) ∨ (J.go j H ∧ ∃ N1 : Hp → Prop, (∀ H', N1 H' → ∃ k', k' < k ∧ W1 (j + 1) k' H') ∧ ∀ x H', J.yld j H x H' →
      g1 x (wipe σ2 vs1) H' fun σ3 H5 => wipe σ3 vs1 = wipe σ2 vs1 ∧ tt1 σ3 H5 fun c H6 => if c = true then te σ3 H6 fun y H7 => ∃ acc, H7 D = some (.lst acc) ∧ acc.length < sizeLine ∧ N1 (upd H7 D (.lst (acc ++ [y]))) else N1 H6)
theorem in_list (Pw : Nat → Hp → Prop) (h0 : Pw 0 H4) (hl : ∀ j H, j ≤ ys.length → Pw j H → SqL K H b ys)
    (hs : ∀ j x H, ys[j]? = some x → Pw j H → g1 x (wipe σ2 vs1) H fun σ3 H5 => wipe σ3 vs1 = wipe σ2 vs1 ∧ tt1 σ3 H5 fun c H6 => if c = true then te σ3 H6 fun y H7 => ∃ acc, H7 D = some (.lst acc) ∧ acc.length < sizeLine ∧ Pw (j + 1) (upd H7 D (.lst (acc ++ [y]))) else Pw (j + 1) H6)
    (hd : ∀ H, Pw ys.length H → N H) : InOk g1 tt1 te vs1 σ2 D N (Itl K b) H4 := by
  refine ⟨fun j k H => k = ys.length - j ∧ j ≤ ys.length ∧ Pw j H, ⟨ys.length, by simp, Nat.zero_le _, h0⟩, ?_⟩
  rintro j k H ⟨rfl, hj, p⟩
  have q := hl j H hj p
  by_cases lt : j < ys.length
  · refine .inr ⟨⟨ys, ys[j], q, List.getElem?_eq_getElem lt⟩, Pw (j + 1), fun H' p' => ⟨ys.length - (j + 1), by omega, rfl, lt, p'⟩, fun x H' y => ?_⟩
    rw [y.1]
    exact hs j x _ (y.2 ys q) p
  · rw [show j = ys.length by omega] at p ⊢
    exact .inl ⟨⟨ys, q, Nat.le_refl _⟩, hd H p⟩
theorem two_list (Pv : Nat → Hp → Prop) (h0 : Pv 0 (upd H1 D (.lst []))) (hl : ∀ i H, i ≤ xs.length → Pv i H → SqL K H a xs)
    (hs : ∀ i x H, xs[i]? = some x → Pv i H → g x (wipe σ vs) H fun σ2 H2 => wipe σ2 vs = wipe σ vs ∧ tt σ2 H2 fun c H3 => if c = true then wi1 σ2 H3 (InOk g1 tt1 te vs1 σ2 D (Pv (i + 1))) else Pv (i + 1) H3)
    (hd : ∀ H, Pv xs.length H → Qd H) :
    ∃ W : Nat → Nat → Hp → Prop, (∃ m, W 0 m (upd H1 D (.lst []))) ∧ ∀ i m H, W i m H →
      ((Itl K a).stop i H ∧ Qd H) ∨ ((Itl K a).go i H ∧ ∃ N : Hp → Prop, (∀ H', N H' → ∃ m', m' < m ∧ W (i + 1) m' H') ∧ ∀ x H', (Itl K a).yld i H x H' →
        g x (wipe σ vs) H' fun σ2 H2 => wipe σ2 vs = wipe σ vs ∧ tt σ2 H2 fun c H3 => if c = true then wi1 σ2 H3 (InOk g1 tt1 te vs1 σ2 D N) else N H3) := by
  refine ⟨fun i m H => m = xs.length - i ∧ i ≤ xs.length ∧ Pv i H, ⟨xs.length, by simp, Nat.zero_le _, h0⟩, ?_⟩
  rintro i m H ⟨rfl, hi, p⟩
  have q := hl i H hi p
  by_cases lt : i < xs.length
  · refine .inr ⟨⟨xs, xs[i], q, List.getElem?_eq_getElem lt⟩, Pv (i + 1), fun H' p' => ⟨xs.length - (i + 1), by omega, rfl, lt, p'⟩, fun x H' y => ?_⟩
    rw [y.1]
    exact hs i x _ (y.2 xs q) p
  · rw [show i = xs.length by omega] at p ⊢
    exact .inl ⟨⟨xs, q, Nat.le_refl _⟩, hd H p⟩
end
/-! ### promises of the parts -/
def spCheckScan : Sp := fun vs H Q _ => ∃ (v : V) (s : Sc), vs = [v] ∧ IsSc H v s ∧ Nn s ∧ RetV .non H Q
def spCheckFrom : Sp := fun vs H Q _ => ∃ i l : Int, vs = [.int i, .int l] ∧ l ≤ i ∧ RetV .non H Q
def spOthers1 : Sp := fun vs H Q _ => ∃ (a t : Addr) (ss : List Sc) (s : Sc), vs = [.ref a, .ref t] ∧ Scs H a ss ∧ Scs H t [s] ∧ ss.length ≤ 1000 ∧ ∀ p H', H p = none → Ex H H' → Scs H' p (woL ss (lo s) (hi s)) → Q (.ref p) H'
def spAhead1 : Sp := fun vs H Q _ => ∃ (t a : Addr) (ss : List Sc) (s : Sc), vs = [.ref t, .ref a] ∧ Scs H a ss ∧ Scs H t [s] ∧ ss.length ≤ 1000 ∧ ∀ p H', H p = none → Ex H H' → Scs H' p (jn (s :: woL ss (lo s) (hi s))) → Q (.ref p) H'
def spCheckInterval : Sp := fun vs H Q _ => ∃ i j : Int, vs = [.int i, .int j] ∧ 0 ≤ i ∧ i ≤ j ∧ RetV .non H Q
def spScanHead : Sp := fun vs H Q _ => ∃ (v : V) (s : Sc) (m : Int), vs = [v, .int m] ∧ IsSc H v s ∧ ∀ p H', H p = none → Ex H H' → H' p = some (.tup [.int (hd s m).1, .int (hd s m).2]) → Q (.ref p) H'
def spScanWo : Sp := fun vs H Q _ => ∃ (v : V) (s : Sc) (l h : Int), vs = [v, .int l, .int h] ∧ IsSc H v s ∧ l ≤ h ∧ ∀ p H', H p = none → Ex H H' → Scs H' p (wo s l h) → Q (.ref p) H'
def spAllWo : Sp := fun vs H Q _ => ∃ (a : Addr) (ss : List Sc) (l h : Int), vs = [.ref a, .int l, .int h] ∧ Scs H a ss ∧ ss.length ≤ 1000 ∧ l ≤ h ∧ ∀ p H', H p = none → Ex H H' → Scs H' p (woL ss l h) → Q (.ref p) H'
def spFirst : Sp := fun vs H Q _ => ∃ (a : Addr) (ss : List Sc) (m : Int), vs = [.ref a, .int m] ∧ Scs H a ss ∧ Good ss ∧ 0 ≤ m ∧ ∀ p H', H p = none → Ex H H' → Scs H' p (jn (fpart ss m)) → Q (.ref p) H'
def spTop : Sp := fun vs H Q _ => ∃ (a : Addr) (ss : List Sc) (v : V) (s : Sc), vs = [.ref a, v] ∧ Scs H a ss ∧ Good ss ∧ IsSc H v s ∧ Nn s ∧ ∀ p H', H p = none → Ex H H' → Scs H' p (jn (s :: woL ss (lo s) (hi s))) → Q (.ref p) H'
def spWithout : Sp := fun vs H Q _ => ∃ (a : Addr) (ss : List Sc) (l h : Int), vs = [.ref a, .int l, .int h] ∧ Scs H a ss ∧ Good ss ∧ 0 ≤ l ∧ l ≤ h ∧ ∀ p H', H p = none → Ex H H' → Scs H' p (jn (woL ss l h)) → Q (.ref p) H'
theorem filter_snoc {ss : List Sc} {i : Nat} {s : Sc} (f : Sc → Bool) (h : ss[i]? = some s) : (ss.take (i + 1)).filter f = (ss.take i).filter f ++ if f s = true then [s] else [] := by
  rw [List.take_add_one, h, List.filter_append]
  congr 1
  show [s].filter f = _
  rw [List.filter_cons]
  rfl
theorem wo_len (s : Sc) (l h : Int) : (wo s l h).length ≤ 2 := by
  have z : (lft s l h).length ≤ 2 := List.length_filter_le _ _
  unfold wo
  split
  · exact z
  · rw [List.length_map, List.length_reverse]
    exact z
theorem woL_len : ∀ (ss : List Sc) (l h : Int), (woL ss l h).length ≤ 2 * ss.length
  | [], _, _ => Nat.zero_le _
  | s :: r, l, h => by
    have a := wo_len s l h
    have b := woL_len r l h
    show (wo s l h ++ woL r l h).length ≤ 2 * (r.length + 1)
    rw [List.length_append]
    omega
theorem woL_snoc {ss : List Sc} {i : Nat} {s : Sc} {l h : Int} (e : ss[i]? = some s) : woL (ss.take (i + 1)) l h = woL (ss.take i) l h ++ wo s l h := by
  unfold woL
  rw [List.take_add_one, e, List.flatMap_append]
  congr 1
  exact List.append_nil _
theorem fpart_len : ∀ (ss : List Sc) (m : Int), (fpart ss m).length ≤ ss.length
  | [], _ => Nat.le_refl _
  | s :: r, m => by
    have b := fpart_len r (m - slen s)
    show ((if 0 < m then [hd s m] else []) ++ fpart r (m - slen s)).length ≤ r.length + 1
    rw [List.length_append]
    split
    · rw [List.length_singleton]
      omega
    · rw [List.length_nil]
      omega
theorem fpart_app : ∀ (ss ts : List Sc) (m : Int), fpart (ss ++ ts) m = fpart ss m ++ fpart ts (m - psum ss)
  | [], ts, m => by
    show fpart ts m = fpart ts (m - 0)
    rw [Int.sub_zero]
  | s :: r, ts, m => by
    show (if 0 < m then [hd s m] else []) ++ fpart (r ++ ts) (m - slen s) = ((if 0 < m then [hd s m] else []) ++ fpart r (m - slen s)) ++ fpart ts (m - (slen s + psum r))
    rw [fpart_app r, List.append_assoc, show m - slen s - psum r = m - (slen s + psum r) by omega]
theorem fpart_snoc {ss : List Sc} {i : Nat} {s : Sc} {m : Int} (e : ss[i]? = some s) : fpart (ss.take (i + 1)) m = fpart (ss.take i) m ++ if 0 < m - psum (ss.take i) then [hd s (m - psum (ss.take i))] else [] := by
  rw [List.take_add_one, e, fpart_app]
  congr 1
  exact List.append_nil _
end Kb

namespace Kb
open PySem PySem.Spec PyProof.Rows L2
/-! ### ascending intervals, and what of a scan is in none of them -/
structure Asc (zs : List Sc) : Prop where
  le : ∀ t ∈ zs, t.1 ≤ t.2
  up : zs.Pairwise fun a b => a.2 < b.1
theorem Asc.next {zs : List Sc} (A : Asc zs) {i j : Nat} {a b : Sc} (hi : zs[i]? = some a) (hj : zs[j]? = some b) (h : i < j) : a.2 < b.1 := by
  obtain ⟨l1, rfl⟩ := List.getElem?_eq_some_iff.mp hi
  obtain ⟨l2, rfl⟩ := List.getElem?_eq_some_iff.mp hj
  exact List.pairwise_iff_getElem.mp A.up i j l1 l2 h
theorem Asc.leAt {zs : List Sc} (A : Asc zs) {i : Nat} {a : Sc} (hi : zs[i]? = some a) : a.1 ≤ a.2 := A.le _ (List.mem_of_getElem? hi)
theorem asc_of {ss zs : List Sc} (d : ss.Pairwise Apart) (p : zs.Perm (ss.map spn)) (o : zs.Pairwise fun a b => a.1 ≤ b.1) : Asc zs := by
  have d1 : (ss.map spn).Pairwise fun a b => a.2 < b.1 ∨ b.2 < a.1 := List.pairwise_map.mpr (d.imp fun h => h)
  have d2 : zs.Pairwise fun a b => a.2 < b.1 ∨ b.2 < a.1 := (p.pairwise_iff (R := fun a b : Sc => a.2 < b.1 ∨ b.2 < a.1) (fun {a b} h => h.symm)).mpr d1
  have w : ∀ z ∈ zs, z.1 ≤ z.2 := fun z hz => by
    obtain ⟨s, _, rfl⟩ := List.mem_map.mp (p.mem_iff.mp hz)
    exact spn_le s
  refine ⟨w, List.pairwise_iff_getElem.mpr fun i j hi hj h => ?_⟩
  have a := List.pairwise_iff_getElem.mp d2 i j hi hj h
  have b := List.pairwise_iff_getElem.mp o i j hi hj h
  have c := w _ (List.getElem_mem hi)
  have d := w _ (List.getElem_mem hj)
  omega
def out (zs : List Sc) (z : Int) : Bool := zs.all fun t => decide (z < t.1 ∨ t.2 < z)
theorem out_iff {zs : List Sc} {z : Int} : out zs z = true ↔ ∀ t ∈ zs, z < t.1 ∨ t.2 < z := by
  unfold out
  rw [List.all_eq_true]
  exact ⟨fun h t ht => of_decide_eq_true (h t ht), fun h t ht => decide_eq_true (h t ht)⟩
def outL (ts : List Sc) (z : Int) : Bool := !decide (z ∈ rdL ts)
theorem out_eq {ts zs : List Sc} (p : zs.Perm (ts.map spn)) (z : Int) : out zs z = outL ts z := by
  refine Bool.eq_iff_iff.mpr ⟨fun h => ?_, fun h => ?_⟩
  · have h := out_iff.mp h
    unfold outL
    rw [decide_eq_false]
    · rfl
    · intro m
      obtain ⟨s, hs, a, b⟩ := mem_rdL.mp m
      have k := h (spn s) (p.mem_iff.mpr (List.mem_map.mpr ⟨s, hs, rfl⟩))
      have k : z < lo s ∨ hi s < z := k
      omega
  · refine out_iff.mpr fun t ht => ?_
    obtain ⟨s, hs, rfl⟩ := List.mem_map.mp (p.mem_iff.mp ht)
    show z < lo s ∨ hi s < z
    have h : z ∉ rdL ts := fun m => by
      unfold outL at h
      rw [decide_eq_true m] at h
      cases h
    by_cases c : lo s ≤ z ∧ z ≤ hi s
    · exact (h (mem_rdL.mpr ⟨s, hs, c.1, c.2⟩)).elim
    · omega
theorem mem_seg {a b z : Int} : z ∈ seg a b ↔ a ≤ z ∧ z ≤ b := by
  unfold seg
  rw [List.mem_map]
  constructor
  · rintro ⟨m, hm, rfl⟩
    rw [List.mem_range] at hm
    omega
  · rintro ⟨h1, h2⟩
    exact ⟨(z - a).toNat, by rw [List.mem_range]; omega, by omega⟩
theorem seg_app {b c : Int} (h2 : b ≤ c) : ∀ (n : Nat) (a : Int), (b + 1 - a).toNat = n → a ≤ b + 1 → seg a b ++ seg (b + 1) c = seg a c
  | 0, a, e, h => by
    have : a = b + 1 := by omega
    rw [seg_nil (show b < a by omega), this]
    rfl
  | n + 1, a, e, h => by
    rw [seg_cons (show a ≤ b by omega), seg_cons (show a ≤ c by omega), List.cons_append, seg_app h2 n (a + 1) (by omega) (by omega)]
theorem seg_out {f : Int → Bool} {a b : Int} (h : ∀ z, a ≤ z → z ≤ b → f z = true) : (seg a b).filter f = seg a b :=
  List.filter_eq_self.mpr fun z hz => h z (mem_seg.mp hz).1 (mem_seg.mp hz).2
theorem seg_in {f : Int → Bool} {a b : Int} (h : ∀ z, a ≤ z → z ≤ b → f z = false) : (seg a b).filter f = [] :=
  List.filter_eq_nil_iff.mpr fun z hz => by rw [h z (mem_seg.mp hz).1 (mem_seg.mp hz).2]; decide
def ins (l g : Int) (t : Sc) : Bool := decide (l < t.1 ∧ t.2 < g)
/-- the walk along the intervals: k of them are behind, st is where the next row begins -/
structure OI (zs : List Sc) (l g : Int) (k : Nat) (st : Int) (L : List Sc) : Prop where
  rows : rdL L = (seg l (st - 1)).filter (out zs)
  ge : l ≤ st
  bel : ∀ (i : Nat) (t : Sc), zs[i]? = some t → i < k → t.2 < st
  abv : ∀ (i : Nat) (t : Sc), zs[i]? = some t → k ≤ i → st ≤ t.2
  src : st = l ∨ ∃ (j : Nat) (t : Sc), j < k ∧ zs[j]? = some t ∧ t.1 ≤ g ∧ st = t.2 + 1
  few : L.length ≤ ((zs.take k).filter (ins l g)).length + if st ≤ g then 0 else 1
theorem OI.start {zs : List Sc} {l g : Int} {k : Nat} (b : ∀ (i : Nat) (t : Sc), zs[i]? = some t → i < k → t.2 < l) (a : ∀ (i : Nat) (t : Sc), zs[i]? = some t → k ≤ i → l ≤ t.2) : OI zs l g k l [] := by
  refine ⟨?_, Int.le_refl _, b, a, .inl rfl, Nat.zero_le _⟩
  rw [seg_nil (by omega)]
  rfl
theorem rd_seg {a b : Int} (h : a ≤ b) : rd (a, b) = seg a b := rd_up h
theorem out_no {zs : List Sc} {z : Int} {t : Sc} (h : t ∈ zs) (a : t.1 ≤ z) (b : z ≤ t.2) : out zs z = false := by
  refine Bool.eq_false_iff.mpr fun y => ?_
  have := out_iff.mp y t h
  omega
/-- between what is behind and the next interval all addresses are outside -/
theorem OI.free {zs : List Sc} (A : Asc zs) {l g : Int} {k : Nat} {st : Int} {L : List Sc} (I : OI zs l g k st L) {z : Int} (h1 : st ≤ z) (h2 : ∀ t, zs[k]? = some t → z < t.1) : out zs z = true := by
  refine out_iff.mpr fun t ht => ?_
  obtain ⟨i, hi⟩ := List.getElem?_of_mem ht
  by_cases c : i < k
  · have := I.bel i t hi c
    omega
  · by_cases e : i = k
    · subst e
      exact .inl (h2 t hi)
    · have lk : k < zs.length := by
        have := (List.getElem?_eq_some_iff.mp hi).1
        omega
      have hk := List.getElem?_eq_getElem lk
      have a := A.next hk hi (by omega)
      have b := A.leAt hk
      have := h2 _ hk
      omega
theorem OI.le_at {zs : List Sc} (A : Asc zs) {l g : Int} {k : Nat} {st : Int} {L : List Sc} (I : OI zs l g k st L) {t : Sc} (hk : zs[k]? = some t) (lg : l ≤ g) (hg : t.1 ≤ g) : st ≤ g := by
  rcases I.src with e | ⟨j, u, hj, hu, _, e⟩
  · omega
  · have := A.next hu hk hj
    omega
theorem OI.step {zs : List Sc} (A : Asc zs) {l g : Int} {k : Nat} {st : Int} {L : List Sc} (I : OI zs l g k st L) {t : Sc} (hk : zs[k]? = some t) (lg : l ≤ g) (hg : t.1 ≤ g) :
    OI zs l g (k + 1) (t.2 + 1) (if st < t.1 then L ++ [(st, t.1 - 1)] else L) := by
  have tl := A.leAt hk
  have ta := I.abv k t hk (Nat.le_refl _)
  have sg := I.le_at A hk lg hg
  have ge := I.ge
  have tm := List.mem_of_getElem? hk
  refine ⟨?_, by omega, fun i u hu hi => ?_, fun i u hu hi => ?_, .inr ⟨k, t, Nat.lt_succ_self _, hk, hg, rfl⟩, ?_⟩
  · rw [show t.2 + 1 - 1 = t.2 by omega]
    by_cases c : st < t.1
    · rw [if_pos c, rdL_app, I.rows, show rdL [(st, t.1 - 1)] = rd (st, t.1 - 1) from List.append_nil _, rd_seg (by omega)]
      have e1 := seg_app (b := t.1 - 1) (c := t.2) (by omega) _ l rfl (by omega)
      have e2 := seg_app (b := st - 1) (c := t.1 - 1) (by omega) _ l rfl (by omega)
      rw [show st - 1 + 1 = st by omega] at e2
      rw [← e1, ← e2, List.filter_append, List.filter_append, seg_out (a := st) (b := t.1 - 1) fun z h1 h2 => I.free A h1 fun u hu => ?_, seg_in (a := t.1 - 1 + 1) fun z h1 h2 => out_no tm (by omega) h2, List.append_nil]
      rw [hk] at hu
      cases hu
      omega
    · rw [if_neg c, I.rows]
      have e1 := seg_app (b := st - 1) (c := t.2) (by omega) _ l rfl (by omega)
      rw [← e1, List.filter_append, seg_in (a := st - 1 + 1) fun z h1 h2 => out_no tm (by omega) h2, List.append_nil]
  · by_cases c : i < k
    · have := A.next hu hk c
      omega
    · have : i = k := by omega
      subst this
      rw [hk] at hu
      cases hu
      omega
  · have a := A.next hk hu (by omega)
    have b := A.leAt hu
    omega
  · have f := I.few
    rw [if_pos sg] at f
    have e : (zs.take (k + 1)).filter (ins l g) = (zs.take k).filter (ins l g) ++ if ins l g t = true then [t] else [] := by
      rw [List.take_add_one, hk, List.filter_append]
      congr 1
      show [t].filter _ = _
      rw [List.filter_cons]
      rfl
    rw [e, List.length_append]
    by_cases c : st < t.1
    · rw [if_pos c, List.length_append, List.length_singleton]
      by_cases d : t.2 + 1 ≤ g
      · rw [if_pos d, if_pos (show ins l g t = true from decide_eq_true ⟨by omega, by omega⟩), List.length_singleton]
        omega
      · rw [if_neg d]
        omega
    · rw [if_neg c]
      omega
theorem OI.stop {zs : List Sc} (A : Asc zs) {l g : Int} {k : Nat} {st : Int} {L : List Sc} (I : OI zs l g k st L) (hk : ∀ t, zs[k]? = some t → g < t.1) (lg : l ≤ g) :
    rdL (if st ≤ g then L ++ [(st, g)] else L) = (seg l g).filter (out zs) ∧ (if st ≤ g then L ++ [(st, g)] else L).length ≤ 1 + (zs.filter (ins l g)).length := by
  have ge := I.ge
  have f := I.few
  have tk : ((zs.take k).filter (ins l g)).length ≤ (zs.filter (ins l g)).length := ((List.take_sublist k zs).filter _).length_le
  by_cases c : st ≤ g
  · rw [if_pos c]
    rw [if_pos c] at f
    refine ⟨?_, by rw [List.length_append, List.length_singleton]; omega⟩
    rw [rdL_app, I.rows, show rdL [(st, g)] = rd (st, g) from List.append_nil _, rd_seg c]
    have e2 := seg_app (b := st - 1) (c := g) (by omega) _ l rfl (by omega)
    rw [show st - 1 + 1 = st by omega] at e2
    rw [← e2, List.filter_append, seg_out (a := st) fun z h1 h2 => I.free A h1 fun u hu => by have := hk u hu; omega]
  · rw [if_neg c]
    rw [if_neg c] at f
    refine ⟨?_, by omega⟩
    rcases I.src with e | ⟨j, u, hj, hu, hg, e⟩
    · omega
    · rw [I.rows]
      have e2 := seg_app (b := g) (c := st - 1) (by omega) _ l rfl (by omega)
      rw [← e2, List.filter_append, seg_in (a := g + 1) fun z h1 h2 => out_no (List.mem_of_getElem? hu) (by omega) (by omega), List.append_nil]
theorem OI.all {zs : List Sc} (A : Asc zs) {s : Sc} {k : Nat} {st : Int} {L : List Sc} (I : OI zs (lo s) (hi s) k st L) (hk : ∀ t, zs[k]? = some t → hi s < t.1) :
    rdL (if s.1 ≤ s.2 then (if st ≤ hi s then L ++ [(st, hi s)] else L) else (if st ≤ hi s then L ++ [(st, hi s)] else L).reverse.map swp) = (rd s).filter (out zs) := by
  have z := (I.stop A hk (lo_hi s)).1
  by_cases c : s.1 ≤ s.2
  · rw [if_pos c, z, rd_up c]
    unfold lo hi
    rw [if_neg (by omega)]
    congr 2
    split <;> omega
  · rw [if_neg c, rdL_rev, z, rd_dn (by omega), ← List.filter_reverse]
    unfold lo hi
    rw [if_pos (by omega), if_neg (by omega)]
/-! ### how many rows there are -/
def cntS (ss zs : List Sc) : Nat := (ss.map fun s => (zs.filter (ins (lo s) (hi s))).length).sum
theorem cntS_le (ss zs : List Sc) : cntS ss zs ≤ ss.length * zs.length := by
  unfold cntS
  induction ss with
  | nil => exact Nat.zero_le _
  | cons s r ih =>
    rw [List.map_cons, List.sum_cons, List.length_cons, Nat.succ_mul]
    have := List.length_filter_le (ins (lo s) (hi s)) zs
    omega
theorem cntS_apart {ss : List Sc} (d : ss.Pairwise Apart) : ∀ {zs : List Sc}, (∀ t ∈ zs, t.1 ≤ t.2) → cntS ss zs ≤ zs.length
  | [], _ => by
    unfold cntS
    rw [show (ss.map fun s => (([] : List Sc).filter (ins (lo s) (hi s))).length) = ss.map fun _ => 0 from rfl]
    clear d
    induction ss with
    | nil => exact Nat.le_refl _
    | cons s r ih => rw [List.map_cons, List.sum_cons]; exact (Nat.zero_add _).symm ▸ ih
  | z :: zs, h => by
    have ih := cntS_apart d (zs := zs) fun t ht => h t (List.mem_cons_of_mem _ ht)
    have hz := h z List.mem_cons_self
    have e : ∀ l : List Sc, cntS l (z :: zs) = cntS l zs + (l.filter fun s => ins (lo s) (hi s) z).length := by
      intro l
      induction l with
      | nil => rfl
      | cons s r ihr =>
        unfold cntS at ihr ⊢
        rw [List.map_cons, List.sum_cons, List.map_cons, List.sum_cons, ihr, List.filter_cons, List.filter_cons]
        split
        · rw [List.length_cons, List.length_cons]
          omega
        · omega
    have o : (ss.filter fun s => ins (lo s) (hi s) z).length ≤ 1 := by
      clear e ih h
      induction ss with
      | nil => exact Nat.zero_le _
      | cons s r ihr =>
        obtain ⟨d1, d2⟩ := List.pairwise_cons.mp d
        rw [List.filter_cons]
        split
        · rename_i c
          have c : lo s < z.1 ∧ z.2 < hi s := of_decide_eq_true c
          rw [List.filter_eq_nil_iff.mpr fun t ht y => ?_]
          · exact Nat.le_refl _
          · have y : lo t < z.1 ∧ z.2 < hi t := of_decide_eq_true y
            rcases d1 t ht with q | q <;> omega
        · exact ihr d2
    rw [e, List.length_cons]
    omega
theorem Apart.one (s : Sc) : [s].Pairwise Apart := List.pairwise_singleton _ _
/-! ### promises -/
def spReach : Sp := fun vs H Q _ => ∃ (p : Addr) (zs : List Sc) (a : Int), vs = [.ref p, .int a] ∧ Scs H p zs ∧ zs.length ≤ 2 ^ 20 ∧ Asc zs ∧
  ∀ k : Nat, k ≤ zs.length → (∀ (i : Nat) (t : Sc), zs[i]? = some t → i < k → t.2 < a) → (∀ (i : Nat) (t : Sc), zs[i]? = some t → k ≤ i → a ≤ t.2) → RetV (.int k) H Q
def spOutside : Sp := fun vs H Q _ => ∃ (v : V) (p : Addr) (s : Sc) (zs : List Sc), vs = [v, .ref p] ∧ IsSc H v s ∧ Scs H p zs ∧ zs.length ≤ 1000 ∧ Asc zs ∧
  ∀ q H' rows, H q = none → Ex H H' → Scs H' q rows → rdL rows = (rd s).filter (out zs) → rows.length ≤ 1 + (zs.filter (ins (lo s) (hi s))).length → Q (.ref q) H'
def spOthers : Sp := fun vs H Q _ => ∃ (a t : Addr) (ss ts : List Sc), vs = [.ref a, .ref t] ∧ Scs H a ss ∧ Scs H t ts ∧ ss.length ≤ 1000 ∧ ts.length ≤ 1000 ∧ ts.Pairwise Apart ∧
  ∀ p H' rows, H p = none → Ex H H' → Scs H' p rows → rdL rows = (rdL ss).filter (outL ts) → rows.length ≤ ss.length * (ts.length + 1) → (ss.Pairwise Apart → rows.length ≤ ss.length + ts.length) → Q (.ref p) H'
def spAllOut : Sp := fun vs H Q _ => ∃ (a : Addr) (ss : List Sc) (l h : Int), vs = [.ref a, .int l, .int h] ∧ Scs H a ss ∧ ss.length ≤ 1000 ∧ l ≤ h ∧
  ∀ p H' rows, H p = none → Ex H H' → Scs H' p rows → rdL rows = (rdL ss).filter (fun z => !decide (l ≤ z ∧ z ≤ h)) → rows.length ≤ 2 * ss.length → (ss.Pairwise Apart → rows.length ≤ ss.length + 1) → Q (.ref p) H'
def spFirstOf : Sp := fun vs H Q _ => ∃ (a : Addr) (ss : List Sc) (m : Int), vs = [.ref a, .int m] ∧ Scs H a ss ∧ ss.length ≤ 1000 ∧ ∀ p H', H p = none → Ex H H' → Scs H' p (fpart ss m) → Q (.ref p) H'
def ahead (ts ss : List Sc) : List Sc := jn (dup (rdL ts ++ (rdL ss).filter (outL ts)))
def spAhead : Sp := fun vs H Q _ => ∃ (t a : Addr) (ts ss : List Sc), vs = [.ref t, .ref a] ∧ Scs H t ts ∧ Scs H a ss ∧ ts.length ≤ 1000 ∧ ss.length ≤ 1000 ∧ ts.Pairwise Apart ∧
  ∀ p H', H p = none → Ex H H' → Scs H' p (ahead ts ss) → (ss.Pairwise Apart → (ahead ts ss).length ≤ 2 * ts.length + ss.length) → Q (.ref p) H'
end Kb

namespace Kb
/-! ### pieces of profiles, without a program -/
abbrev Pc := Int × Int × Int
def wt (G : Int → Int) : List Pc → Int
  | [] => 0
  | p :: r => p.2.2 * (G p.1 - G (p.2.1 + 1)) + wt G r
def ind (x y : Int) : Int := if y = x then 1 else 0
def chg (ps : List Pc) (x : Int) : Int := wt (ind x) ps
def sumG (c G : Int → Int) : List Int → Int
  | [] => 0
  | k :: r => c k * G k + sumG c G r
theorem wt_app (G : Int → Int) : ∀ a b : List Pc, wt G (a ++ b) = wt G a + wt G b
  | [], b => by simp [wt]
  | p :: r, b => by
    show _ + wt G (r ++ b) = _ + wt G r + wt G b
    rw [wt_app G r b]
    omega
theorem sumG_perm {c G : Int → Int} {a b : List Int} (h : a.Perm b) : sumG c G a = sumG c G b := by
  induction h with
  | nil => rfl
  | cons x _ ih =>
    show _ + _ = _ + _
    rw [ih]
  | swap x y l =>
    show c y * G y + (c x * G x + sumG c G l) = c x * G x + (c y * G y + sumG c G l)
    omega
  | trans _ _ h1 h2 => exact h1.trans h2
theorem sumG_filter {c G : Int → Int} : ∀ ks : List Int, sumG c G (ks.filter fun k => decide (c k ≠ 0)) = sumG c G ks
  | [] => rfl
  | k :: r => by
    rw [List.filter_cons]
    by_cases h : c k = 0
    · rw [if_neg (by simp [h]), sumG_filter r]
      show _ = c k * G k + _
      rw [h]
      omega
    · rw [if_pos (by simp [h])]
      show c k * G k + _ = c k * G k + _
      rw [sumG_filter r]
theorem sumG_add {c d G : Int → Int} : ∀ ks : List Int, sumG (fun x => c x + d x) G ks = sumG c G ks + sumG d G ks
  | [] => rfl
  | k :: r => by
    show (c k + d k) * G k + sumG _ G r = (c k * G k + _) + (d k * G k + _)
    rw [sumG_add r, Int.add_mul]
    omega
theorem sumG_sub {c d G : Int → Int} : ∀ ks : List Int, sumG (fun x => c x - d x) G ks = sumG c G ks - sumG d G ks
  | [] => rfl
  | k :: r => by
    show (c k - d k) * G k + sumG _ G r = (c k * G k + _) - (d k * G k + _)
    rw [sumG_sub r, Int.sub_mul]
    omega
theorem sumG_ind {t l : Int} {G : Int → Int} : ∀ {ks : List Int}, ks.Nodup → sumG (fun x => t * ind x l) G ks = if l ∈ ks then t * G l else 0
  | [], _ => by simp [sumG]
  | k :: r, nd => by
    have n := List.nodup_cons.mp nd
    show t * ind k l * G k + sumG _ G r = _
    rw [sumG_ind n.2]
    by_cases h : l = k
    · subst h
      rw [if_neg n.1, if_pos (List.mem_cons_self ..)]
      unfold ind
      rw [if_pos rfl]
      simp
    · have : ind k l = 0 := if_neg h
      rw [this]
      by_cases m : l ∈ r
      · rw [if_pos m, if_pos (List.mem_cons_of_mem _ m)]
        simp
      · rw [if_neg m, if_neg (by simp [h, m])]
        simp
theorem sumG_wt {G : Int → Int} {ks : List Int} (nd : ks.Nodup) : ∀ {ps : List Pc}, (∀ p ∈ ps, p.1 ∈ ks ∧ p.2.1 + 1 ∈ ks) → sumG (chg ps) G ks = wt G ps
  | [], _ => by
    have z : ∀ ks : List Int, sumG (chg []) G ks = 0 := fun ks => by
      induction ks with
      | nil => rfl
      | cons k r ih =>
        show 0 * G k + _ = 0
        rw [ih]
        omega
    exact z ks
  | p :: r, h => by
    have hp := h p (List.mem_cons_self ..)
    have e : chg (p :: r) = fun x => (fun x => (fun x => p.2.2 * ind x p.1) x - (fun x => p.2.2 * ind x (p.2.1 + 1)) x) x + chg r x := by
      funext x
      show p.2.2 * (ind x p.1 - ind x (p.2.1 + 1)) + wt (ind x) r = _
      rw [Int.mul_sub]
      rfl
    rw [e, sumG_add, sumG_sub, sumG_ind nd, sumG_ind nd, if_pos hp.1, if_pos hp.2, sumG_wt nd fun q hq => h q (List.mem_cons_of_mem _ hq)]
    show _ = p.2.2 * (G p.1 - G (p.2.1 + 1)) + _
    rw [Int.mul_sub]
/-! ### the rows between the turns -/
def rowsG (c : Int → Int) : List Int → Int → List Pc
  | [], _ => []
  | [_], _ => []
  | s :: f :: r, now => if now + c s ≠ 0 then (s, f - 1, now + c s) :: rowsG c (f :: r) (now + c s) else rowsG c (f :: r) (now + c s)
def lastD (s : Int) : List Int → Int
  | [] => s
  | f :: r => lastD f r
theorem rowsG_wt {c G : Int → Int} : ∀ (r : List Int) (s now : Int), wt G (rowsG c (s :: r) now) = sumG c G (s :: r) + now * G s - (now + sumG c (fun _ => 1) (s :: r)) * G (lastD s r)
  | [], s, now => by
    show 0 = c s * G s + 0 + now * G s - (now + (c s * 1 + 0)) * G s
    rw [Int.mul_one, Int.add_zero, Int.add_zero, Int.add_mul]
    omega
  | f :: r, s, now => by
    have ih := rowsG_wt (c := c) (G := G) r f (now + c s)
    have e1 : wt G (rowsG c (s :: f :: r) now) = (now + c s) * (G s - G f) + wt G (rowsG c (f :: r) (now + c s)) := by
      show wt G (if now + c s ≠ 0 then _ else _) = _
      by_cases h : now + c s = 0
      · rw [if_neg (by simp [h]), h]
        omega
      · rw [if_pos h]
        show (now + c s) * (G s - G (f - 1 + 1)) + _ = _
        rw [Int.sub_add_cancel]
    rw [e1, ih]
    show _ = c s * G s + sumG c G (f :: r) + now * G s - (now + (c s * 1 + sumG c (fun _ => 1) (f :: r))) * G (lastD f r)
    rw [Int.mul_one, ← Int.add_assoc now (c s), Int.mul_sub, Int.add_mul now (c s) (G s)]
    omega
/-- as few pieces as possible, ascending -/
def Can : List Pc → Prop
  | [] => True
  | p :: r => p.1 ≤ p.2.1 ∧ p.2.2 ≠ 0 ∧ (∀ q ∈ r.head?, p.2.1 < q.1 ∧ (p.2.1 + 1 = q.1 → p.2.2 ≠ q.2.2)) ∧ Can r
theorem rowsG_can {c : Int → Int} : ∀ (r : List Int) (s now : Int), (s :: r).Pairwise (· < ·) → (∀ x ∈ s :: r, c x ≠ 0) → Can (rowsG c (s :: r) now) ∧ ∀ q ∈ (rowsG c (s :: r) now).head?, s ≤ q.1 ∧ (s = q.1 → now ≠ q.2.2)
  | [], s, now, _, _ => ⟨trivial, fun q h => by cases h⟩
  | f :: r, s, now, o, h => by
    have o2 := List.pairwise_cons.mp o
    have lt : s < f := o2.1 f (List.mem_cons_self ..)
    have hs := h s (List.mem_cons_self ..)
    obtain ⟨ih1, ih2⟩ := rowsG_can r f (now + c s) o2.2 fun x hx => h x (List.mem_cons_of_mem _ hx)
    show Can (if now + c s ≠ 0 then _ else _) ∧ ∀ q ∈ (if now + c s ≠ 0 then _ else _ : List Pc).head?, _
    by_cases z : now + c s = 0
    · rw [if_neg (by simp [z])]
      refine ⟨ih1, fun q hq => ?_⟩
      have := ih2 q hq
      exact ⟨by omega, fun e => by omega⟩
    · rw [if_pos z]
      refine ⟨⟨by show s ≤ f - 1; omega, z, fun q hq => ?_, ih1⟩, fun q hq => ?_⟩
      · have := ih2 q hq
        exact ⟨by show f - 1 < q.1; omega, fun e => this.2 (by have e' : f - 1 + 1 = q.1 := e; omega)⟩
      · cases hq
        exact ⟨Int.le_refl _, fun _ e => hs (by have e' : now = now + c s := e; omega)⟩
theorem rowsG_len {c : Int → Int} : ∀ (r : List Int) (s now : Int), (rowsG c (s :: r) now).length ≤ r.length
  | [], s, now => Nat.le_refl _
  | f :: r, s, now => by
    have ih := rowsG_len (c := c) r f (now + c s)
    show (if now + c s ≠ 0 then _ else _ : List Pc).length ≤ _
    split
    · exact Nat.succ_le_succ ih
    · exact Nat.le_succ_of_le ih
/-- THE fact about flattened: rows with the same weights, as few as possible -/
theorem flat_ok {ps : List Pc} {ks ts : List Int} (nd : ks.Nodup) (hk : ∀ p ∈ ps, p.1 ∈ ks ∧ p.2.1 + 1 ∈ ks) (hp : ts.Perm (ks.filter fun k => decide (chg ps k ≠ 0))) (o : ts.Pairwise (· ≤ ·)) :
    Can (rowsG (chg ps) ts 0) ∧ (∀ G, wt G (rowsG (chg ps) ts 0) = wt G ps) ∧ (rowsG (chg ps) ts 0).length ≤ ks.length := by
  have tot : ∀ G, sumG (chg ps) G ts = wt G ps := fun G => by rw [sumG_perm hp, sumG_filter, sumG_wt nd hk]
  have nt : ts.Nodup := hp.nodup_iff.mpr (nd.sublist List.filter_sublist)
  have o2 : ts.Pairwise (· < ·) := by
    have := o.and nt
    exact this.imp fun ⟨a, b⟩ => by omega
  have hz : ∀ x ∈ ts, chg ps x ≠ 0 := fun x hx => by
    have := (List.mem_filter.mp (hp.mem_iff.mp hx)).2
    simpa using this
  have hl : ts.length ≤ ks.length := by
    rw [hp.length_eq]
    exact List.length_filter_le _ _
  cases ts with
  | nil =>
    refine ⟨trivial, fun G => ?_, Nat.zero_le _⟩
    rw [← tot G]
    rfl
  | cons s r =>
    refine ⟨(rowsG_can r s 0 o2 hz).1, fun G => ?_, Nat.le_trans (rowsG_len r s 0) (by have : (s :: r).length = r.length + 1 := rfl; omega)⟩
    rw [rowsG_wt, tot, tot]
    have one : wt (fun _ => 1) ps = 0 := by
      clear tot hz hk hp
      induction ps with
      | nil => rfl
      | cons p r ih =>
        show p.2.2 * (1 - 1) + wt _ r = 0
        rw [ih]
        simp
    rw [one]
    simp
/-! ### what weights tell -/
def at1 (p : Pc) (d : Int) : Int := if p.1 ≤ d ∧ d ≤ p.2.1 then p.2.2 else 0
def atP (ps : List Pc) (d : Int) : Int := (ps.map fun p => at1 p d).sum
def be1 (p : Pc) (s : Int) : Int := p.2.2 * max 0 (p.2.1 - max (p.1 - 1) s)
def bey (ps : List Pc) (s : Int) : Int := (ps.map fun p => be1 p s).sum
theorem atP_cons (p : Pc) (r : List Pc) (d : Int) : atP (p :: r) d = at1 p d + atP r d := by simp [atP]
theorem bey_cons (p : Pc) (r : List Pc) (d : Int) : bey (p :: r) d = be1 p d + bey r d := by simp [bey]
theorem bey_app (a b : List Pc) (d : Int) : bey (a ++ b) d = bey a d + bey b d := by simp [bey]
theorem bey_rev (a : List Pc) (d : Int) : bey a.reverse d = bey a d := by
  induction a with
  | nil => rfl
  | cons p r ih =>
    rw [List.reverse_cons, bey_app, ih, bey_cons, bey_cons]
    show _ + (_ + 0) = _
    omega
theorem atP_wt (d : Int) : ∀ {ps : List Pc}, (∀ p ∈ ps, p.1 ≤ p.2.1) → atP ps d = wt (fun y => if y ≤ d then 1 else 0) ps
  | [], _ => rfl
  | p :: r, h => by
    have hp := h p (List.mem_cons_self ..)
    rw [atP_cons, atP_wt d fun q hq => h q (List.mem_cons_of_mem _ hq)]
    show _ = p.2.2 * (_ - _) + _
    congr 1
    show _ = p.2.2 * ((if p.1 ≤ d then 1 else 0) - (if p.2.1 + 1 ≤ d then 1 else 0))
    unfold at1
    by_cases a : p.1 ≤ d
    · by_cases b : d ≤ p.2.1
      · rw [if_pos ⟨a, b⟩, if_pos a, if_neg (by omega)]
        omega
      · rw [if_neg (fun z => b z.2), if_pos a, if_pos (by omega)]
        omega
    · rw [if_neg (fun z => a z.1), if_neg a, if_neg (by omega)]
      omega
theorem bey_wt (s : Int) : ∀ {ps : List Pc}, (∀ p ∈ ps, p.1 ≤ p.2.1) → bey ps s = wt (fun y => -(max 0 (y - 1 - s))) ps
  | [], _ => rfl
  | p :: r, h => by
    have hp := h p (List.mem_cons_self ..)
    rw [bey_cons, bey_wt s fun q hq => h q (List.mem_cons_of_mem _ hq)]
    show _ = p.2.2 * (_ - _) + _
    congr 1
    unfold be1
    congr 1
    show _ = -(max 0 (p.1 - 1 - s)) - -(max 0 (p.2.1 + 1 - 1 - s))
    omega
theorem Can.le : ∀ {rs : List Pc}, Can rs → ∀ p ∈ rs, p.1 ≤ p.2.1
  | p :: r, h, q, hq => by
    rcases List.mem_cons.mp hq with rfl | hq
    · exact h.1
    · exact Can.le h.2.2.2 q hq
theorem Can.above : ∀ {p : Pc} {r : List Pc}, Can (p :: r) → ∀ q ∈ r, p.2.1 < q.1
  | p, q :: r, h, x, hx => by
    have h1 := (h.2.2.1 q rfl).1
    rcases List.mem_cons.mp hx with rfl | hx
    · exact h1
    · have := Can.above h.2.2.2 x hx
      have := h.2.2.2.1
      omega
theorem atP_zero {ps : List Pc} {d : Int} (h : ∀ p ∈ ps, d < p.1 ∨ p.2.1 < d) : atP ps d = 0 := by
  induction ps with
  | nil => rfl
  | cons p r ih =>
    rw [atP_cons, ih fun q hq => h q (List.mem_cons_of_mem _ hq)]
    unfold at1
    rw [if_neg]
    · rfl
    · have := h p (List.mem_cons_self ..)
      omega
/-- in the fewest pieces each distance is told by one -/
theorem Can.at : ∀ {rs : List Pc}, Can rs → ∀ p ∈ rs, ∀ d, p.1 ≤ d → d ≤ p.2.1 → atP rs d = p.2.2
  | p :: r, h, q, hq, d, h1, h2 => by
    rw [atP_cons]
    rcases List.mem_cons.mp hq with rfl | hq
    · rw [atP_zero fun x hx => by have := Can.above h x hx; omega]
      unfold at1
      rw [if_pos ⟨h1, h2⟩]
      omega
    · rw [Can.at h.2.2.2 q hq d h1 h2]
      unfold at1
      rw [if_neg]
      · omega
      · have := Can.above h q hq
        omega
def Pok (p : Pc) : Prop := 1 ≤ p.1 ∧ p.1 ≤ p.2.1 ∧ 1 ≤ p.2.2
def tsum (ps : List Pc) : Int := (ps.map fun p => p.2.2).sum
theorem atP_le : ∀ {ps : List Pc}, (∀ p ∈ ps, Pok p) → ∀ d, 0 ≤ atP ps d ∧ atP ps d ≤ tsum ps
  | [], _, d => ⟨Int.le_refl _, Int.le_refl _⟩
  | p :: r, h, d => by
    have hp := h p (List.mem_cons_self ..)
    have ih := atP_le (fun q hq => h q (List.mem_cons_of_mem _ hq)) d
    have e : tsum (p :: r) = p.2.2 + tsum r := by simp [tsum]
    rw [atP_cons, e]
    unfold at1
    have := hp.2.2
    split <;> omega
theorem atP_pos {ps : List Pc} {d : Int} (h : atP ps d ≠ 0) : ∃ p ∈ ps, p.1 ≤ d ∧ d ≤ p.2.1 := by
  induction ps with
  | nil => exact absurd rfl h
  | cons p r ih =>
    by_cases c : p.1 ≤ d ∧ d ≤ p.2.1
    · exact ⟨p, List.mem_cons_self .., c⟩
    · rw [atP_cons] at h
      unfold at1 at h
      rw [if_neg c, Int.zero_add] at h
      obtain ⟨q, hq, e⟩ := ih h
      exact ⟨q, List.mem_cons_of_mem _ hq, e⟩
/-- pieces rs that tell the same as valid pieces ps -/
structure Tells (ps rs : List Pc) : Prop where
  can : Can rs
  wt : ∀ G, wt G rs = wt G ps
theorem Tells.at {ps rs : List Pc} (T : Tells ps rs) (h : ∀ p ∈ ps, Pok p) (d : Int) : atP rs d = atP ps d := by
  rw [atP_wt d T.can.le, atP_wt d fun p hp => (h p hp).2.1, T.wt]
theorem Tells.bey {ps rs : List Pc} (T : Tells ps rs) (h : ∀ p ∈ ps, Pok p) (s : Int) : bey rs s = bey ps s := by
  rw [bey_wt s T.can.le, bey_wt s fun p hp => (h p hp).2.1, T.wt]
theorem Tells.row {ps rs : List Pc} (T : Tells ps rs) (h : ∀ p ∈ ps, Pok p) {p : Pc} (hp : p ∈ rs) : 1 ≤ p.1 ∧ p.1 ≤ p.2.1 ∧ 1 ≤ p.2.2 ∧ p.2.2 ≤ tsum ps ∧ ∃ q ∈ ps, p.2.1 ≤ q.2.1 := by
  have le := T.can.le p hp
  have a1 := T.can.at p hp p.1 (Int.le_refl _) le
  have a2 := T.can.at p hp p.2.1 le (Int.le_refl _)
  rw [T.at h] at a1 a2
  have b := atP_le h p.1
  have nz : p.2.2 ≠ 0 := by
    have f : ∀ {rs : List Pc}, Can rs → ∀ p ∈ rs, p.2.2 ≠ 0 := by
      intro rs
      induction rs with
      | nil => intro _ p hp; cases hp
      | cons q r ih =>
        intro c p hp
        rcases List.mem_cons.mp hp with rfl | hp
        · exact c.2.1
        · exact ih c.2.2.2 p hp
    exact f T.can p hp
  obtain ⟨q, hq, q1, q2⟩ := atP_pos (ps := ps) (d := p.1) (by rw [a1]; exact nz)
  obtain ⟨q', hq', _, q2'⟩ := atP_pos (ps := ps) (d := p.2.1) (by rw [a2]; exact nz)
  have := h q hq
  exact ⟨by have := this.1; omega, le, by omega, by omega, q', hq', q2'⟩
/-! ### the least size -/
def lcov : List Pc → Int → Int
  | [], _ => 0
  | p :: r, left => if (p.2.1 - p.1 + 1) * p.2.2 > left then p.2.1 - left / p.2.2 else lcov r (left - (p.2.1 - p.1 + 1) * p.2.2)
theorem bey_top {ps : List Pc} {s : Int} (h : ∀ p ∈ ps, p.2.1 ≤ s) : bey ps s = 0 := by
  induction ps with
  | nil => rfl
  | cons p r ih =>
    have := h p (List.mem_cons_self ..)
    rw [bey_cons, ih fun q hq => h q (List.mem_cons_of_mem _ hq)]
    unfold be1
    rw [show max 0 (p.2.1 - max (p.1 - 1) s) = 0 by omega]
    omega
theorem bey_nn {ps : List Pc} (h : ∀ p ∈ ps, Pok p) (s : Int) : 0 ≤ bey ps s := by
  induction ps with
  | nil => exact Int.le_refl _
  | cons p r ih =>
    have hp := h p (List.mem_cons_self ..)
    rw [bey_cons]
    have := ih fun q hq => h q (List.mem_cons_of_mem _ hq)
    have : 0 ≤ be1 p s := Int.mul_nonneg (by have := hp.2.2; omega) (by omega)
    omega
theorem be1_anti {p : Pc} (hp : 1 ≤ p.2.2) {s t : Int} (h : s ≤ t) : be1 p t ≤ be1 p s := Int.mul_le_mul_of_nonneg_left (by omega) (by omega)
theorem bey_anti {ps : List Pc} (h : ∀ p ∈ ps, Pok p) {s t : Int} (le : s ≤ t) : bey ps t ≤ bey ps s := by
  induction ps with
  | nil => exact Int.le_refl _
  | cons p r ih =>
    have hp := h p (List.mem_cons_self ..)
    rw [bey_cons, bey_cons]
    have := ih fun q hq => h q (List.mem_cons_of_mem _ hq)
    have := be1_anti hp.2.2 le
    omega
/-- highest first -/
def Desc (q : List Pc) : Prop := q.Pairwise fun a b => b.2.1 < a.1
theorem lcov_ok : ∀ {q : List Pc} {left : Int}, Desc q → (∀ p ∈ q, Pok p) → 0 ≤ left →
    0 ≤ lcov q left ∧ bey q (lcov q left) ≤ left ∧ (0 < lcov q left → left < bey q (lcov q left - 1)) ∧ ∀ m, 0 ≤ m → (∀ p ∈ q, p.2.1 ≤ m) → lcov q left ≤ m
  | [], left, _, _, h0 => ⟨Int.le_refl _, h0, fun z => absurd z (Int.lt_irrefl _), fun m h _ => h⟩
  | p :: r, left, d, ok, h0 => by
    have hp := ok p (List.mem_cons_self ..)
    obtain ⟨p1, p2, p3⟩ := hp
    have dd := List.pairwise_cons.mp d
    have ok' : ∀ q ∈ r, Pok q := fun q hq => ok q (List.mem_cons_of_mem _ hq)
    unfold lcov
    by_cases c : (p.2.1 - p.1 + 1) * p.2.2 > left
    · rw [if_pos c]
      have k0 : 0 ≤ left / p.2.2 := Int.ediv_nonneg h0 (by omega)
      have k1 : left / p.2.2 * p.2.2 ≤ left := Int.ediv_mul_le _ (by omega)
      have k2 : left < (left / p.2.2 + 1) * p.2.2 := Int.lt_ediv_add_one_mul_self _ (by omega)
      generalize left / p.2.2 = k at k0 k1 k2 ⊢
      have k3 : k < p.2.1 - p.1 + 1 := by
        have : k * p.2.2 < (p.2.1 - p.1 + 1) * p.2.2 := by omega
        exact Int.lt_of_mul_lt_mul_right this (by omega)
      have z1 : bey r (p.2.1 - k) = 0 := bey_top fun q hq => by have := dd.1 q hq; omega
      refine ⟨by omega, ?_, fun _ => ?_, fun m hm hx => ?_⟩
      · rw [bey_cons, z1]
        unfold be1
        rw [show max 0 (p.2.1 - max (p.1 - 1) (p.2.1 - k)) = k by omega, Int.mul_comm]
        omega
      · rw [bey_cons]
        have := bey_nn ok' (p.2.1 - k - 1)
        have e : be1 p (p.2.1 - k - 1) = (k + 1) * p.2.2 := by
          unfold be1
          rw [show max 0 (p.2.1 - max (p.1 - 1) (p.2.1 - k - 1)) = k + 1 by omega, Int.mul_comm]
        rw [e]
        omega
      · have := hx p (List.mem_cons_self ..)
        omega
    · rw [if_neg c]
      obtain ⟨i1, i2, i3, i4⟩ := lcov_ok (left := left - (p.2.1 - p.1 + 1) * p.2.2) dd.2 ok' (by omega)
      generalize hR : lcov r (left - (p.2.1 - p.1 + 1) * p.2.2) = R at i1 i2 i3 i4 ⊢
      have lR : R ≤ p.1 - 1 := i4 _ (by omega) fun q hq => by have := dd.1 q hq; omega
      have e : ∀ s, s ≤ p.1 - 1 → be1 p s = (p.2.1 - p.1 + 1) * p.2.2 := fun s hs => by
        unfold be1
        rw [show max 0 (p.2.1 - max (p.1 - 1) s) = p.2.1 - p.1 + 1 by omega, Int.mul_comm]
      refine ⟨i1, ?_, fun hz => ?_, fun m hm hx => i4 m hm fun q hq => hx q (List.mem_cons_of_mem _ hq)⟩
      · rw [bey_cons, e R lR]
        omega
      · rw [bey_cons, e (R - 1) (by omega)]
        have := i3 hz
        omega
theorem Can.desc : ∀ {rs : List Pc}, Can rs → Desc rs.reverse
  | [], _ => List.Pairwise.nil
  | p :: r, h => by
    show List.Pairwise _ (p :: r).reverse
    rw [List.reverse_cons, List.pairwise_append]
    refine ⟨Can.desc h.2.2.2, List.pairwise_singleton .., fun a ha b hb => ?_⟩
    rw [List.mem_singleton.mp hb]
    exact Can.above h a (List.mem_reverse.mp ha)
/-- the least size is told by its two sides -/
theorem least_unique {ps : List Pc} (ok : ∀ p ∈ ps, Pok p) {m a b : Int} (a0 : 0 ≤ a) (a1 : bey ps a ≤ m) (a2 : 0 < a → m < bey ps (a - 1)) (b0 : 0 ≤ b) (b1 : bey ps b ≤ m) (b2 : 0 < b → m < bey ps (b - 1)) : a = b := by
  rcases Int.lt_trichotomy a b with h | h | h
  · have := b2 (by omega)
    have := bey_anti ok (show a ≤ b - 1 by omega)
    omega
  · exact h
  · have := a2 (by omega)
    have := bey_anti ok (show b ≤ a - 1 by omega)
    omega
/-- two lists of the fewest pieces that tell the same are one -/
theorem Can.unique : ∀ {rs qs : List Pc}, Can rs → Can qs → (∀ d, atP rs d = atP qs d) → rs = qs := by
  have nil : ∀ {qs : List Pc}, Can qs → (∀ d, atP [] d = atP qs d) → qs = [] := by
    intro qs c h
    cases qs with
    | nil => rfl
    | cons q r =>
      have a := c.at q (List.mem_cons_self ..) q.1 (Int.le_refl _) c.1
      rw [← h] at a
      exact absurd a.symm c.2.1
  have lowest : ∀ {p q : Pc} {r s : List Pc}, Can (p :: r) → Can (q :: s) → (∀ d, atP (p :: r) d = atP (q :: s) d) → p.1 ≤ q.1 := by
    intro p q r s c1 c2 h
    by_cases z : p.1 ≤ q.1
    · exact z
    · have a := c2.at q (List.mem_cons_self ..) q.1 (Int.le_refl _) c2.1
      rw [← h, atP_zero fun x hx => by
        rcases List.mem_cons.mp hx with rfl | hx
        · omega
        · have := Can.above c1 x hx
          have := c1.1
          omega] at a
      exact absurd a.symm c2.2.1
  have ends : ∀ {p q : Pc} {r s : List Pc}, Can (p :: r) → Can (q :: s) → (∀ d, atP (p :: r) d = atP (q :: s) d) → p.1 = q.1 → p.2.2 = q.2.2 → p.2.1 ≤ q.2.1 := by
    intro p q r s c1 c2 h e1 e2
    by_cases z : p.2.1 ≤ q.2.1
    · exact z
    · have a := c1.at p (List.mem_cons_self ..) (q.2.1 + 1) (by have := c2.1; omega) (by omega)
      rw [h, atP_cons] at a
      unfold at1 at a
      rw [if_neg (by omega), Int.zero_add] at a
      obtain ⟨x, hx, x1, x2⟩ := atP_pos (by rw [a]; exact c1.2.1)
      have := Can.above c2 x hx
      have ex : x.1 = q.2.1 + 1 := by omega
      have ax := c2.2.2.2.at x hx (q.2.1 + 1) x1 x2
      rw [a] at ax
      cases s with
      | nil => cases hx
      | cons y s =>
        have hy := c2.2.2.1 y rfl
        rcases List.mem_cons.mp hx with rfl | hx
        · exact absurd (by rw [← ax, e2]) (hy.2 ex.symm)
        · have := Can.above c2.2.2.2 x hx
          have := c2.2.2.2.1
          omega
  intro rs
  induction rs with
  | nil => intro qs c1 c2 h; exact (nil c2 h).symm
  | cons p r ih =>
    intro qs c1 c2 h
    cases qs with
    | nil => exact absurd (nil c1 fun d => (h d).symm) (by simp)
    | cons q s =>
      have e1 : p.1 = q.1 := Int.le_antisymm (lowest c1 c2 h) (lowest c2 c1 fun d => (h d).symm)
      have e2 : p.2.2 = q.2.2 := by
        have a := c1.at p (List.mem_cons_self ..) p.1 (Int.le_refl _) c1.1
        have b := c2.at q (List.mem_cons_self ..) p.1 (by omega) (by have := c2.1; omega)
        rw [h] at a
        rw [← a, ← b]
      have e3 : p.2.1 = q.2.1 := Int.le_antisymm (ends c1 c2 h e1 e2) (ends c2 c1 (fun d => (h d).symm) e1.symm e2.symm)
      have ep : p = q := by
        obtain ⟨x, y, z⟩ := p
        obtain ⟨x', y', z'⟩ := q
        simp only at e1 e2 e3
        rw [e1, e2, e3]
      subst ep
      rw [ih c1.2.2.2 c2.2.2.2 fun d => by have := h d; rw [atP_cons, atP_cons] at this; omega]
end Kb

namespace Kb
open PySem PySem.Spec PyProof.Rows L2
/-! ### heaps that grow, while ponds are drawn from -/
def Plain : HO → Prop
  | .ext _ => False
  | _ => True
def Nx (H H' : Hp) : Prop := ∀ a o, H a = some o → ∃ o', H' a = some o' ∧ (Plain o → o' = o)
theorem Ex.nx {H H' : Hp} (e : Ex H H') : Nx H H' := fun a o h => ⟨o, e a o h, fun _ => rfl⟩
theorem Nx.refl (H : Hp) : Nx H H := (Ex.refl H).nx
theorem Nx.trans {H H1 H2 : Hp} (a : Nx H H1) (b : Nx H1 H2) : Nx H H2 := fun x o h => by
  obtain ⟨o1, h1, p1⟩ := a x o h
  obtain ⟨o2, h2, p2⟩ := b x o1 h1
  refine ⟨o2, h2, fun p => ?_⟩
  have e1 := p1 p
  subst e1
  exact p2 p
theorem Nx.at {H H' : Hp} {a : Addr} {o : HO} (e : Nx H H') (h : H a = some o) (p : Plain o := by trivial) : H' a = some o := by
  obtain ⟨o1, h1, p1⟩ := e a o h
  rw [h1, p1 p]
theorem Nx.back {H H' : Hp} {p : Addr} (e : Nx H H') (h : H' p = none) : H p = none := by
  cases h1 : H p with
  | none => rfl
  | some o =>
    obtain ⟨o1, h2, _⟩ := e p o h1
    rw [h] at h2
    cases h2
theorem Nx.add {H H' : Hp} {p : Addr} {o : HO} (e : Nx H H') (h : H' p = none) : Nx H (upd H' p o) := e.trans (Ex.new h).nx
theorem Nx.mut {H H' : Hp} {p : Addr} {o : HO} (e : Nx H H') (h : H p = none) : Nx H (upd H' p o) := fun a u ha => by
  rw [upd_ne (ne_of_none ha h)]
  exact e a u ha
/-! ### a pond: a list of three ints; its last one counts how often it was drawn from -/
structure Pn (n : Nat) (c t : Int) : Prop where
  c0 : 0 ≤ c
  c1 : c ≤ 10 ^ 45
  t0 : 0 ≤ t
  t1 : t ≤ (n : Int)
theorem Pn.mono {n m : Nat} {c t : Int} (h : Pn n c t) (le : n ≤ m) : Pn m c t := ⟨h.c0, h.c1, h.t0, by have := h.t1; omega⟩
def pondP (n : Nat) (b : Addr) (h : Heap) : Prop := ∃ (x c t : Int) (its : List Value) (k : Nat), Pn n c t ∧ Vals [V.int x, V.int c, V.int t] its ∧ h.get? b = some { cls := .type "list", data := .seq its.toArray k }
def pondO (n : Nat) (b : Addr) : HO := .ext (pondP n b)
theorem pond_ok {P : Program} {w : World} {H H1 : Hp} {h : Heap} {b : Addr} {n : Nat} {x c t : Int} (k : Pn n c t) (e : ObjOk P w H h b (.lst [.int x, .int c, .int t])) : ObjOk P w H1 h b (pondO n b) := by
  obtain ⟨_, its, m, r, g⟩ := e
  exact ⟨⟨x, c, t, its, m, k, r, g⟩, ⟨_, g⟩, fun h1 h2 p k => by
    obtain ⟨x, c, t, its, m, y, r, g⟩ := p
    exact ⟨x, c, t, its, m, y, r, k _ g⟩⟩
theorem pond_open {P : Program} {w : World} {H : Hp} {h : Heap} {b : Addr} {n : Nat} (ok : HOk P w H h) (e : H b = some (pondO n b)) : ∃ x c t : Int, Pn n c t ∧ HOk P w (upd H b (.lst [.int x, .int c, .int t])) h := by
  obtain ⟨⟨x, c, t, its, m, k, r, g⟩, _, _⟩ : ObjOk P w H h b (.ext (pondP n b)) := ok b _ e
  refine ⟨x, c, t, k, fun a o q => ?_⟩
  by_cases hb : a = b
  · subst hb
    rw [upd_same] at q
    cases q
    exact ⟨by show 3 ≤ sizeLine; decide, its, m, r, g⟩
  · rw [upd_ne hb] at q
    refine (ok a o q).stay (fun _ _ _ z => z) (fun d z => ?_) fun d xs z => ?_
    · rw [upd_ne]
      · exact z
      · intro y
        rw [y, e] at z
        cases (show HO.ext (pondP n b) = .own a from Option.some.inj z)
    · rw [upd_ne]
      · exact z
      · intro y
        rw [y, e] at z
        cases (show HO.ext (pondP n b) = .tup xs from Option.some.inj z)
theorem pond_close {P : Program} {w : World} {H : Hp} {h : Heap} {b : Addr} {n : Nat} {x c t : Int} (k : Pn n c t) (ok : HOk P w H h) (e : H b = some (.lst [.int x, .int c, .int t])) : HOk P w (upd H b (pondO n b)) h := fun a o q => by
  by_cases hb : a = b
  · subst hb
    rw [upd_same] at q
    cases q
    exact pond_ok k (ok a _ e)
  · rw [upd_ne hb] at q
    refine (ok a o q).stay (fun _ _ _ z => z) (fun d z => ?_) fun d xs z => ?_
    · rw [upd_ne]
      · exact z
      · intro y
        rw [y, e] at z
        cases z
    · rw [upd_ne]
      · exact z
      · intro y
        rw [y, e] at z
        cases z
/-- a promise about a list of three ints, said of a pond -/
theorem pond_fn {P : Program} {w : World} {K : PySem.W.Frag} {mg : Str → Option Value} {base : Heap} {k : Nat} {f : Addr} {fd : FuncData} {ps : List Str} {sp sp' : Sp} (F : FnOk P w K mg base CX0 k f fd ps sp)
    (h : ∀ vs H Q E, sp' vs H Q E → vs.length = ps.length ∧ ∃ b n m, H b = some (pondO n b) ∧ ∀ x c t : Int, Pn n c t → sp vs (upd H b (.lst [.int x, .int c, .int t])) (fun v H2 => ∃ x c t : Int, Pn m c t ∧ H2 b = some (.lst [.int x, .int c, .int t]) ∧ Q v (upd H2 b (pondO m b))) E) :
    FnOk P w K mg base CX0 k f fd ps sp' := by
  refine ⟨fun vs H Q E q => (h _ _ _ _ q).1, fun A outer s H args us vs Q E hr he hb hv hs => ?_⟩
  obtain ⟨_, b, n, m, eb, q⟩ := h _ _ _ _ hs
  obtain ⟨x, c, t, pk, ok⟩ := pond_open he.hok eb
  have ne : ∀ {d : Addr}, H d = none → d ≠ b := fun {d} n z => by
    rw [z, eb] at n
    cases n
  have e2 : Env0 P w K mg base A outer s (upd H b (.lst [.int x, .int c, .int t])) :=
    ⟨he.frames, he.mod, fun d o z => ⟨(he.bs d o z).1, by rw [upd_ne (ne (he.bs d o z).2)]; exact (he.bs d o z).2⟩, he.bsz, he.funs, fun d z => by rw [upd_ne (ne (he.frf d z))]; exact he.frf d z, ok, he.bare⟩
  refine codeAny_mono (F.run A outer s _ args us vs _ E hr e2 hb hv (q x c t pk)) fun r s' hq => ?_
  cases r with
  | error e => exact hq
  | ok fl =>
    cases fl with
    | next => exact hq
    | brk => exact hq
    | cont => exact hq
    | ret u =>
      obtain ⟨v, H2, os, bare, un, hok, r, x', c', t', k', e3, q3⟩ := hq
      have ne2 : ∀ {d : Addr}, H2 d = none → d ≠ b := fun {d} n z => by
        rw [z, e3] at n
        cases n
      have nb : ∀ {d : Addr} {o : HO}, H d = some o → o ≠ pondO n b → d ≠ b := fun {d o} z y e => by
        rw [e, eb] at z
        exact y (Option.some.inj z).symm
      refine ⟨v, _, os, bare, ?_, pond_close k' hok e3, r, q3⟩
      exact {
        keep := fun d o g n hf hx => un.keep d o g (by rw [upd_ne (ne n)]; exact n) hf hx
        slot := fun d o g n hf hx => un.slot d o g (by rw [upd_ne (ne n)]; exact n) hf hx
        free := fun d o g n hx => by
          have y := un.free d o g (by rw [upd_ne (ne n)]; exact n) hx
          rw [upd_ne (ne2 y)]
          exact y
        there := fun d o g hx => un.there d o g hx
        tups := fun d xs z => by
          have y : d ≠ b := nb z (by intro q; cases (show HO.tup xs = HO.ext (pondP n b) from q))
          rw [upd_ne y]
          exact un.tups d xs (by rw [upd_ne y]; exact z)
        frzs := fun d o u z => by
          have y : d ≠ b := nb z (by intro q; cases (show HO.frz o u = HO.ext (pondP n b) from q))
          rw [upd_ne y]
          exact un.frzs d o u (by rw [upd_ne y]; exact z)
        tbls := fun d xs z => by
          have y : d ≠ b := nb z (by intro q; cases (show HO.tbl xs = HO.ext (pondP n b) from q))
          rw [upd_ne y]
          exact un.tbls d xs (by rw [upd_ne y]; exact z) }

theorem pond_new {P : Program} {w : World} {K : PySem.W.Frag} {mg : Str → Option Value} {base : Heap} {k : Nat} {f : Addr} {fd : FuncData} {ps : List Str} {sp sp' : Sp} (F : FnOk P w K mg base CX0 k f fd ps sp)
    (h : ∀ vs H Q E, sp' vs H Q E → vs.length = ps.length ∧ sp vs H (fun v H2 => ∃ (b : Addr) (m : Nat) (x c t : Int), Pn m c t ∧ v = .ref b ∧ H b = none ∧ H2 b = some (.lst [.int x, .int c, .int t]) ∧ Q v (upd H2 b (pondO m b))) E) :
    FnOk P w K mg base CX0 k f fd ps sp' := by
  refine ⟨fun vs H Q E q => (h _ _ _ _ q).1, fun A outer s H args us vs Q E hr he hb hv hs => ?_⟩
  refine codeAny_mono (F.run A outer s _ args us vs _ E hr he hb hv (h _ _ _ _ hs).2) fun r s' hq => ?_
  cases r with
  | error e => exact hq
  | ok fl =>
    cases fl with
    | next => exact hq
    | brk => exact hq
    | cont => exact hq
    | ret u =>
      obtain ⟨v, H2, os, bare, un, hok, r, b, m, x', c', t', k', ev, e0, e3, q3⟩ := hq
      have ne2 : ∀ {d : Addr}, H2 d = none → d ≠ b := fun {d} n z => by
        rw [z, e3] at n
        cases n
      refine ⟨v, _, os, bare, ?_, pond_close k' hok e3, r, q3⟩
      exact {
        keep := un.keep
        slot := un.slot
        free := fun d o g n hx => by
          have y := un.free d o g n hx
          rw [upd_ne (ne2 y)]
          exact y
        there := un.there
        tups := fun d xs z => by
          rw [upd_ne (ne_of_none z e0)]
          exact un.tups d xs z
        frzs := fun d o u z => by
          rw [upd_ne (ne_of_none z e0)]
          exact un.frzs d o u z
        tbls := fun d xs z => by
          rw [upd_ne (ne_of_none z e0)]
          exact un.tbls d xs z }
/-! ### powers of great ints -/
def CPowW (i j : Int) : Prop := 0 ≤ j ∧ (Builtin.Int.intBits i : Int) * j ≤ 2 ^ 27
theorem op_powW {X : Cx} : OpR X (binaryOp .Pow) (rI CPowW fun i j => .int (i ^ j.toNat)) := opI fun _ _ _ _ _ _ _ hc q => pow_int hc.1 hc.2 q
theorem bits_le {i : Int} {n : Nat} (h : i.natAbs < 2 ^ n) (h0 : 0 < n) : Builtin.Int.intBits i ≤ n := by
  have := PySem.Flt.log2_lt_of h0 h
  unfold Builtin.Int.intBits
  split <;> omega
/-! ### lists of things at addresses -/
section
variable {α : Type} {R : V → α → Prop}
theorem Pr.len : ∀ {vs : List V} {ss : List α}, Paired R vs ss → vs.length = ss.length
  | _, _, .nil => rfl
  | _, _, .cons h t => congrArg (· + 1) (Pr.len t)
theorem Pr.get : ∀ {vs : List V} {ss : List α} {i : Nat} {v : V}, Paired R vs ss → vs[i]? = some v → ∃ s, ss[i]? = some s ∧ R v s
  | _, _, i, v, .nil, e => by simp at e
  | _, _, 0, v, .cons h t, e => by
    cases e
    exact ⟨_, rfl, h⟩
  | _, _, i + 1, v, .cons h t, e => Pr.get (i := i) t e
theorem Pr.get2 : ∀ {vs : List V} {ss : List α} {i : Nat} {s : α}, Paired R vs ss → ss[i]? = some s → ∃ v, vs[i]? = some v ∧ R v s
  | _, _, i, s, .nil, e => by simp at e
  | _, _, 0, s, .cons h t, e => by
    cases e
    exact ⟨_, rfl, h⟩
  | _, _, i + 1, s, .cons h t, e => Pr.get2 (i := i) t e
theorem Pr.mem : ∀ {vs : List V} {ss : List α}, Paired R vs ss → ∀ v ∈ vs, ∃ s ∈ ss, R v s
  | _, _, .cons h t, v, hv => by
    rcases List.mem_cons.mp hv with rfl | hv
    · exact ⟨_, List.mem_cons_self .., h⟩
    · obtain ⟨s, hs, r⟩ := Pr.mem t v hv
      exact ⟨s, List.mem_cons_of_mem _ hs, r⟩
theorem Pr.imp {S : V → α → Prop} (f : ∀ v s, R v s → S v s) : ∀ {vs : List V} {ss : List α}, Paired R vs ss → Paired S vs ss
  | _, _, .nil => .nil
  | _, _, .cons h t => .cons (f _ _ h) (Pr.imp f t)
theorem Pr.app : ∀ {vs us : List V} {ss ts : List α}, Paired R vs ss → Paired R us ts → Paired R (vs ++ us) (ss ++ ts)
  | _, _, _, _, .nil, b => b
  | _, _, _, _, .cons h t, b => .cons h (Pr.app t b)
theorem Pr.rev : ∀ {vs : List V} {ss : List α}, Paired R vs ss → Paired R vs.reverse ss.reverse
  | _, _, .nil => .nil
  | _, _, .cons h t => by
    rw [List.reverse_cons, List.reverse_cons]
    exact Pr.app (Pr.rev t) (.cons h .nil)
theorem Pr.snoc {vs : List V} {ss : List α} {v : V} {s : α} (h : Paired R vs ss) (k : R v s) : Paired R (vs ++ [v]) (ss ++ [s]) := Pr.app h (.cons k .nil)
theorem Pr.drop : ∀ {vs : List V} {ss : List α} (n : Nat), Paired R vs ss → Paired R (vs.drop n) (ss.drop n)
  | _, _, 0, h => h
  | _, _, _ + 1, .nil => .nil
  | _, _, n + 1, .cons _ t => Pr.drop n t
theorem Pr.take : ∀ {vs : List V} {ss : List α} (n : Nat), Paired R vs ss → Paired R (vs.take n) (ss.take n)
  | _, _, 0, _ => .nil
  | _, _, _ + 1, .nil => .nil
  | _, _, n + 1, .cons h t => .cons h (Pr.take n t)
end
/-! ### pieces as tuples -/
def IsPc (H : Hp) (v : V) (p : Pc) : Prop := ∃ t, v = .ref t ∧ H t = some (.tup [.int p.1, .int p.2.1, .int p.2.2])
theorem IsPc.nx {H H' : Hp} {v : V} {p : Pc} (e : Nx H H') (h : IsPc H v p) : IsPc H' v p := by
  obtain ⟨t, h1, h2⟩ := h
  exact ⟨t, h1, e.at h2⟩
theorem IsPc.lset {H : Hp} {D : Addr} {us us' : List V} {v : V} {p : Pc} (hD : H D = some (.lst us)) (h : IsPc H v p) : IsPc (upd H D (.lst us')) v p := by
  obtain ⟨t, e, ht⟩ := h
  exact ⟨t, e, by rw [upd_ne (ne_of ht hD (by intro z; cases z))]; exact ht⟩
abbrev PaP (H : Hp) (vs : List V) (ps : List Pc) : Prop := Paired (IsPc H) vs ps
theorem PaP.nx {H H' : Hp} (e : Nx H H') {vs : List V} {ps : List Pc} (h : PaP H vs ps) : PaP H' vs ps := Pr.imp (fun _ _ r => r.nx e) h
theorem PaP.mono {H H' : Hp} (e : Ex H H') {vs : List V} {ps : List Pc} (h : PaP H vs ps) : PaP H' vs ps := h.nx e.nx
theorem PaP.lset {H : Hp} {D : Addr} {us us' : List V} (hD : H D = some (.lst us)) {vs : List V} {ps : List Pc} (h : PaP H vs ps) : PaP (upd H D (.lst us')) vs ps := Pr.imp (fun _ _ r => r.lset hD) h
def Pcs (H : Hp) (a : Addr) (ps : List Pc) : Prop := ∃ vs, H a = some (.lst vs) ∧ PaP H vs ps
theorem Pcs.nx {H H' : Hp} {a : Addr} {ps : List Pc} (e : Nx H H') (h : Pcs H a ps) : Pcs H' a ps := by
  obtain ⟨vs, h1, h2⟩ := h
  exact ⟨vs, e.at h1, h2.nx e⟩
theorem Pcs.mono {H H' : Hp} {a : Addr} {ps : List Pc} (e : Ex H H') (h : Pcs H a ps) : Pcs H' a ps := h.nx e.nx
/-- what a def hands back that draws from ponds: this value, and the heap has grown -/
def Pd (H : Hp) (b : Addr) (n : Nat) : Prop := ∃ m, m ≤ n ∧ H b = some (pondO m b)
theorem Pd.ex {H H' : Hp} {b : Addr} {n : Nat} (e : Ex H H') (h : Pd H b n) : Pd H' b n := by
  obtain ⟨m, l, h⟩ := h
  exact ⟨m, l, e _ _ h⟩
theorem Pd.mono {H : Hp} {b : Addr} {n n' : Nat} (h : Pd H b n) (l : n ≤ n') : Pd H b n' := by
  obtain ⟨m, l', h⟩ := h
  exact ⟨m, Nat.le_trans l' l, h⟩
theorem Pd.lset {H : Hp} {D b : Addr} {n : Nat} {us us' : List V} (hD : H D = some (.lst us)) (h : Pd H b n) : Pd (upd H D (.lst us')) b n := by
  obtain ⟨m, l, h⟩ := h
  exact ⟨m, l, by rw [upd_ne (ne_of h hD (by intro z; cases (show HO.ext _ = HO.lst us from z)))]; exact h⟩
def RetN (v : V) (b : Addr) (n : Nat) (H : Hp) (Q : VK) : Prop := ∀ H', Nx H H' → Pd H' b n → Q v H'
end Kb

namespace Kb
open PySem PySem.Spec PyProof.Rows L2 StX
/-! ### own classes: made, read, called -/
structure DMk (P : Program) (w : World) (K : PySem.W.Frag) (mg : Str → Option Value) (base : Heap) (x : Str) (C : Addr) (k : Nat) (ps : List Str) (sp : Sp) : Prop where
  ex : ∃ f fd, Mk K C f ∧ mg x = some (.ref C) ∧ Binds K fd ps [] ∧ FnOk P w K mg base CX0 k f fd ps sp
structure DMt (P : Program) (w : World) (K : PySem.W.Frag) (mg : Str → Option Value) (base : Heap) (C : Addr) (m : Str) (k : Nat) (ps : List Str) (sp : Sp) : Prop where
  ex : ∃ f fd, Cls K C ∧ Meth K C m f ∧ Binds K fd ps [] ∧ FnOk P w K mg base CX0 k f fd ps sp
structure DPr (P : Program) (w : World) (K : PySem.W.Frag) (mg : Str → Option Value) (base : Heap) (C : Addr) (m : Str) (k : Nat) (sp : Sp) : Prop where
  ex : ∃ p f fd, Cls K C ∧ PropOf K C m p f ∧ Binds K fd ["self"] [] ∧ FnOk P w K mg base CX0 k f fd ["self"] sp
structure DCl (P : Program) (w : World) (K : PySem.W.Frag) (mg : Str → Option Value) (base : Heap) (C : Addr) (k : Nat) (ps : List Str) (sp : Sp) : Prop where
  ex : ∃ f fd, CallO K C f ∧ Binds K fd ps [] ∧ FnOk P w K mg base CX0 k f fd ps sp
section
variable {X : Cx} {C : Addr} {k k' : Nat} {ps : List Str} {sp : Sp} {pos apos p : Pos} {o e : Expr} {es : List Expr} {t : TA} {te : TE}
theorem pe_mk {x : Str} (D : DMk X.prog X.w X.K X.mg X.base x C k ps sp) (hr : Room k' X.A) (ha : PA X (e :: es) t) (hk : k + 1 ≤ k' := by decide) (hg : Gl X x := by rfl) (hdb : (x == ("__debug__" : Str)) = false := by decide)
    (he : starEach (e :: es) X.env = (false, eval e X.env) :: starEach es X.env := by rfl) (hpl : (backTo pos (starEach es X.env)).any (·.1) = false := by rfl) : PE X (.Call (.Name x p) (e :: es) [] pos) (tMake C sp [] E0 t) := by
  obtain ⟨f, fd, h1, h2, h3, h4⟩ := D.ex
  exact pe_make h1 h4 (hr.mono hk) hg h2 h3 .nil pass0 ha hdb he hpl
theorem pe_mt {m : Str} {pl : Sem Bool} (D : DMt X.prog X.w X.K X.mg X.base C m k ps sp) (hr : Room k' X.A) (ho : PE X o te) (ha : PA X (e :: es) t) (hk : k ≤ k' := by decide)
    (hst : starEach (e :: es) X.env = (false, eval e X.env) :: starEach es X.env := by rfl) (hpl : (backTo pos (starEach es X.env)).any (·.1) = false := by rfl)
    (ht : eval (.Call (.Attribute o m apos) (e :: es) [] pos) X.env = (do
      let ov ← eval o X.env
      standAt apos.atName
      let (f, first) ← holding [ov] (getMethod ov m pl)
      callWith pos f first (backTo pos (starEach (e :: es) X.env)) (backToKw pos (keywordEach [] X.env))) := by rfl) :
    PE X (.Call (.Attribute o m apos) (e :: es) [] pos) (tMeth C m sp [] E0 te t) := by
  obtain ⟨f, fd, h1, h2, h3, h4⟩ := D.ex
  exact pe_meth (pl := pl) ho h1 h2 h4 (hr.mono hk) h3 .nil pass0 ha hst hpl ht
theorem pe_pr {m : Str} (D : DPr X.prog X.w X.K X.mg X.base C m k sp) (hr : Room k' X.A) (ho : PE X o te) (hk : k + 1 ≤ k' := by decide) (hab : attributeBase o m X.env (eval o X.env) = eval o X.env := by rfl) :
    PE X (.Attribute o m pos) (tProp C sp [] E0 te) := by
  obtain ⟨p, f, fd, h1, h2, h3, h4⟩ := D.ex
  exact pe_prop ho h1 h2 h4 (hr.mono hk) h3 .nil pass0 hab
theorem pe_cl (D : DCl X.prog X.w X.K X.mg X.base C k ps sp) (hr : Room k' X.A) (ho : PE X o te) (ha : PA X (e :: es) t) (hk : k ≤ k' := by decide)
    (ht : eval (.Call o (e :: es) [] pos) X.env = (do callWith pos (← eval o X.env) [] (backTo pos (starEach (e :: es) X.env)) (backToKw pos (keywordEach [] X.env))) := by rfl)
    (he : starEach (e :: es) X.env = (false, eval e X.env) :: starEach es X.env := by rfl) (hpl : (backTo pos (starEach es X.env)).any (·.1) = false := by rfl) :
    PE X (.Call o (e :: es) [] pos) (tCallO X C (fun vs H Q E => sp (vs ++ []) H Q E) E0 te t) := by
  obtain ⟨f, fd, h1, h3, h4⟩ := D.ex
  exact pe_callO ho h1 ((h4.raw h3 .nil).mono hk) hr pass0 ha ht he hpl
end
/-! ### the object of a profile -/
theorem is_cp : ¬ (("cold" : Str) = "_pieces") := by decide +kernel
def pf (c : Int) (l : Addr) : List (Str × V) := [("cold", .int c), ("_pieces", .ref l)]
theorem pf_put (c : Int) (l : Addr) : putF "_pieces" (.ref l) (putF "cold" (.int c) []) = pf c l := by
  show (if ("cold" : Str) = "_pieces" then [(("cold" : Str), V.ref l)] else (("cold" : Str), V.int c) :: putF "_pieces" (.ref l) []) = _
  rw [if_neg is_cp]
  rfl
theorem pf_cold (c : Int) (l : Addr) : (pf c l).lookup ("cold" : Str) = some (.int c) := by
  rw [← pf_put, lookup_putF, if_neg is_cp, lookup_putF, if_pos rfl]
theorem pf_pieces (c : Int) (l : Addr) : (pf c l).lookup ("_pieces" : Str) = some (.ref l) := by
  rw [← pf_put, lookup_putF, if_pos rfl]
theorem pf_no (c : Int) (l : Addr) {m : Str} (h1 : ¬ m = "cold") (h2 : ¬ m = "_pieces") : (pf c l).lookup m = none := by
  rw [← pf_put, lookup_putF, if_neg h2, lookup_putF, if_neg h1]
  rfl
/-- at x stands a profile with so many cold accesses and just these pieces -/
def PfAt (C : Addr) (H : Hp) (x : Addr) (c : Int) (rs : List Pc) : Prop := ∃ dx l, H x = some (.ins C dx (pf c l)) ∧ Pcs H l rs
theorem PfAt.nx {C : Addr} {H H' : Hp} {x : Addr} {c : Int} {rs : List Pc} (e : Nx H H') (h : PfAt C H x c rs) : PfAt C H' x c rs := by
  obtain ⟨dx, l, h1, h2⟩ := h
  exact ⟨dx, l, e.at h1, h2.nx e⟩
theorem PfAt.mono {C : Addr} {H H' : Hp} {x : Addr} {c : Int} {rs : List Pc} (e : Ex H H') (h : PfAt C H x c rs) : PfAt C H' x c rs := h.nx e.nx
/-- pieces of which no number is too great to be multiplied -/
def Bd (rs : List Pc) : Prop := ∀ p ∈ rs, Pok p ∧ p.2.1 ≤ 10 ^ 300 ∧ p.2.2 ≤ 10 ^ 300
/-- valid pieces, ascending, of numbers that are not too great -/
structure Val (ps : List Pc) : Prop where
  bd : ∀ p ∈ ps, Pok p ∧ p.2.1 ≤ 10 ^ 200 ∧ p.2.2 ≤ 10 ^ 200
  asc : ps.Pairwise fun a b => a.2.1 < b.1
  few : ps.length ≤ 1000
theorem Val.pok {ps : List Pc} (V : Val ps) : ∀ p ∈ ps, Pok p := fun p hp => (V.bd p hp).1
theorem Val.tsum_le {ps : List Pc} (V : Val ps) : tsum ps ≤ 1000 * 10 ^ 200 := by
  have go : ∀ ps : List Pc, (∀ p ∈ ps, p.2.2 ≤ 10 ^ 200) → tsum ps ≤ (ps.length : Int) * 10 ^ 200 := by
    intro ps
    induction ps with
    | nil => intro _; exact Int.le_refl _
    | cons p r ih =>
      intro h
      have e : tsum (p :: r) = p.2.2 + tsum r := by simp [tsum]
      have := ih fun q hq => h q (List.mem_cons_of_mem _ hq)
      have := h p (List.mem_cons_self ..)
      rw [e, List.length_cons, Int.natCast_add, Int.add_mul]
      omega
  have := go ps fun p hp => (V.bd p hp).2.2
  have := Int.mul_le_mul_of_nonneg_right (show (ps.length : Int) ≤ 1000 from by have := V.few; omega) (show (0 : Int) ≤ 10 ^ 200 by decide)
  omega
theorem Val.tells {ps rs : List Pc} (V : Val ps) (T : Tells ps rs) : Bd rs := fun p hp => by
  obtain ⟨a, b, c, d, q, hq, e⟩ := T.row V.pok hp
  have := V.tsum_le
  have := (V.bd q hq).2.1
  have g : (1000 : Int) * 10 ^ 200 ≤ 10 ^ 300 := by decide +kernel
  have g2 : (10 : Int) ^ 200 ≤ 10 ^ 300 := by decide +kernel
  exact ⟨⟨a, b, c⟩, by omega, by omega⟩
end Kb

namespace Kb
open PySem PySem.Spec PyProof.Rows L2 TL
/-! ### the parts of programs -/
inductive Pg where
  | nil
  | sc (s : Sc) (r : Pg)
  | rp (n : Int) (b r : Pg)
deriving DecidableEq
namespace Pg
def app : Pg → Pg → Pg
  | nil, g => g
  | sc s r, g => sc s (r.app g)
  | rp n b r, g => rp n b (r.app g)
def scs : Pg → List Sc
  | nil => []
  | sc s r => s :: r.scs
  | rp _ b r => b.scs ++ r.scs
def cnt : Pg → Int
  | nil => 0
  | sc s r => slen s + r.cnt
  | rp n b r => n * b.cnt + r.cnt
def dep : Pg → Nat
  | nil => 0
  | sc _ r => r.dep
  | rp _ b r => max (b.dep + 1) r.dep
def len : Pg → Nat
  | nil => 0
  | sc _ r => r.len + 1
  | rp _ _ r => r.len + 1
theorem app_nil : ∀ g : Pg, g.app nil = g
  | nil => rfl
  | sc s r => congrArg (sc s) (app_nil r)
  | rp n b r => congrArg (rp n b) (app_nil r)
theorem app_assoc : ∀ a b c : Pg, (a.app b).app c = a.app (b.app c)
  | nil, _, _ => rfl
  | sc s r, b, c => congrArg (sc s) (app_assoc r b c)
  | rp n x r, b, c => congrArg (rp n x) (app_assoc r b c)
theorem scs_app : ∀ a b : Pg, (a.app b).scs = a.scs ++ b.scs
  | nil, _ => rfl
  | sc s r, b => congrArg (s :: ·) (scs_app r b)
  | rp n x r, b => by
    show x.scs ++ (r.app b).scs = x.scs ++ r.scs ++ b.scs
    rw [scs_app r b, List.append_assoc]
theorem cnt_app : ∀ a b : Pg, (a.app b).cnt = a.cnt + b.cnt
  | nil, b => (Int.zero_add _).symm
  | sc s r, b => by
    show slen s + (r.app b).cnt = slen s + r.cnt + b.cnt
    rw [cnt_app r b, Int.add_assoc]
  | rp n x r, b => by
    show n * x.cnt + (r.app b).cnt = n * x.cnt + r.cnt + b.cnt
    rw [cnt_app r b, Int.add_assoc]
theorem len_app : ∀ a b : Pg, (a.app b).len = a.len + b.len
  | nil, b => (Nat.zero_add _).symm
  | sc s r, b => by
    show (r.app b).len + 1 = r.len + 1 + b.len
    rw [len_app r b]
    omega
  | rp n x r, b => by
    show (r.app b).len + 1 = r.len + 1 + b.len
    rw [len_app r b]
    omega
theorem dep_app : ∀ a b : Pg, (a.app b).dep = max a.dep b.dep
  | nil, b => (Nat.zero_max _).symm
  | sc s r, b => dep_app r b
  | rp n x r, b => by
    show max (x.dep + 1) (r.app b).dep = max (max (x.dep + 1) r.dep) b.dep
    rw [dep_app r b, Nat.max_assoc]
end Pg
/-- numbers within their bounds, no empty repeat -/
def SOk (B : Int) (s : Sc) : Prop := 0 ≤ s.1 ∧ s.1 ≤ B ∧ 0 ≤ s.2 ∧ s.2 ≤ B
def Pg.Ok (B : Int) : Pg → Prop
  | .nil => True
  | .sc s r => SOk B s ∧ r.Ok B
  | .rp n b r => 2 ≤ n ∧ n ≤ B ∧ b ≠ .nil ∧ b.Ok B ∧ r.Ok B
theorem Pg.Ok.app {B : Int} : ∀ {a b : Pg}, a.Ok B → b.Ok B → (a.app b).Ok B
  | .nil, _, _, h => h
  | .sc s r, b, h, k => ⟨h.1, Pg.Ok.app h.2 k⟩
  | .rp n x r, b, h, k => ⟨h.1, h.2.1, h.2.2.1, h.2.2.2.1, Pg.Ok.app h.2.2.2.2 k⟩
theorem Pg.Ok.mono {B C : Int} (le : B ≤ C) : ∀ {a : Pg}, a.Ok B → a.Ok C
  | .nil, _ => trivial
  | .sc s r, h => ⟨⟨h.1.1, Int.le_trans h.1.2.1 le, h.1.2.2.1, Int.le_trans h.1.2.2.2 le⟩, h.2.mono le⟩
  | .rp n x r, h => ⟨h.1, Int.le_trans h.2.1 le, h.2.2.1, h.2.2.2.1.mono le, h.2.2.2.2.mono le⟩
theorem Pg.Ok.mem {B : Int} : ∀ {a : Pg}, a.Ok B → ∀ s ∈ a.scs, SOk B s
  | .nil, _, s, h => by cases h
  | .sc s r, h, t, m => by
    rcases List.mem_cons.mp m with e | m
    · exact e ▸ h.1
    · exact h.2.mem t m
  | .rp n x r, h, t, m => by
    rcases List.mem_append.mp m with m | m
    · exact h.2.2.2.1.mem t m
    · exact h.2.2.2.2.mem t m
theorem Pg.len_le : ∀ {B : Int} {a : Pg}, a.Ok B → a.len ≤ a.scs.length
  | _, .nil, _ => Nat.le_refl _
  | B, .sc s r, h => Nat.succ_le_succ (Pg.len_le h.2)
  | B, .rp n x r, h => by
    show r.len + 1 ≤ (x.scs ++ r.scs).length
    rw [List.length_append]
    have a := Pg.len_le h.2.2.2.2
    have b := Pg.len_le h.2.2.2.1
    have c : 1 ≤ x.len := by
      cases x with
      | nil => exact (h.2.2.1 rfl).elim
      | sc _ _ => exact Nat.succ_le_succ (Nat.zero_le _)
      | rp _ _ _ => exact Nat.succ_le_succ (Nat.zero_le _)
    omega
/-! ### words -/
def nw (i : Int) : Str := Str.ofString (toString i)
def dash : Str := "-"
def opW : Str := "("
def clW : Str := ")"
def scw (s : Sc) : Str := if s.1 = s.2 then nw s.1 else nw s.1 ++ dash ++ nw s.2
inductive Tk where
  | op
  | cl (n : Int)
  | sc (s : Sc)
def Tk.wd : Tk → Str
  | .op => opW
  | .cl n => clW ++ nw n
  | .sc s => scw s
def Pg.toks : Pg → List Tk
  | .nil => []
  | .sc s r => .sc s :: r.toks
  | .rp n b r => .op :: (b.toks ++ .cl n :: r.toks)
def Pg.wl (g : Pg) : List Str := g.toks.map Tk.wd
theorem toks_app : ∀ a b : Pg, (a.app b).toks = a.toks ++ b.toks
  | .nil, _ => rfl
  | .sc s r, b => congrArg (Tk.sc s :: ·) (toks_app r b)
  | .rp n x r, b => by
    show Tk.op :: (x.toks ++ Tk.cl n :: (r.app b).toks) = (Tk.op :: (x.toks ++ Tk.cl n :: r.toks)) ++ b.toks
    rw [toks_app r b]
    simp
theorem wl_app (a b : Pg) : (a.app b).wl = a.wl ++ b.wl := by
  unfold Pg.wl
  rw [toks_app, List.map_append]
theorem wl_rp (n : Int) (b r : Pg) : (Pg.rp n b r).wl = opW :: (b.wl ++ (clW ++ nw n) :: r.wl) := by
  show List.map Tk.wd (Tk.op :: (b.toks ++ Tk.cl n :: r.toks)) = _
  rw [List.map_cons, List.map_append, List.map_cons]
  rfl
theorem wl_sc (s : Sc) (r : Pg) : (Pg.sc s r).wl = scw s :: r.wl := rfl
/-- how many words there are -/
theorem toks_len : ∀ {B : Int} {g : Pg}, g.Ok B → g.toks.length ≤ (2 * g.dep + 1) * g.scs.length
  | _, .nil, _ => Nat.zero_le _
  | B, .sc s r, h => by
    have a := toks_len h.2
    show r.toks.length + 1 ≤ (2 * r.dep + 1) * (r.scs.length + 1)
    rw [Nat.mul_succ]
    omega
  | B, .rp n x r, h => by
    have a := toks_len h.2.2.2.2
    have b := toks_len h.2.2.2.1
    have c : 1 ≤ x.scs.length := by
      have := Pg.len_le h.2.2.2.1
      cases x with
      | nil => exact (h.2.2.1 rfl).elim
      | sc _ _ => exact Nat.le_trans (Nat.succ_le_succ (Nat.zero_le _)) this
      | rp _ _ _ => exact Nat.le_trans (Nat.succ_le_succ (Nat.zero_le _)) this
    show (x.toks ++ Tk.cl n :: r.toks).length + 1 ≤ (2 * max (x.dep + 1) r.dep + 1) * (x.scs ++ r.scs).length
    rw [List.length_append, List.length_append, List.length_cons]
    obtain ⟨d, hd⟩ : ∃ d, d = max (x.dep + 1) r.dep := ⟨_, rfl⟩
    rw [← hd]
    have h1 : x.dep + 1 ≤ d := by omega
    have h2 : r.dep ≤ d := by omega
    have k1 : (2 * x.dep + 1) * x.scs.length ≤ (2 * d - 1) * x.scs.length := Nat.mul_le_mul_right _ (by omega)
    have k2 : (2 * r.dep + 1) * r.scs.length ≤ (2 * d + 1) * r.scs.length := Nat.mul_le_mul_right _ (by omega)
    have k3 : (2 * d + 1) * x.scs.length = (2 * d - 1) * x.scs.length + 2 * x.scs.length := by rw [← Nat.add_mul]; congr 1; omega
    rw [Nat.mul_add, k3]
    omega
end Kb

namespace Kb
open PySem PySem.Spec PyProof.Rows L2 TL
/-! ### the letters of words -/
theorem tl_nw {i : Int} (h : 0 ≤ i) : tl (nw i) = numL i.toNat := by
  obtain ⟨n, rfl⟩ := Int.eq_ofNat_of_zero_le h
  rw [Int.toNat_natCast]
  exact tl_num n
theorem nw_digit {i : Int} (h : 0 ≤ i) : ∀ c ∈ tl (nw i), 48 ≤ c ∧ c ≤ 57 := by
  rw [tl_nw h]
  exact numL_digits _
theorem nw_ne {i : Int} (h : 0 ≤ i) : tl (nw i) ≠ [] := by
  rw [tl_nw h]
  exact numL_ne _
theorem nw_len {i : Int} (h : 0 ≤ i) {k : Nat} (hk : 0 < k) (b : i < 10 ^ k) : (nw i).length ≤ k := by
  rw [len_tl, tl_nw h]
  refine numL_len hk ?_
  have e : (((10 : Nat) ^ k : Nat) : Int) = (10 : Int) ^ k := by simp
  omega
theorem nw_pos {i : Int} (h : 0 ≤ i) : 1 ≤ (nw i).length := by
  rw [len_tl]
  exact List.length_pos_iff.mpr (nw_ne h)
theorem nw_inj {i j : Int} (hi : 0 ≤ i) (hj : 0 ≤ j) (e : nw i = nw j) : i = j := by
  have e2 : tl (nw i) = tl (nw j) := by rw [e]
  rw [tl_nw hi, tl_nw hj] at e2
  have := numL_inj e2
  omega
theorem nw_int {i : Int} (h : 0 ≤ i) (b : i < 10 ^ 600) : intText? (nw i) = some i := by
  obtain ⟨n, rfl⟩ := Int.eq_ofNat_of_zero_le h
  refine int_num ?_
  have l := nw_len (i := (n : Int)) h (k := 600) (by decide) b
  rw [len_tl, tl_nw h, Int.toNat_natCast] at l
  omega
theorem all_tl (x : Str) (p : Nat → Bool) : x.cps.all p = (tl x).all p := by
  rw [← Array.all_toList]
theorem nw_ascii {i : Int} (h : 0 ≤ i) : Txt.isascii (nw i) = true := by
  unfold Txt.isascii
  rw [all_tl, List.all_eq_true]
  intro c hc
  have := nw_digit h c hc
  exact decide_eq_true (by omega)
theorem dig10 : ∀ k : Fin 10, Unicode.isDigit (48 + k.val) = true := by decide +kernel
theorem isDig {c : Nat} (a : 48 ≤ c) (b : c ≤ 57) : Unicode.isDigit c = true := by
  have := dig10 ⟨c - 48, by omega⟩
  rwa [show 48 + (⟨c - 48, by omega⟩ : Fin 10).val = c from by show 48 + (c - 48) = c; omega] at this
theorem nw_isdigit {i : Int} (h : 0 ≤ i) : Txt.isdigit (nw i) = true := by
  unfold Txt.isdigit
  have := nw_pos h
  rw [decide_eq_true (show (nw i).length > 0 by omega), Bool.true_and, all_tl, List.all_eq_true]
  intro c hc
  have := nw_digit h c hc
  exact isDig this.1 this.2
theorem starts1 (x : Str) (c : Nat) : Txt.startswith x ⟨#[c]⟩ = decide ((tl x)[0]? = some c) := by
  have h := PySem.StrLaws.subAt_one x c 0
  unfold Txt.startswith
  refine Bool.eq_iff_iff.mpr ⟨fun y => ?_, fun y => ?_⟩
  · obtain ⟨y1, y2⟩ := Bool.and_eq_true_iff.mp y
    exact decide_eq_true (h.mp ⟨of_decide_eq_true y1, y2⟩)
  · obtain ⟨y1, y2⟩ := h.mpr (of_decide_eq_true y)
    exact Bool.and_eq_true_iff.mpr ⟨decide_eq_true y1, y2⟩
theorem cl_eq : clW = ⟨#[41]⟩ := by decide +kernel
theorem op_eq' : opW = ⟨#[40]⟩ := by decide +kernel
theorem dash_eq : dash = ⟨#[45]⟩ := by decide +kernel
theorem tl_cl : tl clW = [41] := by rw [cl_eq]
theorem tl_op : tl opW = [40] := by rw [op_eq']
theorem tl_dash : tl dash = [45] := by rw [dash_eq]
theorem numL_head {n : Nat} (h : n ≠ 0) : ∃ c r, numL n = c :: r ∧ 49 ≤ c := by
  induction n using Nat.strongRecOn with
  | _ n ih =>
    by_cases l : n < 10
    · exact ⟨48 + n, [], numL_lt l, by omega⟩
    · obtain ⟨c, r, e, k⟩ := ih (n / 10) (by omega) (by omega)
      exact ⟨c, r ++ [48 + n % 10], by rw [numL_step (by omega), e]; rfl, k⟩
/-- no number but 0 begins with 0 -/
theorem nw_zero {i : Int} (h : 0 ≤ i) : (tl (nw i))[0]? = some 48 ↔ i = 0 := by
  rw [tl_nw h]
  constructor
  · intro e
    by_cases z : i.toNat = 0
    · omega
    · obtain ⟨c, r, e2, k⟩ := numL_head z
      rw [e2] at e
      cases e
      omega
  · intro e
    subst e
    rw [show (0 : Int).toNat = 0 from rfl, numL_lt (by decide)]
    rfl
theorem nw_free {i : Int} (h : 0 ≤ i) {c : Nat} (k : c < 48 ∨ 57 < c) : c ∉ tl (nw i) := fun m => by
  have := nw_digit h c m
  omega
theorem nw_first {i : Int} (h : 0 ≤ i) : ∃ c r, tl (nw i) = c :: r ∧ 48 ≤ c ∧ c ≤ 57 := by
  cases e : tl (nw i) with
  | nil => exact (nw_ne h e).elim
  | cons c r =>
    have := nw_digit h c (by rw [e]; exact List.mem_cons_self)
    exact ⟨c, r, rfl, this.1, this.2⟩
theorem tl_scw (s : Sc) : tl (scw s) = if s.1 = s.2 then tl (nw s.1) else tl (nw s.1) ++ 45 :: tl (nw s.2) := by
  unfold scw
  split
  · rfl
  · rw [tl_append, tl_append, tl_dash, List.append_assoc]
    rfl
def TkOk (B : Int) : Tk → Prop
  | .op => True
  | .cl n => 2 ≤ n ∧ n ≤ B
  | .sc s => SOk B s
theorem toks_ok {B : Int} : ∀ {g : Pg}, g.Ok B → ∀ t ∈ g.toks, TkOk B t
  | .nil, _, t, h => by cases h
  | .sc s r, h, t, m => by
    rcases List.mem_cons.mp m with e | m
    · exact e ▸ h.1
    · exact toks_ok h.2 t m
  | .rp n x r, h, t, m => by
    rcases List.mem_cons.mp m with e | m
    · exact e ▸ trivial
    rcases List.mem_append.mp m with m | m
    · exact toks_ok h.2.2.2.1 t m
    rcases List.mem_cons.mp m with e | m
    · exact e ▸ ⟨h.1, h.2.1⟩
    · exact toks_ok h.2.2.2.2 t m
theorem scw_first {B : Int} {s : Sc} (h : SOk B s) : ∃ c r, tl (scw s) = c :: r ∧ 48 ≤ c ∧ c ≤ 57 := by
  obtain ⟨c, r, e, k⟩ := nw_first h.1
  rw [tl_scw]
  split
  · exact ⟨c, r, e, k⟩
  · exact ⟨c, r ++ 45 :: tl (nw s.2), by rw [e]; rfl, k⟩
theorem wd_space {B : Int} {t : Tk} (h : TkOk B t) : 32 ∉ tl t.wd := by
  cases t with
  | op =>
    show 32 ∉ tl opW
    rw [tl_op]
    decide
  | cl n =>
    show 32 ∉ tl (clW ++ nw n)
    have h : 2 ≤ n ∧ n ≤ B := h
    rw [tl_append, tl_cl]
    intro m
    rcases List.mem_append.mp m with m | m
    · revert m
      decide
    · exact nw_free (show 0 ≤ n by omega) (.inl (by decide)) m
  | sc s =>
    have h : SOk B s := h
    show 32 ∉ tl (scw s)
    rw [tl_scw]
    split
    · exact nw_free h.1 (.inl (by decide))
    · intro m
      rcases List.mem_append.mp m with m | m
      · exact nw_free h.1 (.inl (by decide)) m
      · rcases List.mem_cons.mp m with m | m
        · revert m
          decide
        · exact nw_free h.2.2.1 (.inl (by decide)) m
theorem wd_len {B : Int} {t : Tk} (h : TkOk B t) {k : Nat} (hk : 0 < k) (hB : B < 10 ^ k) : 1 ≤ t.wd.length ∧ t.wd.length ≤ 2 * k + 1 := by
  cases t with
  | op =>
    show 1 ≤ opW.length ∧ opW.length ≤ _
    rw [len_tl, tl_op]
    show 1 ≤ 1 ∧ 1 ≤ 2 * k + 1
    omega
  | cl n =>
    show 1 ≤ (clW ++ nw n).length ∧ (clW ++ nw n).length ≤ _
    have h : 2 ≤ n ∧ n ≤ B := h
    have := nw_len (show 0 ≤ n by omega) hk (by omega)
    rw [len_tl] at this
    rw [len_tl, tl_append, tl_cl, List.length_append]
    show 1 ≤ 1 + _ ∧ 1 + _ ≤ _
    omega
  | sc s =>
    have h : SOk B s := h
    show 1 ≤ (scw s).length ∧ (scw s).length ≤ _
    have a := nw_len h.1 hk (by have := h.2.1; omega)
    have b := nw_len h.2.2.1 hk (by have := h.2.2.2; omega)
    have c := nw_pos h.1
    rw [len_tl] at a b c
    rw [len_tl, tl_scw]
    split
    · omega
    · rw [List.length_append, List.length_cons]
      omega
theorem wl_space {B : Int} {g : Pg} (h : g.Ok B) : ∀ w ∈ g.wl, 32 ∉ tl w := fun w m => by
  obtain ⟨t, ht, rfl⟩ := List.mem_map.mp m
  exact wd_space (toks_ok h t ht)
def spW : Str := " "
theorem tl_sp : tl spW = [32] := by
  rw [show spW = ⟨#[32]⟩ from by decide +kernel]
/-- the text of a program -/
def txt (g : Pg) : Str := Txt.join spW g.wl
theorem toks_ne {g : Pg} (h : g ≠ .nil) : g.toks ≠ [] := by
  cases g with
  | nil => exact (h rfl).elim
  | sc s r => simp [Pg.toks]
  | rp n b r => simp [Pg.toks]
theorem wl_ne {g : Pg} (h : g ≠ .nil) : g.wl ≠ [] := fun e => toks_ne h (List.map_eq_nil_iff.mp e)
theorem txt_split {B : Int} {g : Pg} (h : g.Ok B) (ne : g ≠ .nil) : Txt.split (txt g) spW = g.wl :=
  split_join tl_sp (by decide +kernel) (wl_ne ne) (wl_space h)
theorem txt_nil : txt .nil = Str.empty := rfl
theorem sum_le_of {ws : List Str} {k : Nat} (h : ∀ w ∈ ws, w.length ≤ k) : (ws.map (·.length)).sum ≤ ws.length * k := by
  induction ws with
  | nil => exact Nat.zero_le _
  | cons w r ih =>
    rw [List.map_cons, List.sum_cons, List.length_cons, Nat.succ_mul]
    have := h w List.mem_cons_self
    have := ih fun x hx => h x (List.mem_cons_of_mem _ hx)
    omega
theorem join_len (ws : List Str) : (Txt.join spW ws).length ≤ (ws.map (·.length)).sum + ws.length * spW.length := by
  rw [join_eq]
  have s1 : spW.length = 1 := by rw [len_tl, tl_sp]; rfl
  have go : ∀ ps : List Str, (Str.join spW ps).length ≤ (ps.map (·.length)).sum + ps.length * spW.length := by
    intro ps
    rw [s1]
    induction ps with
    | nil => exact Nat.zero_le _
    | cons p r ih =>
      cases r with
      | nil =>
        show p.length ≤ p.length + 0 + _
        omega
      | cons q r =>
        show (p ++ spW ++ Str.join spW (q :: r)).length ≤ _
        rw [len_tl, tl_append, tl_append, List.length_append, List.length_append, ← len_tl, ← len_tl, ← len_tl, s1, List.map_cons, List.sum_cons, List.length_cons]
        omega
  exact go ws
theorem txt_big {B : Int} {g : Pg} (h : g.Ok B) {k : Nat} (hk : 0 < k) (hB : B < 10 ^ k) : (g.wl.map (·.length)).sum + g.wl.length * spW.length ≤ g.toks.length * (2 * k + 2) := by
  have a := sum_le_of (ws := g.wl) (k := 2 * k + 1) fun w m => by
    obtain ⟨t, ht, rfl⟩ := List.mem_map.mp m
    exact (wd_len (toks_ok h t ht) hk hB).2
  have s1 : spW.length = 1 := by rw [len_tl, tl_sp]; rfl
  have e : g.wl.length = g.toks.length := List.length_map _
  rw [s1]
  rw [e] at a ⊢
  rw [show 2 * k + 2 = (2 * k + 1) + 1 from rfl, Nat.mul_add, Nat.mul_one]
  omega
theorem txt_pos {B : Int} {g : Pg} (h : g.Ok B) (ne : g ≠ .nil) : txt g ≠ Str.empty := fun e => by
  have s := txt_split h ne
  have a : tl (txt g) = [] := by rw [e]; rfl
  unfold txt at a
  rw [join_eq, tl_join, tl_sp] at a
  cases hg : g.wl with
  | nil => exact wl_ne ne hg
  | cons w r =>
    rw [hg] at a
    have wn : tl w ≠ [] := by
      have m : w ∈ g.wl := by rw [hg]; exact List.mem_cons_self
      obtain ⟨t, ht, rfl⟩ := List.mem_map.mp m
      have tk := toks_ok h t ht
      cases t with
      | op => show tl opW ≠ []; rw [tl_op]; decide
      | cl n => show tl (clW ++ nw n) ≠ []; rw [tl_append, tl_cl]; simp
      | sc s =>
        obtain ⟨c, r, e, _⟩ := scw_first tk
        show tl (scw s) ≠ []
        rw [e]
        simp
    cases r with
    | nil => exact wn a
    | cons q r =>
      have a : tl w ++ ([32] ++ joinL [32] ((q :: r).map tl)) = [] := a
      exact wn (List.append_eq_nil_iff.mp a).1
/-! ### reading words -/
theorem scw_part {B : Int} {s : Sc} (h : SOk B s) : Txt.partition (scw s) dash = if s.1 = s.2 then (nw s.1, Str.empty, Str.empty) else (nw s.1, dash, nw s.2) := by
  unfold scw
  split
  · exact partition_none tl_dash (nw_free h.1 (.inl (by decide)))
  · exact partition_app tl_dash (nw_free h.1 (.inl (by decide)))
theorem scw_split {B : Int} {s : Sc} (h : SOk B s) : Txt.split (scw s) dash = if s.1 = s.2 then [nw s.1] else [nw s.1, nw s.2] := by
  have go : ∀ ps : List Str, ps ≠ [] → (∀ p ∈ ps, 45 ∉ tl p) → Txt.split (Txt.join dash ps) dash = ps := fun ps ne hp => split_join tl_dash (by decide +kernel) ne hp
  have a := nw_free h.1 (c := 45) (.inl (by decide))
  have b := nw_free h.2.2.1 (c := 45) (.inl (by decide))
  unfold scw
  split
  · have e := go [nw s.1] (by simp) (fun p m => by rw [List.mem_singleton.mp m]; exact a)
    rw [join_eq] at e
    exact e
  · have e := go [nw s.1, nw s.2] (by simp) (fun p m => by
      rcases List.mem_cons.mp m with e | m
      · rw [e]; exact a
      · rw [List.mem_singleton.mp m]; exact b)
    rw [join_eq] at e
    exact e
theorem cl_ne_op (n : Int) : clW ++ nw n ≠ opW := fun e => by
  have e2 : tl (clW ++ nw n) = tl opW := by rw [e]
  rw [tl_append, tl_cl, tl_op] at e2
  simp at e2
theorem sc_ne_op {B : Int} {s : Sc} (h : SOk B s) : scw s ≠ opW := fun e => by
  have e2 : tl (scw s) = tl opW := by rw [e]
  obtain ⟨c, r, e3, k⟩ := scw_first h
  rw [e3, tl_op] at e2
  simp at e2
  omega
theorem cl_starts (n : Int) : Txt.startswith (clW ++ nw n) clW = true := by
  have := starts1 (clW ++ nw n) 41
  rw [← cl_eq] at this
  rw [this, tl_append, tl_cl]
  rfl
theorem sc_starts {B : Int} {s : Sc} (h : SOk B s) : Txt.startswith (scw s) clW = false := by
  have := starts1 (scw s) 41
  rw [← cl_eq] at this
  obtain ⟨c, r, e3, k⟩ := scw_first h
  rw [this, e3]
  refine decide_eq_false fun e => ?_
  cases e
  omega
/-! ### the words of a program, read by a stack of at most D bodies, at most M scans -/
def step (D M : Nat) : Tk → List Pg × Nat → Option (List Pg × Nat)
  | .op, (st, m) => if st.length < D then some (.nil :: st, m) else none
  | .cl n, (b :: c :: st, m) => if b ≠ .nil then some (c.app (.rp n b .nil) :: st, m) else none
  | .cl _, _ => none
  | .sc s, (b :: st, m) => if m + 1 ≤ M then some (b.app (.sc s .nil) :: st, m + 1) else none
  | .sc _, ([], _) => none
def run (D M : Nat) : List Tk → List Pg × Nat → Option (List Pg × Nat)
  | [], u => some u
  | t :: r, u => (step D M t u).bind (run D M r)
theorem run_app (D M : Nat) : ∀ (a b : List Tk) (u : List Pg × Nat), run D M (a ++ b) u = (run D M a u).bind (run D M b)
  | [], b, u => rfl
  | t :: r, b, u => by
    show (step D M t u).bind (run D M (r ++ b)) = ((step D M t u).bind (run D M r)).bind (run D M b)
    cases step D M t u with
    | none => rfl
    | some v => exact run_app D M r b v
theorem run_toks {D M : Nat} {B : Int} : ∀ (g b : Pg) (st : List Pg) (m : Nat), g.Ok B → st.length + 1 + g.dep ≤ D → m + g.scs.length ≤ M → run D M g.toks (b :: st, m) = some (b.app g :: st, m + g.scs.length)
  | .nil, b, st, m, _, _, _ => by
    rw [Pg.app_nil]
    rfl
  | .sc s r, b, st, m, h, d, l => by
    have l : m + (r.scs.length + 1) ≤ M := l
    show ((if m + 1 ≤ M then some (b.app (.sc s .nil) :: st, m + 1) else none).bind (run D M r.toks)) = _
    rw [if_pos (by omega)]
    show run D M r.toks (b.app (.sc s .nil) :: st, m + 1) = _
    rw [run_toks r _ st (m + 1) h.2 d (by omega), Pg.app_assoc]
    show some (b.app (.sc s r) :: st, m + 1 + r.scs.length) = some (b.app (.sc s r) :: st, m + (r.scs.length + 1))
    rw [show m + 1 + r.scs.length = m + (r.scs.length + 1) by omega]
  | .rp n x r, b, st, m, h, d, l => by
    have l : m + (x.scs ++ r.scs).length ≤ M := l
    rw [List.length_append] at l
    have d : st.length + 1 + max (x.dep + 1) r.dep ≤ D := d
    show ((if (b :: st).length < D then some (Pg.nil :: b :: st, m) else none).bind (run D M (x.toks ++ Tk.cl n :: r.toks))) = _
    rw [if_pos (by rw [List.length_cons]; omega)]
    show run D M (x.toks ++ Tk.cl n :: r.toks) (Pg.nil :: b :: st, m) = _
    rw [run_app, run_toks x .nil (b :: st) m h.2.2.2.1 (by rw [List.length_cons]; omega) (by omega)]
    show run D M (Tk.cl n :: r.toks) (x :: b :: st, m + x.scs.length) = _
    show ((if x ≠ .nil then some (b.app (.rp n x .nil) :: st, m + x.scs.length) else none).bind (run D M r.toks)) = _
    rw [if_pos h.2.2.1]
    show run D M r.toks (b.app (.rp n x .nil) :: st, m + x.scs.length) = _
    rw [run_toks r _ st _ h.2.2.2.2 (by omega) (by omega), Pg.app_assoc]
    show some (b.app (.rp n x r) :: st, m + x.scs.length + r.scs.length) = some (b.app (.rp n x r) :: st, m + (x.scs ++ r.scs).length)
    rw [List.length_append, Nat.add_assoc]
/-- a run that comes to its end takes each of its steps -/
theorem run_at {D M : Nat} {l : List Tk} {u f : List Pg × Nat} (h : run D M l u = some f) {i : Nat} {t : Tk} (ht : l[i]? = some t) {v : List Pg × Nat} (hv : run D M (l.take i) u = some v) : ∃ v', step D M t v = some v' ∧ run D M (l.take (i + 1)) u = some v' := by
  have e : l = l.take i ++ t :: l.drop (i + 1) := by
    obtain ⟨hi, rfl⟩ := List.getElem?_eq_some_iff.mp ht
    rw [← List.drop_eq_getElem_cons hi, List.take_append_drop]
  have h2 := h
  rw [e, run_app, hv] at h2
  have h2 : (step D M t v).bind (run D M (l.drop (i + 1))) = some f := h2
  cases hs : step D M t v with
  | none =>
    rw [hs] at h2
    cases h2
  | some v' =>
    refine ⟨v', rfl, ?_⟩
    rw [List.take_add_one, ht, run_app, hv]
    show (step D M t v).bind (run D M []) = _
    rw [hs]
    rfl
theorem step_op {D M : Nat} {st : List Pg} {m : Nat} {v' : List Pg × Nat} (h : step D M .op (st, m) = some v') : st.length < D ∧ v' = (.nil :: st, m) := by
  have h : (if st.length < D then some (Pg.nil :: st, m) else none) = some v' := h
  split at h
  · cases h
    exact ⟨by assumption, rfl⟩
  · cases h
theorem step_cl {D M : Nat} {n : Int} {st : List Pg} {m : Nat} {v' : List Pg × Nat} (h : step D M (.cl n) (st, m) = some v') : ∃ b c r, st = b :: c :: r ∧ b ≠ .nil ∧ v' = (c.app (.rp n b .nil) :: r, m) := by
  match st, h with
  | [], h => cases h
  | [_], h => cases h
  | b :: c :: r, h =>
    have h : (if b ≠ .nil then some (c.app (.rp n b .nil) :: r, m) else none) = some v' := h
    split at h
    · cases h
      exact ⟨b, c, r, rfl, by assumption, rfl⟩
    · cases h
theorem step_sc {D M : Nat} {s : Sc} {st : List Pg} {m : Nat} {v' : List Pg × Nat} (h : step D M (.sc s) (st, m) = some v') : ∃ b r, st = b :: r ∧ m + 1 ≤ M ∧ v' = (b.app (.sc s .nil) :: r, m + 1) := by
  match st, h with
  | [], h => cases h
  | b :: r, h =>
    have h : (if m + 1 ≤ M then some (b.app (.sc s .nil) :: r, m + 1) else none) = some v' := h
    split at h
    · cases h
      exact ⟨b, r, rfl, by assumption, rfl⟩
    · cases h
/-- what holds of the open bodies -/
def Dp0 (D : Nat) : List Pg → Prop
  | [] => True
  | x :: r => x.dep + (r.length + 1) ≤ D ∧ Dp0 D r
def lens (st : List Pg) : Nat := (st.map Pg.len).sum
def scss (st : List Pg) : Nat := (st.map fun g => g.scs.length).sum
theorem step_inv {D M : Nat} {B : Int} {t : Tk} {st st' : List Pg} {m m' : Nat} (h : step D M t (st, m) = some (st', m')) (tk : TkOk B t) (d : Dp0 D st) (o : ∀ x ∈ st, x.Ok B) (sm : scss st ≤ m) : Dp0 D st' ∧ lens st' ≤ lens st + 1 ∧ (∀ x ∈ st', x.Ok B) ∧ scss st' ≤ m' ∧ (m ≤ M → m' ≤ M) := by
  cases t with
  | op =>
    obtain ⟨l5, e⟩ := step_op h
    cases e
    refine ⟨⟨?_, d⟩, ?_, fun x hx => ?_, ?_, id⟩
    · show 0 + _ ≤ D
      omega
    · show 0 + lens st ≤ _
      omega
    · rcases List.mem_cons.mp hx with e | hx
      · rw [e]; trivial
      · exact o x hx
    · show 0 + scss st ≤ _
      omega
  | cl n =>
    obtain ⟨b, c, r, rfl, bn, e⟩ := step_cl h
    cases e
    obtain ⟨d1, d2, d3⟩ := d
    have tk : 2 ≤ n ∧ n ≤ B := tk
    refine ⟨⟨?_, d3⟩, ?_, fun x hx => ?_, ?_, id⟩
    · rw [Pg.dep_app]
      show max c.dep (max (b.dep + 1) 0) + _ ≤ D
      rw [List.length_cons] at d1
      omega
    · show (c.app (.rp n b .nil)).len + lens r ≤ b.len + (c.len + lens r) + 1
      rw [Pg.len_app]
      show c.len + 1 + _ ≤ _
      omega
    · rcases List.mem_cons.mp hx with e | hx
      · rw [e]
        exact (o c (List.mem_cons_of_mem _ List.mem_cons_self)).app ⟨tk.1, tk.2, bn, o b List.mem_cons_self, trivial⟩
      · exact o x (List.mem_cons_of_mem _ (List.mem_cons_of_mem _ hx))
    · have sm : b.scs.length + (c.scs.length + scss r) ≤ m := sm
      show (c.app (.rp n b .nil)).scs.length + scss r ≤ m
      rw [Pg.scs_app, List.length_append]
      show c.scs.length + (b.scs ++ []).length + _ ≤ _
      rw [List.append_nil]
      omega
  | sc s =>
    obtain ⟨b, r, rfl, l, e⟩ := step_sc h
    cases e
    obtain ⟨d1, d2⟩ := d
    refine ⟨⟨?_, d2⟩, ?_, fun x hx => ?_, ?_, fun _ => l⟩
    · rw [Pg.dep_app]
      show max b.dep 0 + _ ≤ D
      omega
    · show (b.app (.sc s .nil)).len + lens r ≤ b.len + lens r + 1
      rw [Pg.len_app]
      show b.len + 1 + _ ≤ _
      omega
    · rcases List.mem_cons.mp hx with e | hx
      · rw [e]
        exact (o b List.mem_cons_self).app ⟨tk, trivial⟩
      · exact o x (List.mem_cons_of_mem _ hx)
    · have sm : b.scs.length + scss r ≤ m := sm
      show (b.app (.sc s .nil)).scs.length + scss r ≤ m + 1
      rw [Pg.scs_app, List.length_append]
      show b.scs.length + 1 + _ ≤ _
      omega
/-! ### scans among the words -/
def Tk.isSc : Tk → Bool
  | .sc _ => true
  | _ => false
theorem isSc_len : ∀ g : Pg, (g.toks.filter Tk.isSc).length = g.scs.length
  | .nil => rfl
  | .sc s r => by
    show (List.filter Tk.isSc (Tk.sc s :: r.toks)).length = r.scs.length + 1
    rw [List.filter_cons_of_pos rfl, List.length_cons, isSc_len r]
  | .rp n b r => by
    show (List.filter Tk.isSc (Tk.op :: (b.toks ++ Tk.cl n :: r.toks))).length = (b.scs ++ r.scs).length
    rw [List.filter_cons_of_neg (by decide), List.filter_append, List.filter_cons_of_neg (show ¬ (Tk.cl n).isSc = true from fun h => by cases h), List.length_append, List.length_append, isSc_len b, isSc_len r]
def Tk.scOf : Tk → Sc
  | .sc s => s
  | _ => (0, 0)
theorem isSc_scs : ∀ g : Pg, (g.toks.filter Tk.isSc).map Tk.scOf = g.scs
  | .nil => rfl
  | .sc s r => by
    show (List.filter Tk.isSc (Tk.sc s :: r.toks)).map Tk.scOf = s :: r.scs
    rw [List.filter_cons_of_pos rfl, List.map_cons, isSc_scs r]
    rfl
  | .rp n b r => by
    show (List.filter Tk.isSc (Tk.op :: (b.toks ++ Tk.cl n :: r.toks))).map Tk.scOf = b.scs ++ r.scs
    rw [List.filter_cons_of_neg (by decide), List.filter_append, List.filter_cons_of_neg (show ¬ (Tk.cl n).isSc = true from fun h => by cases h), List.map_append, isSc_scs b, isSc_scs r]
theorem wd_head {B : Int} {t : Tk} (h : TkOk B t) : ∃ c r, tl t.wd = c :: r ∧ (!decide (c ∈ [40, 41])) = t.isSc := by
  cases t with
  | op => exact ⟨40, [], tl_op, by decide⟩
  | cl n =>
    refine ⟨41, tl (nw n), ?_, (by decide : (!decide (41 ∈ [40, 41])) = false)⟩
    show tl (clW ++ nw n) = _
    rw [tl_append, tl_cl]
    rfl
  | sc s =>
    obtain ⟨c, r, e, k⟩ := scw_first h
    refine ⟨c, r, e, ?_⟩
    rw [decide_eq_false]
    · rfl
    · intro m
      rcases List.mem_cons.mp m with m | m
      · omega
      · have := List.mem_singleton.mp m
        omega
end Kb

namespace Kb
open PySem PySem.Spec PyProof.Rows L2 TL
/-! ### parts in the heap -/
/-- tuples stay -/
def Kp (H H' : Hp) : Prop := ∀ a xs, H a = some (.tup xs) → H' a = some (.tup xs)
theorem Ex.kp {H H' : Hp} (e : Ex H H') : Kp H H' := fun a xs h => e a _ h
theorem Nx.kp {H H' : Hp} (e : Nx H H') : Kp H H' := fun a xs h => e.at h
theorem Kp.refl (H : Hp) : Kp H H := fun _ _ h => h
theorem Kp.trans {H H1 H2 : Hp} (a : Kp H H1) (b : Kp H1 H2) : Kp H H2 := fun x xs h => b x xs (a x xs h)
theorem Kp.lst {H : Hp} {p : Addr} {xs : List V} {o : HO} (h : H p = some (.lst xs)) : Kp H (upd H p o) := fun a ys e => by
  rw [upd_ne]
  · exact e
  · intro z
    rw [z, h] at e
    cases e
theorem Kp.new {H : Hp} {p : Addr} {o : HO} (h : H p = none) : Kp H (upd H p o) := (Ex.new h).kp
def Its (H : Hp) : Pg → List V → Prop
  | .nil, vs => vs = []
  | .sc s r, vs => ∃ v us, vs = v :: us ∧ IsSc H v s ∧ Its H r us
  | .rp n b r, vs => ∃ t u bs us, vs = .ref t :: us ∧ H t = some (.tup [.int n, .ref u]) ∧ H u = some (.tup bs) ∧ Its H b bs ∧ Its H r us
def IsPg (H : Hp) (v : V) (g : Pg) : Prop := ∃ t vs, v = .ref t ∧ H t = some (.tup vs) ∧ Its H g vs
theorem IsSc.kp {H H' : Hp} (k : Kp H H') {v : V} {s : Sc} (h : IsSc H v s) : IsSc H' v s := by
  obtain ⟨t, h1, h2⟩ := h
  exact ⟨t, h1, k _ _ h2⟩
theorem Its.kp {H H' : Hp} (k : Kp H H') : ∀ {g : Pg} {vs : List V}, Its H g vs → Its H' g vs
  | .nil, _, h => h
  | .sc s r, _, ⟨v, us, e, h, t⟩ => ⟨v, us, e, h.kp k, t.kp k⟩
  | .rp n b r, _, ⟨t, u, bs, us, e, h1, h2, h3, h4⟩ => ⟨t, u, bs, us, e, k _ _ h1, k _ _ h2, h3.kp k, h4.kp k⟩
theorem IsPg.kp {H H' : Hp} (k : Kp H H') {v : V} {g : Pg} (h : IsPg H v g) : IsPg H' v g := by
  obtain ⟨t, vs, e, h1, h2⟩ := h
  exact ⟨t, vs, e, k _ _ h1, h2.kp k⟩
theorem IsPg.mono {H H' : Hp} (e : Ex H H') {v : V} {g : Pg} (h : IsPg H v g) : IsPg H' v g := h.kp e.kp
theorem Its.len {H : Hp} : ∀ {g : Pg} {vs : List V}, Its H g vs → vs.length = g.len
  | .nil, _, h => by rw [show _ = [] from h]; rfl
  | .sc s r, _, ⟨v, us, e, h, t⟩ => by rw [e, List.length_cons, t.len]; rfl
  | .rp n b r, _, ⟨t, u, bs, us, e, h1, h2, h3, h4⟩ => by rw [e, List.length_cons, h4.len]; rfl
theorem Its.app {H : Hp} : ∀ {a b : Pg} {vs us : List V}, Its H a vs → Its H b us → Its H (a.app b) (vs ++ us)
  | .nil, b, vs, us, h, k => by
    rw [show vs = [] from h]
    exact k
  | .sc s r, b, _, us, ⟨v, ws, e, h, t⟩, k => ⟨v, ws ++ us, by rw [e]; rfl, h, t.app k⟩
  | .rp n x r, b, _, us, ⟨t, u, bs, ws, e, h1, h2, h3, h4⟩, k => ⟨t, u, bs, ws ++ us, by rw [e]; rfl, h1, h2, h3, h4.app k⟩
/-- the part with an index, what is ahead of it and what is behind it -/
theorem Its.get {H : Hp} {v : V} {b : Pg} : ∀ {a : Pg} {vs : List V}, Its H (a.app b) vs → vs[a.len]? = some v →
    (∃ s r, b = .sc s r ∧ IsSc H v s) ∨ ∃ n x r t u bs, b = .rp n x r ∧ v = .ref t ∧ H t = some (.tup [.int n, .ref u]) ∧ H u = some (.tup bs) ∧ Its H x bs
  | .nil, vs, h, e => by
    have h : Its H b vs := h
    have e : vs[0]? = some v := e
    cases b with
    | nil =>
      rw [show vs = [] from h] at e
      cases e
    | sc s r =>
      obtain ⟨w, us, rfl, h1, _⟩ := h
      cases e
      exact .inl ⟨s, r, rfl, h1⟩
    | rp n x r =>
      obtain ⟨t, u, bs, us, rfl, h1, h2, h3, _⟩ := h
      cases e
      exact .inr ⟨n, x, r, t, u, bs, rfl, rfl, h1, h2, h3⟩
  | .sc s r, _, ⟨w, us, rfl, h, t⟩, e => Its.get (a := r) t e
  | .rp n x r, _, ⟨t, u, bs, us, rfl, h1, h2, h3, h4⟩, e => Its.get (a := r) h4 e
theorem Pg.len_zero {g : Pg} (h : g.len = 0) : g = .nil := by
  cases g with
  | nil => rfl
  | sc s r => exact (Nat.succ_ne_zero _ h).elim
  | rp n b r => exact (Nat.succ_ne_zero _ h).elim
/-- a walk that has come to the end -/
theorem Its.done {H : Hp} {a b : Pg} {vs : List V} (h : Its H (a.app b) vs) (e : a.len = vs.length) : b = .nil := by
  have := h.len
  rw [Pg.len_app] at this
  exact Pg.len_zero (by omega)
theorem Pg.sc_app (a : Pg) (s : Sc) (r : Pg) : a.app (.sc s r) = (a.app (.sc s .nil)).app r := by
  rw [Pg.app_assoc]
  rfl
theorem Pg.rp_app (a : Pg) (n : Int) (x r : Pg) : a.app (.rp n x r) = (a.app (.rp n x .nil)).app r := by
  rw [Pg.app_assoc]
  rfl
/-! ### parts as data -/
def pdG : Pg → List PyData
  | .nil => []
  | .sc s r => pdS s :: pdG r
  | .rp n b r => .tuple [.int n, .tuple (pdG b)] :: pdG r
def pdP (g : Pg) : PyData := .tuple (pdG g)
theorem its_dp {K : PySem.W.Frag} {H : Hp} : ∀ {g : Pg} {vs : List V}, Its H g vs → DpAll K H vs (pdG g)
  | .nil, vs, h => by
    rw [show vs = [] from h]
    exact .nil
  | .sc s r, vs, h => by
    obtain ⟨v, us, rfl, ⟨t0, rfl, ht⟩, t⟩ := h
    exact .cons (.tup (SqT.of ht) (.cons (.int _) (.cons (.int _) .nil))) (its_dp t)
  | .rp n b r, _, ⟨t, u, bs, us, rfl, h1, h2, h3, h4⟩ => .cons (.tup (SqT.of h1) (.cons (.int _) (.cons (.tup (SqT.of h2) (its_dp h3)) .nil))) (its_dp h4)
theorem IsPg.dp {K : PySem.W.Frag} {H : Hp} {v : V} {g : Pg} (h : IsPg H v g) : Dp K H v (pdP g) := by
  obtain ⟨t, vs, rfl, h1, h2⟩ := h
  exact .tup (SqT.of h1) (its_dp h2)
theorem eqv_G : ∀ g h : Pg, PyData.eqvAll (pdG g) (pdG h) = decide (g = h)
  | .nil, .nil => rfl
  | .nil, .sc _ _ => rfl
  | .nil, .rp _ _ _ => rfl
  | .sc _ _, .nil => rfl
  | .rp _ _ _, .nil => rfl
  | .sc s r, .sc t q => by
    show (PyData.eqv (pdS s) (pdS t) && PyData.eqvAll (pdG r) (pdG q)) = _
    rw [eqv_S, eqv_G r q, Bool.eq_iff_iff]
    simp
  | .sc s r, .rp n b q => by
    show (((s.1 == n) && (false && true)) && _) = _
    rw [Bool.false_and, Bool.and_false, Bool.false_and]
    exact (decide_eq_false (by intro z; cases z)).symm
  | .rp n b r, .sc t q => by
    show (((n == t.1) && (false && true)) && _) = _
    rw [Bool.false_and, Bool.and_false, Bool.false_and]
    exact (decide_eq_false (by intro z; cases z)).symm
  | .rp n b r, .rp m c q => by
    show (((n == m) && (PyData.eqvAll (pdG b) (pdG c) && true)) && PyData.eqvAll (pdG r) (pdG q)) = _
    rw [eqv_G b c, eqv_G r q, Bool.eq_iff_iff]
    simp [and_assoc]
theorem eqv_Pg (g h : Pg) : PyData.eqv (pdP g) (pdP h) = decide (g = h) := eqv_G g h
theorem lay_G : ∀ g : Pg, PyData.canLayAll0 (pdG g) = true
  | .nil => rfl
  | .sc s r => by
    show (PyData.canLay0 (pdS s) && PyData.canLayAll0 (pdG r)) = true
    rw [lay_G r]
    rfl
  | .rp n b r => by
    show ((true && (PyData.canLayAll0 (pdG b) && true)) && PyData.canLayAll0 (pdG r)) = true
    rw [lay_G b, lay_G r]
    rfl
theorem dep_G : ∀ g : Pg, PyData.depthAll (pdG g) ≤ 2 * g.dep + 1
  | .nil => Nat.zero_le _
  | .sc s r => by
    show max (PyData.depth (pdS s)) (PyData.depthAll (pdG r)) ≤ 2 * r.dep + 1
    have := dep_G r
    have : PyData.depth (pdS s) = 1 := rfl
    omega
  | .rp n b r => by
    show max (max 0 (max (PyData.depthAll (pdG b) + 1) 0) + 1) (PyData.depthAll (pdG r)) ≤ 2 * max (b.dep + 1) r.dep + 1
    have := dep_G r
    have := dep_G b
    omega
theorem shaped_Pg {g : Pg} (h : g.dep ≤ 30) : SeqAt.shaped (pdP g) = true := by
  show (PyData.canLayAll0 (pdG g) && decide (PyData.depthAll (pdG g) + 1 ≤ 64)) = true
  have := dep_G g
  rw [lay_G, decide_eq_true (by omega)]
  rfl
/-! ### how many accesses there are -/
theorem Pg.cnt_nn : ∀ {B : Int} {g : Pg}, g.Ok B → 0 ≤ g.cnt
  | _, .nil, _ => Int.le_refl 0
  | B, .sc s r, h => by
    have := Pg.cnt_nn h.2
    have := slen_pos s
    show 0 ≤ slen s + r.cnt
    omega
  | B, .rp n x r, h => by
    have a := Pg.cnt_nn h.2.2.2.2
    have b := Pg.cnt_nn h.2.2.2.1
    have c := Int.mul_nonneg (show 0 ≤ n by have := h.1; omega) b
    show 0 ≤ n * x.cnt + r.cnt
    omega
theorem slen_le {B : Int} {s : Sc} (h : SOk B s) : slen s ≤ B + 1 := by
  obtain ⟨a, b, c, d⟩ := h
  unfold slen
  split <;> omega
theorem Pg.cnt_le : ∀ {B : Int} {g : Pg} {k : Nat}, 0 ≤ B → g.Ok B → g.dep ≤ k → g.cnt ≤ (g.scs.length : Int) * (B + 1) ^ (k + 1)
  | B, .nil, k, _, _, _ => by
    show (0 : Int) ≤ ((0 : Nat) : Int) * _
    simp
  | B, .sc s r, k, hB, h, d => by
    have a := Pg.cnt_le (k := k) hB h.2 d
    have b := slen_le h.1
    have p : (1 : Int) ≤ (B + 1) ^ k := by
      have := Int.pow_pos (n := B + 1) (m := k) (by omega)
      omega
    have c : B + 1 ≤ (B + 1) ^ (k + 1) := by
      rw [Int.pow_succ]
      have := Int.mul_le_mul_of_nonneg_right p (show 0 ≤ B + 1 by omega)
      omega
    show slen s + r.cnt ≤ ((r.scs.length + 1 : Nat) : Int) * _
    rw [Int.natCast_add, Int.add_mul]
    omega
  | B, .rp n x r, k, hB, h, d => by
    have d : max (x.dep + 1) r.dep ≤ k := d
    obtain ⟨j, rfl⟩ : ∃ j, k = j + 1 := ⟨k - 1, by omega⟩
    have a := Pg.cnt_le (k := j + 1) hB h.2.2.2.2 (by omega)
    have b := Pg.cnt_le (k := j) hB h.2.2.2.1 (by omega)
    have z := Pg.cnt_nn h.2.2.2.1
    have m := Int.mul_le_mul (show n ≤ B + 1 by have := h.2.1; omega) b z (show 0 ≤ B + 1 by omega)
    have e : (B + 1) * ((x.scs.length : Int) * (B + 1) ^ (j + 1)) = (x.scs.length : Int) * (B + 1) ^ (j + 1 + 1) := by
      rw [Int.pow_succ (B + 1) (j + 1), ← Int.mul_assoc, Int.mul_comm (B + 1) (x.scs.length : Int), Int.mul_assoc, Int.mul_comm (B + 1) ((B + 1) ^ (j + 1))]
    rw [e] at m
    show n * x.cnt + r.cnt ≤ ((x.scs ++ r.scs).length : Int) * _
    rw [List.length_append, Int.natCast_add, Int.add_mul]
    omega
end Kb

namespace Kb
open PySem PySem.Spec PyProof.Rows L2 TL
/-! ### names that are still the built-in ones -/
structure Bt2 (mg : Str → Option Value) : Prop extends Bt mg where
  str : mg "str" = none
  enumerate : mg "enumerate" = none
  reversed : mg "reversed" = none
/-! ### promises -/
def spIsRep : Sp := fun vs H Q _ => ∃ v : V, vs = [v] ∧ ((∃ s, IsSc H v s ∧ RetV (.bl false) H Q) ∨ (∃ t n u bs, v = .ref t ∧ H t = some (.tup [.int n, .ref u]) ∧ H u = some (.tup bs) ∧ RetV (.bl true) H Q))
def spScans (d : Nat) : Sp := fun vs H Q _ => ∃ (v : V) (g : Pg), vs = [v] ∧ IsPg H v g ∧ g.dep < d ∧ g.scs.length ≤ 2 ^ 18 ∧ ∀ p H', H p = none → Ex H H' → Scs H' p g.scs → Q (.ref p) H'
def BB (B : Int) : Prop := 0 ≤ B ∧ B + 1 ≤ 2 ^ 400
def spCnt (d : Nat) : Sp := fun vs H Q _ => ∃ (v : V) (g : Pg) (B : Int), vs = [v] ∧ IsPg H v g ∧ g.dep < d ∧ d ≤ 100 ∧ BB B ∧ g.Ok B ∧ g.scs.length ≤ 2 ^ 18 ∧ RetV (.int g.cnt) H Q
def spDigits (e : Nat) : Sp := fun vs H Q _ => ∃ (n : Int), vs = [.int n] ∧ 0 ≤ n ∧ n < 10 ^ e ∧ RetV (.str (nw n)) H Q
def spScw (e : Nat) : Sp := fun vs H Q _ => ∃ (v : V) (s : Sc) (B : Int), vs = [v] ∧ IsSc H v s ∧ SOk B s ∧ B < 10 ^ e ∧ RetV (.str (scw s)) H Q
def spWords (e d : Nat) : Sp := fun vs H Q _ => ∃ (v : V) (g : Pg) (B : Int), vs = [v] ∧ IsPg H v g ∧ g.dep < d ∧ g.Ok B ∧ B < 10 ^ e ∧ g.toks.length ≤ 2 ^ 18 ∧ ∀ p H', H p = none → Ex H H' → H' p = some (.lst (g.wl.map V.str)) → Q (.ref p) H'
def spRdD : Sp := fun vs H Q _ => ∃ (i : Int) (m : Int), vs = [.str (nw i), .int m] ∧ 0 ≤ i ∧ i < 10 ^ 600 ∧ ((nw i).length : Int) ≤ m ∧ RetV (.int i) H Q
def spRdN : Sp := fun vs H Q _ => ∃ (i : Int), vs = [.str (nw i)] ∧ 0 ≤ i ∧ i ≤ 10 ^ 30 ∧ RetV (.int i) H Q
def spRdS : Sp := fun vs H Q _ => ∃ (s : Sc), vs = [.str (scw s)] ∧ SOk (10 ^ 30) s ∧ ∀ t H', H t = none → Ex H H' → H' t = some (.tup [.int s.1, .int s.2]) → Q (.ref t) H'
def spRdT : Sp := fun vs H Q _ => ∃ (n : Int), vs = [.str (clW ++ nw n)] ∧ 2 ≤ n ∧ n ≤ 10 ^ 30 ∧ RetV (.int n) H Q
/-- a text that is that of a program within the limits -/
structure Lim (g : Pg) : Prop where
  ok : g.Ok (10 ^ 30)
  dep : g.dep ≤ 5
  few : g.scs.length ≤ 40
def spRead : Sp := fun vs H Q _ => ∃ (g : Pg), vs = [.str (txt g)] ∧ Lim g ∧ ∀ v H', Ex H H' → IsPg H' v g → Q v H'
theorem Lim.toks {g : Pg} (h : Lim g) : g.toks.length ≤ 440 := by
  have := toks_len h.ok
  have a := Nat.mul_le_mul (show 2 * g.dep + 1 ≤ 11 by have := h.dep; omega) h.few
  omega
theorem Lim.big {g : Pg} (h : Lim g) : (g.wl.map (·.length)).sum + g.wl.length * spW.length ≤ 2 ^ 18 := by
  have a := txt_big h.ok (k := 31) (by decide) (by decide +kernel)
  have b := Nat.mul_le_mul_right (2 * 31 + 2) h.toks
  omega
theorem Lim.txt {g : Pg} (h : Lim g) : (txt g).length ≤ 2 ^ 18 := Nat.le_trans (join_len _) h.big
theorem mx (e : Nat) : e ≤ 600 → ((10 : Int) ^ e) ≤ 10 ^ 600 := fun h => by
  have : (10 : Int) ^ 600 = 10 ^ e * 10 ^ (600 - e) := by rw [← Int.pow_add]; congr 1; omega
  rw [this]
  have p := Int.pow_pos (n := 10) (m := e) (by decide)
  have q := Int.pow_pos (n := 10) (m := 600 - e) (by decide)
  have := Int.mul_le_mul_of_nonneg_left (show (1 : Int) ≤ 10 ^ (600 - e) by omega) (show (0 : Int) ≤ 10 ^ e by omega)
  omega
theorem log_nw {n : Int} (h : 0 ≤ n) (b : n < 10 ^ 500) : n.natAbs.log2 < 1920 := by
  refine Nat.lt_of_lt_of_le (PySem.Flt.log2_lt_of (k := 1661) (by decide) ?_) (by decide)
  have e : ((10 : Int) ^ 500) = ((10 ^ 500 : Nat) : Int) := by simp
  have : n.natAbs < 10 ^ 500 := by omega
  exact Nat.lt_of_lt_of_le this (by decide +kernel)
end Kb

namespace Kb
open PySem PySem.Spec PyProof.Rows L2 TL
section
variable {K : PySem.W.Frag} {a : Addr} {xs : List V} {g : TG}
/-- for i, x in enumerate(xs) -/
theorem for_enum {tb : TS} {D : Ends} {σ : L2.St} {H : Hp} (Pv : Nat → L2.St → Hp → Prop) (h0 : Pv 0 σ H) (hl : ∀ i σ H, i ≤ xs.length → Pv i σ H → SqL K H a xs)
    (hs : ∀ i x T σ H, xs[i]? = some x → H T = none → Pv i σ H → g (.ref T) σ (upd H T (.tup [.int (i : Nat), x])) fun σ2 H2 => tb { D with nx := Pv (i + 1), ct := Pv (i + 1), bk := D.nx } σ2 H2) (hd : ∀ σ H, Pv xs.length σ H → D.nx σ H) :
    ∃ W : Nat → Nat → L2.St → Hp → Prop, (∃ m, W 0 m σ H) ∧ ∀ i m σ H, W i m σ H →
      ((Ite K a).stop i H ∧ D.nx σ H) ∨ ((Ite K a).go i H ∧ ∃ N : L2.St → Hp → Prop, (∀ σ' H', N σ' H' → ∃ m', m' < m ∧ W (i + 1) m' σ' H') ∧ ∀ x H', (Ite K a).yld i H x H' → g x σ H' fun σ2 H2 => tb { D with nx := N, ct := N, bk := D.nx } σ2 H2) := by
  refine ⟨fun i m σ H => m = xs.length - i ∧ i ≤ xs.length ∧ Pv i σ H, ⟨xs.length, by simp, Nat.zero_le _, h0⟩, ?_⟩
  rintro i m σ H ⟨rfl, hi, p⟩
  have q1 := hl i σ H hi p
  by_cases hlt : i < xs.length
  · have g1 : xs[i]? = some xs[i] := List.getElem?_eq_getElem hlt
    refine .inr ⟨⟨_, _, q1, g1⟩, Pv (i + 1), fun σ' H' p' => ⟨xs.length - (i + 1), by omega, rfl, hlt, p'⟩, fun v H' y => ?_⟩
    obtain ⟨T, x1, rfl, nT, rfl, f1⟩ := y
    exact hs i x1 T σ H (f1 xs q1) nT p
  · have e : i = xs.length := by omega
    subst e
    exact .inl ⟨⟨xs, q1, Nat.le_refl _⟩, hd σ H p⟩
end
theorem cut_cl (n : Int) : cutS (clW ++ nw n) (some 1) none = nw n := by
  refine ext_tl ?_
  unfold cutS
  show ((clW ++ nw n).cps.toList.drop _).take _ = _
  have e : (clW ++ nw n).cps.toList = 41 :: tl (nw n) := by
    show tl (clW ++ nw n) = _
    rw [tl_append, tl_cl]
    rfl
  have l : (clW ++ nw n).length = (tl (nw n)).length + 1 := by rw [len_tl, tl_append, tl_cl, List.length_append]; exact Nat.add_comm _ _
  rw [e, l, HT.sIx_none, show HT.sIx ((tl (nw n)).length + 1) 0 (some 1) = min 1 ((tl (nw n)).length + 1) from HT.sIx_nat _ 0 1, show min 1 ((tl (nw n)).length + 1) = 1 by omega]
  show (tl (nw n)).take _ = _
  rw [show (tl (nw n)).length + 1 - 1 = (tl (nw n)).length by omega, List.take_length]
/-- the open bodies, the innermost one first -/
def Bod (H : Hp) (p : Addr) (st : List Pg) : Prop := ∃ us, H p = some (.lst us.reverse) ∧ Paired (IsPg H) us st
theorem Pp.kp {H H' : Hp} (k : Kp H H') : ∀ {vs : List V} {gs : List Pg}, Paired (IsPg H) vs gs → Paired (IsPg H') vs gs
  | _, _, .nil => .nil
  | _, _, .cons h t => .cons (h.kp k) (Pp.kp k t)
theorem Pp.len {H : Hp} : ∀ {vs : List V} {gs : List Pg}, Paired (IsPg H) vs gs → vs.length = gs.length
  | _, _, .nil => rfl
  | _, _, .cons h t => congrArg (· + 1) (Pp.len t)
theorem Bod.mono {H H' : Hp} (e : Ex H H') {p : Addr} {st : List Pg} (h : Bod H p st) : Bod H' p st := by
  obtain ⟨us, h1, h2⟩ := h
  exact ⟨us, e _ _ h1, Pp.kp e.kp h2⟩
end Kb

namespace Kb
/-! ### corners -/
def cstep (acc : List Int) (p : Pc) : List Int := (if 1 < p.1 ∧ (acc = [] ∨ ∃ z, acc.getLast? = some z ∧ z < p.1 - 1) then acc ++ [p.1 - 1] else acc) ++ [p.2.1]
def corn (rs : List Pc) : List Int := rs.foldl cstep []
theorem corn_go : ∀ (rs : List Pc) (acc : List Int) (b : Int), acc.Pairwise (· < ·) → (acc = [] ∧ b = 0 ∨ acc.getLast? = some b) → (∀ z ∈ acc, z ≤ b) → 0 ≤ b → rs.Pairwise (fun a b => a.2.1 < b.1) → (∀ p ∈ rs, b < p.1 ∧ p.1 ≤ p.2.1) →
    (rs.foldl cstep acc).Pairwise (· < ·) ∧ ∀ z, z ∈ rs.foldl cstep acc ↔ z ∈ acc ∨ ∃ p ∈ rs, z = p.2.1 ∨ (1 < p.1 ∧ z = p.1 - 1)
  | [], acc, b, o, _, _, _, _, _ => ⟨o, fun z => ⟨.inl, fun h => h.elim id fun ⟨_, h, _⟩ => absurd h (by simp)⟩⟩
  | p :: r, acc, b, o, hl, le, b0, asc, hp => by
    have hp1 := hp p (List.mem_cons_self ..)
    have as2 := List.pairwise_cons.mp asc
    have c : (1 < p.1 ∧ (acc = [] ∨ ∃ z, acc.getLast? = some z ∧ z < p.1 - 1)) ↔ b < p.1 - 1 := by
      rcases hl with ⟨rfl, rfl⟩ | hl
      · constructor
        · intro h
          omega
        · intro h
          exact ⟨by omega, .inl rfl⟩
      · constructor
        · rintro ⟨_, rfl | ⟨z, e, h⟩⟩
          · cases hl
          · rw [hl] at e
            cases e
            exact h
        · intro h
          exact ⟨by omega, .inr ⟨b, hl, h⟩⟩
    have key : ∀ acc' : List Int, acc' = cstep acc p → acc'.Pairwise (· < ·) ∧ acc'.getLast? = some p.2.1 ∧ (∀ z, z ∈ acc' ↔ z ∈ acc ∨ z = p.2.1 ∨ (1 < p.1 ∧ z = p.1 - 1)) := by
      intro acc' e
      subst e
      unfold cstep
      by_cases h : b < p.1 - 1
      · rw [if_pos (c.mpr h)]
        refine ⟨?_, by simp, fun z => ?_⟩
        · rw [List.append_assoc, List.pairwise_append]
          refine ⟨o, List.pairwise_cons.mpr ⟨fun z hz => ?_, List.pairwise_singleton ..⟩, fun z hz y hy => ?_⟩
          · rw [List.mem_singleton.mp hz]
            omega
          · have := le z hz
            rcases List.mem_cons.mp hy with rfl | hy
            · omega
            · rw [List.mem_singleton.mp hy]
              omega
        · rw [List.append_assoc, List.mem_append]
          constructor
          · rintro (h1 | h1)
            · exact .inl h1
            · rcases List.mem_cons.mp h1 with rfl | h1
              · exact .inr (.inr ⟨by omega, rfl⟩)
              · exact .inr (.inl (List.mem_singleton.mp h1))
          · rintro (h1 | rfl | ⟨_, rfl⟩)
            · exact .inl h1
            · exact .inr (by simp)
            · exact .inr (by simp)
      · rw [if_neg fun z => h (c.mp z)]
        refine ⟨?_, by simp, fun z => ?_⟩
        · rw [List.pairwise_append]
          refine ⟨o, List.pairwise_singleton .., fun z hz y hy => ?_⟩
          have := le z hz
          rw [List.mem_singleton.mp hy]
          omega
        · rw [List.mem_append]
          constructor
          · rintro (h1 | h1)
            · exact .inl h1
            · exact .inr (.inl (List.mem_singleton.mp h1))
          · rintro (h1 | rfl | ⟨h2, rfl⟩)
            · exact .inl h1
            · exact .inr (by simp)
            · refine .inl ?_
              have e : b = p.1 - 1 := by omega
              rcases hl with ⟨rfl, rfl⟩ | hl
              · omega
              · rw [← e]
                exact List.mem_of_getLast? hl
    obtain ⟨k1, k2, k3⟩ := key _ rfl
    have ih := corn_go r (cstep acc p) p.2.1 k1 (.inr k2) (fun z hz => by
      rcases (k3 z).mp hz with h | h | h
      · have := le z h
        omega
      · omega
      · omega) (by omega) as2.2 fun q hq => ⟨as2.1 q hq, (hp q (List.mem_cons_of_mem _ hq)).2⟩
    refine ⟨ih.1, fun z => ?_⟩
    show z ∈ r.foldl cstep (cstep acc p) ↔ _
    rw [ih.2, k3]
    constructor
    · rintro ((h | h) | ⟨q, hq, h⟩)
      · exact .inl h
      · exact .inr ⟨p, List.mem_cons_self .., h⟩
      · exact .inr ⟨q, List.mem_cons_of_mem _ hq, h⟩
    · rintro (h | ⟨q, hq, h⟩)
      · exact .inl (.inl h)
      · rcases List.mem_cons.mp hq with rfl | hq
        · exact .inl (.inr h)
        · exact .inr ⟨q, hq, h⟩
theorem Can.asc : ∀ {rs : List Pc}, Can rs → rs.Pairwise fun a b => a.2.1 < b.1
  | [], _ => List.Pairwise.nil
  | p :: r, h => List.pairwise_cons.mpr ⟨fun q hq => Can.above h q hq, Can.asc h.2.2.2⟩
/-- where an end is not, nothing changes -/
theorem atP_same {ps : List Pc} {d : Int} (h : ∀ p ∈ ps, d ≠ p.2.1 ∧ d ≠ p.1 - 1) : atP ps d = atP ps (d + 1) := by
  induction ps with
  | nil => rfl
  | cons p r ih =>
    rw [atP_cons, atP_cons, ih fun q hq => h q (List.mem_cons_of_mem _ hq)]
    have := h p (List.mem_cons_self ..)
    congr 1
    unfold at1
    by_cases c : p.1 ≤ d ∧ d ≤ p.2.1
    · rw [if_pos c, if_pos (by omega)]
    · rw [if_neg c, if_neg (by omega)]
theorem Can.change : ∀ {rs : List Pc}, Can rs → ∀ p ∈ rs, atP rs p.2.1 ≠ atP rs (p.2.1 + 1) ∧ atP rs (p.1 - 1) ≠ atP rs p.1 := by
  intro rs c p hp
  have le := c.le p hp
  rw [c.at p hp p.2.1 le (Int.le_refl _), c.at p hp p.1 (Int.le_refl _) le]
  have two : ∀ {rs : List Pc}, Can rs → ∀ p ∈ rs, p.2.2 ≠ 0 := by
    intro rs
    induction rs with
    | nil => intro _ p hp; cases hp
    | cons q r ih =>
      intro c p hp
      rcases List.mem_cons.mp hp with rfl | hp
      · exact c.2.1
      · exact ih c.2.2.2 p hp
  have nb : ∀ {rs : List Pc}, Can rs → ∀ p ∈ rs, ∀ q ∈ rs, p.2.1 + 1 = q.1 → p.2.2 ≠ q.2.2 := by
    intro rs
    induction rs with
    | nil => intro _ p hp; cases hp
    | cons x r ih =>
      intro c p hp q hq e
      rcases List.mem_cons.mp hp with rfl | hp
      · rcases List.mem_cons.mp hq with rfl | hq
        · have := c.1
          omega
        · cases r with
          | nil => cases hq
          | cons y s =>
            rcases List.mem_cons.mp hq with rfl | hq'
            · exact (c.2.2.1 _ rfl).2 e
            · have := Can.above c.2.2.2 q hq'
              have := c.2.2.2.1
              have := (c.2.2.1 y rfl).1
              omega
      · rcases List.mem_cons.mp hq with rfl | hq
        · rename_i hp'
          have := Can.above c p hp'
          have := c.1
          have := c.2.2.2.le p hp'
          omega
        · exact ih c.2.2.2 p (by assumption) q hq e
  constructor
  · intro e
    obtain ⟨q, hq, q1, q2⟩ := atP_pos (ps := rs) (d := p.2.1 + 1) (by rw [← e]; exact two c p hp)
    have a := c.at q hq _ q1 q2
    by_cases z : q.1 = p.2.1 + 1
    · exact nb c p hp q hq z.symm (by rw [e, a])
    · have b := c.at q hq p.2.1 (by omega) (by omega)
      rw [c.at p hp p.2.1 le (Int.le_refl _)] at b
      have : ∀ {rs : List Pc}, Can rs → ∀ p ∈ rs, ∀ q ∈ rs, q.1 ≤ p.2.1 → p.2.1 < q.2.1 → False := by
        intro rs
        induction rs with
        | nil => intro _ p hp; cases hp
        | cons x r ih =>
          intro c p hp q hq h1 h2
          rcases List.mem_cons.mp hp with rfl | hp
          · rcases List.mem_cons.mp hq with rfl | hq
            · omega
            · have := Can.above c q hq
              omega
          · rcases List.mem_cons.mp hq with rfl | hq
            · rename_i hp'
              have := Can.above c p hp'
              have := c.2.2.2.le p hp'
              omega
            · exact ih c.2.2.2 p (by assumption) q hq h1 h2
      exact this c p hp q hq (by omega) (by omega)
  · intro e
    obtain ⟨q, hq, q1, q2⟩ := atP_pos (ps := rs) (d := p.1 - 1) (by rw [e]; exact two c p hp)
    have a := c.at q hq _ q1 q2
    by_cases z : q.2.1 = p.1 - 1
    · exact nb c q hq p hp (by omega) (by rw [← e, a])
    · have : ∀ {rs : List Pc}, Can rs → ∀ p ∈ rs, ∀ q ∈ rs, q.1 < p.1 → p.1 ≤ q.2.1 → False := by
        intro rs
        induction rs with
        | nil => intro _ p hp; cases hp
        | cons x r ih =>
          intro c p hp q hq h1 h2
          rcases List.mem_cons.mp hp with rfl | hp
          · rcases List.mem_cons.mp hq with rfl | hq
            · omega
            · have := Can.above c q hq
              have := c.1
              omega
          · rcases List.mem_cons.mp hq with rfl | hq
            · rename_i hp'
              have := Can.above c p hp'
              omega
            · exact ih c.2.2.2 p (by assumption) q hq h1 h2
      exact this c p hp q hq (by omega) (by omega)
theorem corn_ok {rs : List Pc} (c : Can rs) (h1 : ∀ p ∈ rs, 1 ≤ p.1) : (corn rs).Pairwise (· < ·) ∧ ∀ z, z ∈ corn rs ↔ 1 ≤ z ∧ atP rs z ≠ atP rs (z + 1) := by
  have g := corn_go rs [] 0 List.Pairwise.nil (.inl ⟨rfl, rfl⟩) (fun z hz => absurd hz (by simp)) (Int.le_refl _) c.asc fun p hp => ⟨by have := h1 p hp; omega, c.le p hp⟩
  refine ⟨g.1, fun z => ?_⟩
  rw [show corn rs = rs.foldl cstep [] from rfl, g.2]
  constructor
  · rintro (h | ⟨p, hp, rfl | ⟨h, rfl⟩⟩)
    · exact absurd h (by simp)
    · have := h1 p hp
      have := c.le p hp
      exact ⟨by omega, (c.change p hp).1⟩
    · refine ⟨by omega, ?_⟩
      rw [Int.sub_add_cancel]
      exact (c.change p hp).2
  · rintro ⟨h, ne⟩
    refine .inr ?_
    by_cases q : ∃ p ∈ rs, z = p.2.1 ∨ (1 < p.1 ∧ z = p.1 - 1)
    · exact q
    · refine absurd (atP_same fun p hp => ⟨fun e => q ⟨p, hp, .inl e⟩, fun e => q ⟨p, hp, .inr ⟨by omega, e⟩⟩⟩) ne
theorem sorted_ext : ∀ {a b : List Int}, a.Pairwise (· < ·) → b.Pairwise (· < ·) → (∀ z, z ∈ a ↔ z ∈ b) → a = b
  | [], [], _, _, _ => rfl
  | [], y :: s, _, _, h => absurd ((h y).mpr (List.mem_cons_self ..)) (by simp)
  | x :: r, [], _, _, h => absurd ((h x).mp (List.mem_cons_self ..)) (by simp)
  | x :: r, y :: s, ha, hb, h => by
    have a := List.pairwise_cons.mp ha
    have b := List.pairwise_cons.mp hb
    have e : x = y := by
      have h1 := (h x).mp (List.mem_cons_self ..)
      have h2 := (h y).mpr (List.mem_cons_self ..)
      rcases List.mem_cons.mp h1 with e | h1
      · exact e
      · rcases List.mem_cons.mp h2 with e | h2
        · exact e.symm
        · have := a.1 y h2
          have := b.1 x h1
          omega
    subst e
    rw [sorted_ext a.2 b.2 fun z => ?_]
    constructor
    · intro hz
      rcases List.mem_cons.mp ((h z).mp (List.mem_cons_of_mem _ hz)) with rfl | k
      · have := a.1 z hz
        omega
      · exact k
    · intro hz
      rcases List.mem_cons.mp ((h z).mpr (List.mem_cons_of_mem _ hz)) with rfl | k
      · have := b.1 z hz
        omega
      · exact k
/-- of the places where pieces begin or end, those where the number of times changes -/
theorem due_ok {ps : List Pc} (h1 : ∀ p ∈ ps, Pok p) {es : List Int} (o : es.Pairwise (· < ·)) (hm : ∀ z, z ∈ es ↔ ∃ p ∈ ps, z = p.2.1 ∨ (1 < p.1 ∧ z = p.1 - 1)) {rs : List Pc} (T : Tells ps rs) :
    (es.filter fun z => decide (atP ps z ≠ atP ps (z + 1))) = corn rs := by
  have r1 : ∀ p ∈ rs, 1 ≤ p.1 := fun p hp => (T.row h1 hp).1
  have c := corn_ok T.can r1
  refine sorted_ext (o.sublist List.filter_sublist) c.1 fun z => ?_
  rw [c.2, T.at h1, T.at h1, List.mem_filter, hm, decide_eq_true_eq]
  constructor
  · rintro ⟨⟨p, hp, rfl | ⟨h, rfl⟩⟩, ne⟩
    · have z1 := (h1 p hp).1
      have z2 := (h1 p hp).2.1
      exact ⟨by omega, ne⟩
    · exact ⟨by omega, ne⟩
  · rintro ⟨h, ne⟩
    refine ⟨?_, ne⟩
    by_cases q : ∃ p ∈ ps, z = p.2.1 ∨ (1 < p.1 ∧ z = p.1 - 1)
    · exact q
    · exact absurd (atP_same fun p hp => ⟨fun e => q ⟨p, hp, .inl e⟩, fun e => q ⟨p, hp, .inr ⟨by omega, e⟩⟩⟩) ne
/-! ### distances one by one -/
def reps (l : Int) (n t : Nat) : List Int := (List.range n).flatMap fun (m : Nat) => List.replicate t (l + (m : Int))
def evp (p : Pc) : List Int := reps p.1 (p.2.1 + 1 - p.1).toNat p.2.2.toNat
def ev (ps : List Pc) : List Int := ps.flatMap evp
theorem reps_succ (l : Int) (n t : Nat) : reps l (n + 1) t = reps l n t ++ List.replicate t (l + (n : Int)) := by
  unfold reps
  rw [List.range_succ, List.flatMap_append]
  simp
theorem reps_len (l : Int) (n t : Nat) : (reps l n t).length = n * t := by
  induction n with
  | zero => simp [reps]
  | succ n ih => rw [reps_succ, List.length_append, ih, List.length_replicate, Nat.succ_mul]
theorem reps_mem {l : Int} {n t : Nat} {z : Int} (h : z ∈ reps l n t) : l ≤ z ∧ z < l + (n : Int) := by
  obtain ⟨m, hm, hz⟩ := List.mem_flatMap.mp h
  have := List.mem_range.mp hm
  have := (List.mem_replicate.mp hz).2
  omega
theorem reps_count (l : Int) (n t : Nat) (d : Int) : (reps l n t).count d = if l ≤ d ∧ d < l + (n : Int) then t else 0 := by
  induction n with
  | zero => rw [if_neg (by omega)]; simp [reps]
  | succ n ih =>
    rw [reps_succ, List.count_append, ih, List.count_replicate]
    by_cases e : l + (n : Int) = d
    · rw [if_neg (by omega), if_pos (by simp [e]), if_pos (by omega)]
      omega
    · rw [if_neg (show ¬ ((l + (n : Int)) == d) = true by simp [e])]
      by_cases c : l ≤ d ∧ d < l + (n : Int)
      · rw [if_pos c, if_pos (by omega)]
        omega
      · rw [if_neg c, if_neg (by omega)]
theorem reps_over (l : Int) (n t : Nat) (s : Int) : (((reps l n t).filter fun z => decide (z > s)).length : Int) = (t : Int) * max 0 (l + (n : Int) - 1 - max (l - 1) s) := by
  induction n with
  | zero =>
    rw [show max (0 : Int) (l + ((0 : Nat) : Int) - 1 - max (l - 1) s) = 0 by omega]
    simp [reps]
  | succ n ih =>
    rw [reps_succ, List.filter_append, List.length_append, Int.natCast_add, ih]
    by_cases c : l + (n : Int) > s
    · have : ((List.replicate t (l + (n : Int))).filter fun z => decide (z > s)) = List.replicate t (l + (n : Int)) := by
        rw [List.filter_eq_self]
        intro z hz
        rw [(List.mem_replicate.mp hz).2]
        exact decide_eq_true c
      rw [this, List.length_replicate, show max (0 : Int) (l + ((n + 1 : Nat) : Int) - 1 - max (l - 1) s) = max 0 (l + (n : Int) - 1 - max (l - 1) s) + 1 by omega, Int.mul_add, Int.mul_one]
    · have : ((List.replicate t (l + (n : Int))).filter fun z => decide (z > s)) = [] := by
        rw [List.filter_eq_nil_iff]
        intro z hz
        rw [(List.mem_replicate.mp hz).2]
        simpa using c
      rw [this, show max (0 : Int) (l + ((n + 1 : Nat) : Int) - 1 - max (l - 1) s) = max 0 (l + (n : Int) - 1 - max (l - 1) s) by omega]
      simp
theorem ev_count : ∀ {ps : List Pc}, (∀ p ∈ ps, Pok p) → ∀ d, ((ev ps).count d : Int) = atP ps d
  | [], _, d => rfl
  | p :: r, h, d => by
    have hp := h p (List.mem_cons_self ..)
    obtain ⟨h1, h2, h3⟩ := hp
    have e : ev (p :: r) = evp p ++ ev r := by simp [ev]
    rw [e, List.count_append, Int.natCast_add, ev_count (fun q hq => h q (List.mem_cons_of_mem _ hq)) d, atP_cons]
    congr 1
    unfold evp
    rw [reps_count]
    unfold at1
    by_cases c : p.1 ≤ d ∧ d ≤ p.2.1
    · rw [if_pos c, if_pos (by omega)]
      omega
    · rw [if_neg c, if_neg (by omega)]
      rfl
theorem ev_over : ∀ {ps : List Pc}, (∀ p ∈ ps, Pok p) → ∀ s, (((ev ps).filter fun z => decide (z > s)).length : Int) = bey ps s
  | [], _, d => rfl
  | p :: r, h, s => by
    have hp := h p (List.mem_cons_self ..)
    obtain ⟨h1, h2, h3⟩ := hp
    have e : ev (p :: r) = evp p ++ ev r := by simp [ev]
    rw [e, List.filter_append, List.length_append, Int.natCast_add, ev_over (fun q hq => h q (List.mem_cons_of_mem _ hq)) s, bey_cons]
    congr 1
    unfold evp be1
    rw [reps_over, show ((p.2.2.toNat : Nat) : Int) = p.2.2 by omega, show p.1 + ((p.2.1 + 1 - p.1).toNat : Int) - 1 = p.2.1 by omega]
theorem ev_mem {ps : List Pc} {z : Int} (h : z ∈ ev ps) : ∃ p ∈ ps, p.1 ≤ z ∧ z ≤ p.2.1 := by
  obtain ⟨p, hp, hz⟩ := List.mem_flatMap.mp h
  have := reps_mem hz
  exact ⟨p, hp, by omega, by omega⟩
theorem ev_snoc {ps : List Pc} {i : Nat} {p : Pc} (e : ps[i]? = some p) : ev (ps.take (i + 1)) = ev (ps.take i) ++ evp p := by
  rw [List.take_add_one, e]
  show ev (ps.take i ++ [p]) = _
  unfold ev
  rw [List.flatMap_append]
  simp
theorem bey_snoc {ps : List Pc} {i : Nat} {p : Pc} (s : Int) (e : ps[i]? = some p) : bey (ps.take (i + 1)) s = bey (ps.take i) s + be1 p s := by
  rw [List.take_add_one, e, bey_app]
  show _ + bey [p] s = _
  rw [bey_cons]
  show _ + (_ + 0) = _
  omega
theorem one_less {ps : List Pc} (h : ∀ p ∈ ps, Pok p) {s : Int} : bey ps s - bey ps (s + 1) = atP ps (s + 1) := by
  induction ps with
  | nil => rfl
  | cons p r ih =>
    have hp := h p (List.mem_cons_self ..)
    obtain ⟨h1, h2, h3⟩ := hp
    have i := ih fun q hq => h q (List.mem_cons_of_mem _ hq)
    rw [bey_cons, bey_cons, atP_cons]
    have : be1 p s - be1 p (s + 1) = at1 p (s + 1) := by
      unfold be1 at1
      rw [← Int.mul_sub]
      by_cases c : p.1 ≤ s + 1 ∧ s + 1 ≤ p.2.1
      · rw [if_pos c, show max 0 (p.2.1 - max (p.1 - 1) s) - max 0 (p.2.1 - max (p.1 - 1) (s + 1)) = 1 by omega]
        omega
      · rw [if_neg c, show max 0 (p.2.1 - max (p.1 - 1) s) - max 0 (p.2.1 - max (p.1 - 1) (s + 1)) = 0 by omega]
        omega
    omega
theorem sum_filter_bey (ps : List Pc) (s : Int) (h : ∀ p ∈ ps, p.1 ≤ p.2.1) : (((ps.filter fun p => decide (p.2.1 > s)).map fun p => (p.2.1 - max (p.1 - 1) s) * p.2.2).sum) = bey ps s := by
  induction ps with
  | nil => rfl
  | cons p r ih =>
    have hp := h p (List.mem_cons_self ..)
    have i := ih fun q hq => h q (List.mem_cons_of_mem _ hq)
    rw [List.filter_cons, bey_cons, ← i]
    unfold be1
    by_cases c : p.2.1 > s
    · rw [if_pos (decide_eq_true c), List.map_cons, List.sum_cons, show max 0 (p.2.1 - max (p.1 - 1) s) = p.2.1 - max (p.1 - 1) s by omega, Int.mul_comm]
    · rw [if_neg (by simpa using c), show max 0 (p.2.1 - max (p.1 - 1) s) = 0 by omega]
      omega
theorem sum_filter_at (ps : List Pc) (d : Int) : (((ps.filter fun p => decide (p.1 ≤ d ∧ d ≤ p.2.1)).map fun p => p.2.2).sum) = atP ps d := by
  induction ps with
  | nil => rfl
  | cons p r ih =>
    rw [List.filter_cons, atP_cons, ← ih]
    unfold at1
    by_cases c : p.1 ≤ d ∧ d ≤ p.2.1
    · rw [if_pos (decide_eq_true c), if_pos c, List.map_cons, List.sum_cons]
    · rw [if_neg (by simpa using c), if_neg c]
      omega
end Kb

namespace Kb
open PySem PySem.Spec PyProof.Rows L2
/-! ### sets of many ints: set(xs), sorted(s) -/
section
variable {P : Program} {w : World} {A : Around} {E : Value → Shared → Prop} {s : Shared} {a : Addr}
theorem sorted_setW {S : Int → Bool} {n : Nat} {Q : Value → Shared → Prop} (R : SetR w s.heap a S n) (hh : A.handled = none) (hz0 : n ≤ sizeLine)
    (hQ : ∀ s' p (out : Array Value) (c : Nat) (ns : List Int), (∀ b o, s.heap.get? b = some o → s'.heap.get? b = some o) → s'.gens = s.gens → s'.os = s.os → s.heap.objs.size ≤ p →
      s'.heap.get? p = some (seqObj "list" out c) → IntsAre out.toList ns → ns.Pairwise (· < ·) → (∀ k, k ∈ ns ↔ S k = true) → ns.length = n → Q (.ref p) s') :
    wpAny (model P w) A (call (.builtin "sorted") [.ref a]) Q E s := by
  obtain ⟨o, es, ep, t, ho, hex, hd, g, nd, hm, hb, hf, hn, hr, hl⟩ := R
  refine Calls.call_function_entry kind_sorted plain_sorted entry_sorted (args_sorted1 _) ?_
  unfold Builtin.«sorted»
  refine wpAny_bind (m := checkCount "sorted" 1 1 _) (wpAny_pure ?_)
  refine wpAny_bind (collect_set (A := A.in1) hh ⟨o, ho, hex.1, hd⟩ hf hb hr hl fun s1 vs k1 hz g1 o1 pm => ?_)
  have hvl : vs.length = n := by rw [pm.length_eq, List.length_map, Array.length_toList]; exact hn
  have hI : IntsAre vs (vs.map Builtin.Re.reRawOf) := ints_of vs fun v hv => by
    obtain ⟨e, he, q⟩ := List.mem_map.mp (pm.mem_iff.mp hv)
    obtain ⟨k, tk, h1, _⟩ := g e he
    exact ⟨k, tk, by rw [← q]; exact h1⟩
  have pk : (vs.map Builtin.Re.reRawOf).Perm (es.toList.map keyOf) := by
    have q := pm.map Builtin.Re.reRawOf
    rw [List.map_map] at q
    exact q
  have hvz : vs.length ≤ sizeLine := by rw [hvl]; exact hz0
  refine wpAny_bind (wpAny_newList ?_ hvz)
  have hoL : (s1.heap.push (seqObj "list" vs.toArray 0)).get? s1.heap.objs.size = some (seqObj "list" vs.toArray 0) := Heap.get?_push_size _ rfl
  refine wpAny_bind (wpAny_holding (wpAny_call_entry slot_list_sort ⟨_, hoL, rfl⟩ entry_list_sort (SrtO.list_sort_ord SrtO.swo_int hoL hvz (fun h2 => SrtO.ints_sortable hI h2) fun out h1 h2 => ⟨_, rfl, ?_⟩) (args_list_sort _)))
  obtain ⟨a1, a2, a3⟩ := SrtO.ints_out hI h1 h2
  obtain ⟨c, hc⟩ := sortedHeap_at (vs := vs) (out := out.toArray) hoL
  have pn : (out.map SrtO.iv).Perm (es.toList.map keyOf) := a2.trans pk
  refine wpAny_pure ⟨_, rfl, hQ _ s1.heap.objs.size out.toArray c (out.map SrtO.iv) (fun b u e => ?_) g1 o1 hz hc a1 (lt_of_le_nodup _ a3 (pn.nodup_iff.mpr nd)) (fun k => by rw [pn.mem_iff, ← hm k]) ?_⟩
  · have q := k1 b u e
    have hlt := Heap.lt_size q
    show (sortedHeap (s1.heap.push (seqObj "list" vs.toArray 0)) s1.heap.objs.size vs out.toArray).get? b = some u
    rw [sortedHeap_old (Nat.ne_of_lt hlt) (by rw [size_push']; exact Nat.lt_succ_of_lt hlt)]
    exact Heap.get?_push_of_some _ q
  · rw [pn.length_eq, List.length_map, Array.length_toList]; exact hn
end
section
variable {X : Cx}
theorem cr_setW (hc : X.calm = true) : CallR X (.type "set") (fun xs H Q => ∃ (l : Addr) (ns : List Int), xs = [.ref l] ∧ SqL X.K H l (ns.map V.int) ∧ ns.length ≤ 4000 ∧
    ∀ (a : Addr) (c : Nat), H a = none → c ≤ ns.length → Q (.ref a) (upd H a (SetO X.w a (fun j => decide (j ∈ ns)) c))) := by
  intro pins s σ H xs us Q I r h
  obtain ⟨l, ns, rfl, hq, hl, q⟩ := h
  rw [Vals.ref1 r]
  obtain ⟨its, rv, pt, hz⟩ := I.list hq
  refine set_of_list (its := its.toArray) ns (I.ok.hd hc) pt.isList (ints_of_vals rv) (by unfold scanBound; omega) fun g tk c R hc k => ?_
  have n : H s.heap.objs.size = none := I.hok.fresh (Nat.le_refl _)
  exact ⟨.ref _, _, I.laid (t' := tk) k (Nat.le_refl _) (setO_new R), rfl, q _ c n hc⟩
def rSortedSetW (w : World) : List V → Hp → VK → Prop := fun vs H Q => ∃ (a : Addr) (S : Int → Bool) (n : Nat), vs = [V.ref a] ∧ H a = some (SetO w a S n) ∧ n ≤ 4000 ∧
  ∀ (ns : List Int) (p : Addr), ns.Pairwise (· < ·) → (∀ k : Int, k ∈ ns ↔ S k = true) → ns.length = n → H p = none → Q (.ref p) (upd H p (.lst (ns.map V.int)))
theorem cr_sortedSetW (hc : X.calm = true) : CallR X (.builtin "sorted") (rSortedSetW X.w) := by
  intro pins s σ H vs us Q I r h
  obtain ⟨a, S, n, rfl, ha, h64, q⟩ := h
  have R := setO_get I ha
  rw [Vals.ref1 r]
  refine sorted_setW R (I.ok.hd hc) (by rw [sizeLine_eq]; omega) fun s' p out c ns k g o hp hg hi hs hm hl => ?_
  have hlen : (ns.map V.int).length ≤ sizeLine := by rw [List.length_map, hl, sizeLine_eq]; omega
  have hn : H p = none := I.hok.fresh hp
  have J : Inv X pins σ (upd H p (.lst (ns.map V.int))) { s with heap := s'.heap, gens := s'.gens, drawn := s'.drawn, toks := s'.toks } :=
    I.call (ch := []) (Un.laid k hp hn) (I.hok.laid k hp ⟨hlen, out.toList, c, vals_of_ints hi, hg⟩) (by rw [g]; exact I.bare) (fun _ z => nomatch z)
  have e : s' = { s with heap := s'.heap, gens := s'.gens, drawn := s'.drawn, toks := s'.toks } := by
    cases s'
    cases s
    cases o
    rfl
  rw [e]
  exact ⟨.ref p, _, J, rfl, q ns p hs hm hl hn⟩
end
end Kb

namespace Kb
open PySem PySem.Spec PyProof.Rows L2
abbrev AscP (ps : List Pc) : Prop := ps.Pairwise fun a b => a.2.1 < b.1
def spIsPiece : Sp := fun vs H Q _ => ∃ (v : V) (p : Pc), vs = [v] ∧ IsPc H v p ∧ Pok p ∧ RetV (.bl true) H Q
def spArePieces : Sp := fun vs H Q _ => ∃ (a : Addr) (ps : List Pc), vs = [.ref a] ∧ Pcs H a ps ∧ (∀ p ∈ ps, Pok p) ∧ AscP ps ∧ ps.length ≤ 4000 ∧ RetV (.bl true) H Q
def spCheckSize : Sp := fun vs H Q _ => ∃ i : Int, vs = [.int i] ∧ 0 ≤ i ∧ RetV .non H Q
def spCheckDist : Sp := fun vs H Q _ => ∃ (c : Int) (a : Addr) (ps : List Pc), vs = [.int c, .ref a] ∧ 0 ≤ c ∧ Pcs H a ps ∧ (∀ p ∈ ps, Pok p) ∧ AscP ps ∧ ps.length ≤ 4000 ∧ RetV .non H Q
def spFlat : Sp := fun vs H Q _ => ∃ (a : Addr) (ps : List Pc), vs = [.ref a] ∧ Pcs H a ps ∧ ps.length ≤ 10000 ∧ ∀ p H' rs, H p = none → Ex H H' → Pcs H' p rs → Tells ps rs → rs.length ≤ 2 * ps.length → Q (.ref p) H'
def spBeyond : Sp := fun vs H Q _ => ∃ (a : Addr) (rs : List Pc) (s : Int), vs = [.ref a, .int s] ∧ Pcs H a rs ∧ Bd rs ∧ rs.length ≤ 20000 ∧ 0 ≤ s ∧ RetV (.int (bey rs s)) H Q
def spTimes : Sp := fun vs H Q _ => ∃ (a : Addr) (rs : List Pc) (d : Int), vs = [.ref a, .int d] ∧ Pcs H a rs ∧ rs.length ≤ 20000 ∧ RetV (.int (atP rs d)) H Q
/-- a new list of ints is handed back -/
def RetI (xs : List Int) (H : Hp) (Q : VK) : Prop := ∀ p H', H p = none → Ex H H' → H' p = some (.lst (xs.map V.int)) → Q (.ref p) H'
def spCorn : Sp := fun vs H Q _ => ∃ (a : Addr) (rs : List Pc), vs = [.ref a] ∧ Pcs H a rs ∧ rs.length ≤ 20000 ∧ RetI (corn rs) H Q
/-- a profile as the methods want it -/
structure Pf (C : Addr) (H : Hp) (x : Addr) (c : Int) (rs : List Pc) : Prop where
  at_ : PfAt C H x c rs
  bd : Bd rs
  can : Can rs
  few : rs.length ≤ 8000
theorem Pf.nx {C : Addr} {H H' : Hp} {x : Addr} {c : Int} {rs : List Pc} (e : Nx H H') (h : Pf C H x c rs) : Pf C H' x c rs := ⟨h.at_.nx e, h.bd, h.can, h.few⟩
theorem Pf.mono {C : Addr} {H H' : Hp} {x : Addr} {c : Int} {rs : List Pc} (e : Ex H H') (h : Pf C H x c rs) : Pf C H' x c rs := h.nx e.nx
def spInit (C : Addr) : Sp := fun vs H Q _ => ∃ (x dx : Addr) (c : Int) (a : Addr) (ps : List Pc), vs = [.ref x, .int c, .ref a] ∧ H x = some (.ins C dx []) ∧ 0 ≤ c ∧ Pcs H a ps ∧ Val ps ∧
  ∀ H' rs, (∀ b o, b ≠ x → H b = some o → H' b = some o) → Pf C H' x c rs → Tells ps rs → Q .non H'
def spCallP (C : Addr) : Sp := fun vs H Q _ => ∃ (x : Addr) (c : Int) (rs : List Pc) (s : Int), vs = [.ref x, .int s] ∧ Pf C H x c rs ∧ 0 ≤ s ∧ RetV (.int (c + bey rs s)) H Q
def spAt (C : Addr) : Sp := fun vs H Q _ => ∃ (x : Addr) (c : Int) (rs : List Pc) (d : Int), vs = [.ref x, .int d] ∧ Pf C H x c rs ∧ 1 ≤ d ∧ RetV (.int (atP rs d)) H Q
def spCornP (C : Addr) : Sp := fun vs H Q _ => ∃ (x : Addr) (c : Int) (rs : List Pc), vs = [.ref x] ∧ Pf C H x c rs ∧ RetI (corn rs) H Q
def spPond0 (K : PySem.W.Frag) : Sp := fun vs H Q _ => ∃ (a : Addr) (ns : List Int) (k : Int), vs = [.ref a, .int k] ∧ SqL K H a (ns.map V.int) ∧ 0 ≤ k ∧ k ≤ 100 ∧ ∀ b H' x c t, H b = none → Ex H H' → H' b = some (.lst [.int x, .int c, .int t]) → Pn 0 c t → Q (.ref b) H'
def spPond (K : PySem.W.Frag) : Sp := fun vs H Q _ => ∃ (a : Addr) (ns : List Int) (k : Int), vs = [.ref a, .int k] ∧ SqL K H a (ns.map V.int) ∧ 0 ≤ k ∧ k ≤ 100 ∧ ∀ b H', H b = none → Ex H H' → Pd H' b 0 → Q (.ref b) H'
def spDip0 : Sp := fun vs H Q _ => ∃ (b : Addr) (many x c t : Int) (n : Nat), vs = [.ref b, .int many] ∧ H b = some (.lst [.int x, .int c, .int t]) ∧ Pn n c t ∧ n ≤ 2 ^ 60 ∧ 1 ≤ many ∧ many ≤ 10 ^ 600 ∧
  ∀ r H' x' t', 0 ≤ r → r < many → (∀ a o, a ≠ b → H a = some o → H' a = some o) → H' b = some (.lst [.int x', .int c, .int t']) → Pn (n + 1) c t' → Q (.int r) H'
def spDip : Sp := fun vs H Q _ => ∃ (b : Addr) (many : Int) (n : Nat), vs = [.ref b, .int many] ∧ Pd H b n ∧ n ≤ 2 ^ 60 ∧ 1 ≤ many ∧ many ≤ 10 ^ 600 ∧ ∀ r, 0 ≤ r → r < many → RetN (.int r) b (n + 1) H Q
/-- pieces drawn with numbers up to wide -/
structure Drawn (wide : Int) (ps : List Pc) : Prop where
  ok : ∀ p ∈ ps, Pok p ∧ p.2.1 - p.1 < wide ∧ p.2.2 ≤ wide ∧ p.2.1 ≤ wide * (3 * ps.length)
  asc : AscP ps
def spGiven : Sp := fun vs H Q _ => ∃ (b : Addr) (wide : Int) (n : Nat), vs = [.ref b, .int wide] ∧ Pd H b n ∧ n ≤ 2 ^ 50 ∧ 3 ≤ wide ∧ wide ≤ 10 ^ 100 ∧
  ∀ p H' ps, H p = none → Nx H H' → Pd H' b (n + 100) → Pcs H' p ps → Drawn wide ps → ps.length ≤ 6 → Q (.ref p) H'
def spMany : Sp := fun vs H Q _ => ∃ (b : Addr) (many : Nat) (n : Nat), vs = [.ref b, .int (many : Int)] ∧ Pd H b n ∧ n ≤ 2 ^ 50 ∧ many ≤ 1000 ∧
  ∀ p H' ps, H p = none → Nx H H' → Pd H' b (n + 4 * many) → Pcs H' p ps → (∀ p ∈ ps, Pok p ∧ p.2.1 - p.1 < 3 ∧ p.2.2 ≤ 3 ∧ p.2.1 ≤ 5 * many) → AscP ps → ps.length = many → Q (.ref p) H'
theorem pick3 {p : Int → Prop} {n x y z : Int} (h0 : 0 ≤ n) (h3 : n < 3) (hx : p x) (hy : p y) (hz : p z) : ∃ m, atI [V.int x, V.int y, V.int z] n = some (.int m) ∧ p m := by
  rcases (show n = 0 ∨ n = 1 ∨ n = 2 by omega) with rfl | rfl | rfl
  · exact ⟨x, rfl, hx⟩
  · exact ⟨y, rfl, hy⟩
  · exact ⟨z, rfl, hz⟩
theorem pick2' {p : Int → Prop} {n x y : Int} (h0 : 0 ≤ n) (h2 : n < 2) (hx : p x) (hy : p y) : ∃ m, atI [V.int x, V.int y] n = some (.int m) ∧ p m := by
  rcases (show n = 0 ∨ n = 1 by omega) with rfl | rfl
  · exact ⟨x, rfl, hx⟩
  · exact ⟨y, rfl, hy⟩
end Kb

namespace Kb
open PySem PySem.Spec PyProof.Rows L2
/-! ### a dict of ints to ints -/
structure DI (kvs : List (Key × V)) (f : Int → Int) (ks : List Int) : Prop where
  keys : kvs.map (·.1) = ks.map Sum.inl
  nd : ks.Nodup
  val : ∀ n : Int, valV kvs (Sum.inl n) = if n ∈ ks then some (.int (f n)) else none
  zero : ∀ n, n ∉ ks → f n = 0
theorem DI.nil : DI [] (fun _ => 0) [] := ⟨rfl, List.nodup_nil, fun n => rfl, fun _ _ => rfl⟩
theorem DI.getD {kvs : List (Key × V)} {f : Int → Int} {ks : List Int} (h : DI kvs f ks) (n : Int) : (valV kvs (Sum.inl n)).getD (.int 0) = .int (f n) := by
  rw [h.val]
  by_cases c : n ∈ ks
  · rw [if_pos c]
    rfl
  · rw [if_neg c, h.zero n c]
    rfl
theorem DI.len {kvs : List (Key × V)} {f : Int → Int} {ks : List Int} (h : DI kvs f ks) : kvs.length = ks.length := by
  have := congrArg List.length h.keys
  rwa [List.length_map, List.length_map] at this
theorem DI.put {kvs : List (Key × V)} {f : Int → Int} {ks : List Int} (h : DI kvs f ks) (k v : Int) :
    ∃ ks', DI (putK kvs (Sum.inl k) (.int v)) (fun x => if x = k then v else f x) ks' ∧ k ∈ ks' ∧ (∀ x ∈ ks, x ∈ ks') ∧ ks'.length ≤ ks.length + 1 := by
  by_cases c : k ∈ ks
  · refine ⟨ks, ⟨?_, h.nd, fun n => ?_, fun n hn => ?_⟩, c, fun _ x => x, Nat.le_succ _⟩
    · unfold putK
      rw [valV_any, h.val, if_pos c, if_pos (show (some (V.int (f k))).isSome = true from rfl), List.map_map, ← h.keys]
      refine List.map_congr_left fun kv _ => ?_
      show (if kv.1 = Sum.inl k then (kv.1, V.int v) else kv).1 = kv.1
      split <;> rfl
    · rw [valV_put, h.val]
      by_cases e : n = k
      · subst e
        rw [if_pos rfl, if_pos c, if_pos rfl]
      · rw [if_neg (fun z => e (Sum.inl.inj z)), if_neg e]
    · show (if n = k then v else f n) = 0
      rw [if_neg (fun z : n = k => hn (by rw [z]; exact c)), h.zero n hn]
  · refine ⟨ks ++ [k], ⟨?_, ?_, fun n => ?_, fun n hn => ?_⟩, by simp, fun x hx => List.mem_append_left _ hx, by simp⟩
    · rw [putK_new _ (by rw [h.val, if_neg c]), List.map_append, List.map_append, h.keys]
      rfl
    · rw [List.nodup_append]
      refine ⟨h.nd, by simp, fun x hx y hy e => ?_⟩
      rw [List.mem_singleton.mp hy] at e
      exact c (e ▸ hx)
    · rw [valV_put, h.val]
      by_cases e : n = k
      · subst e
        rw [if_pos rfl, if_pos (by simp), if_pos rfl]
      · rw [if_neg (fun z => e (Sum.inl.inj z)), if_neg e]
        by_cases m : n ∈ ks
        · rw [if_pos m, if_pos (List.mem_append_left _ m)]
        · rw [if_neg m, if_neg (by simp [m, e])]
    · show (if n = k then v else f n) = 0
      rw [if_neg (fun z : n = k => hn (by simp [z])), h.zero n (fun z => hn (List.mem_append_left _ z))]
theorem DI.at {kvs : List (Key × V)} {f : Int → Int} {ks : List Int} (h : DI kvs f ks) {i : Nat} {k : Key} {v : V} (e : kvs[i]? = some (k, v)) : ∃ n, ks[i]? = some n ∧ k = Sum.inl n ∧ valV kvs (Sum.inl n) = some (.int (f n)) := by
  have z : (kvs.map (·.1))[i]? = some k := by rw [List.getElem?_map, e]; rfl
  rw [h.keys, List.getElem?_map] at z
  cases g : ks[i]? with
  | none => rw [g] at z; cases z
  | some n =>
    rw [g] at z
    cases z
    exact ⟨n, rfl, rfl, by rw [h.val, if_pos (List.mem_of_getElem? g)]⟩
theorem DI.congr {kvs : List (Key × V)} {f g : Int → Int} {ks : List Int} (h : DI kvs f ks) (e : ∀ x, g x = f x) : DI kvs g ks := by
  have : g = f := funext e
  rw [this]
  exact h
/-! ### the turns of flattened -/
theorem chg_snoc {ps : List Pc} {i : Nat} {p : Pc} (e : ps[i]? = some p) (x : Int) : chg (ps.take (i + 1)) x = chg (ps.take i) x + (if x = p.1 then p.2.2 else 0) - (if x = p.2.1 + 1 then p.2.2 else 0) := by
  rw [List.take_add_one, e]
  unfold chg
  rw [wt_app]
  show _ + (p.2.2 * (ind x p.1 - ind x (p.2.1 + 1)) + 0) = _
  unfold ind
  by_cases a : p.1 = x
  · by_cases b : p.2.1 + 1 = x
    · rw [if_pos a, if_pos b, if_pos a.symm, if_pos b.symm]
      omega
    · rw [if_pos a, if_neg b, if_pos a.symm, if_neg (fun z => b z.symm)]
      omega
  · by_cases b : p.2.1 + 1 = x
    · rw [if_neg a, if_pos b, if_neg (fun z => a z.symm), if_pos b.symm]
      omega
    · rw [if_neg a, if_neg b, if_neg (fun z => a z.symm), if_neg (fun z => b z.symm)]
      omega
theorem rowsG_step {c : Int → Int} {ts : List Int} {i : Nat} {s f now : Int} (e1 : ts[i]? = some s) (e2 : ts[i + 1]? = some f) :
    rowsG c (ts.drop i) now = (if now + c s ≠ 0 then [(s, f - 1, now + c s)] else []) ++ rowsG c (ts.drop (i + 1)) (now + c s) := by
  obtain ⟨l1, rfl⟩ := List.getElem?_eq_some_iff.mp e1
  obtain ⟨l2, rfl⟩ := List.getElem?_eq_some_iff.mp e2
  rw [List.drop_eq_getElem_cons l1, List.drop_eq_getElem_cons l2]
  show (if now + c ts[i] ≠ 0 then _ else _) = _
  split <;> rfl
theorem rowsG_end {c : Int → Int} {ts : List Int} {now : Int} (i : Nat) (h : ts.length - 1 ≤ i) : rowsG c (ts.drop i) now = [] := by
  have : (ts.drop i).length ≤ 1 := by rw [List.length_drop]; omega
  match ts.drop i, this with
  | [], _ => rfl
  | [_], _ => rfl
  | _ :: _ :: _, h => exact absurd h (by simp)
theorem cut_one (vs : List V) : cutV vs (some 1) none = vs.drop 1 := by
  unfold cutV
  rw [show HT.sIx vs.length 0 (some 1) = min 1 vs.length from HT.sIx_nat vs.length 0 1, HT.sIx_none]
  cases vs with
  | nil => rfl
  | cons z r =>
    rw [List.length_cons, show min 1 (r.length + 1) = 1 by omega]
    exact List.take_of_length_le (by rw [List.length_drop, List.length_cons]; exact Nat.le_refl _)
theorem max_if (a b : Int) : (if b > a then b else a) = max a b := by split <;> omega
/-- what has no attributes but its own -/
structure Ptx (K : PySem.W.Frag) (C : Addr) : Prop where
  cl : Cls K C
  nC : NoAttr K C "cold"
  nP : NoAttr K C "_pieces"
theorem filt_snoc {ps : List Pc} {i : Nat} {p : Pc} (f : Pc → Bool) (h : ps[i]? = some p) : (ps.take (i + 1)).filter f = (ps.take i).filter f ++ if f p = true then [p] else [] := by
  rw [List.take_add_one, h, List.filter_append]
  show _ ++ List.filter f [p] = _
  rw [List.filter_cons]
  rfl
theorem filt_le {ps : List Pc} {i : Nat} (f : Pc → Bool) : ((ps.take i).filter f).length ≤ i := by
  have z := List.length_filter_le f (ps.take i)
  rw [List.length_take] at z
  omega
theorem mk_ex0 {C : Addr} {H : Hp} {x dx : Addr} (nx : H x = none) (ndx : H dx = none) : Ex H (upd (upd H dx (.own x)) x (.ins C dx [])) := fun b o hb => by
  rw [upd_ne (ne_of_none hb nx), upd_ne (ne_of_none hb ndx)]
  exact hb
theorem mk_ex {C : Addr} {H H' : Hp} {x dx : Addr} (nx : H x = none) (ndx : H dx = none) (fr : ∀ b o, b ≠ x → (upd (upd H dx (.own x)) x (.ins C dx [])) b = some o → H' b = some o) : Ex H H' := fun b o hb => by
  refine fr b o (ne_of_none hb nx) ?_
  rw [upd_ne (ne_of_none hb nx), upd_ne (ne_of_none hb ndx)]
  exact hb
theorem show_ints {ns : List Int} (h : ∀ n ∈ ns, 0 ≤ n ∧ n < 10 ^ 500) (l : ns.length ≤ 3000) : (pdI ns).showable = true ∧ (pdI ns).hasDict = false ∧ (pdI ns).depth ≤ 60 ∧ (pdI ns).shown.length ≤ sizeLine := by
  have big : (10 : Nat) ^ 500 < 2 ^ 1700 := by decide +kernel
  have l2 : ∀ z : Int, 0 ≤ z → z < 10 ^ 500 → decide (z.natAbs.log2 < 1920) = true := fun z a b => decide_eq_true (Nat.lt_trans (PySem.Flt.log2_lt_of (k := 1700) (by decide) (Nat.lt_of_le_of_lt (show z.natAbs ≤ 10 ^ 500 by omega) big)) (by decide))
  have s2 : ∀ z : Int, 0 ≤ z → z < 10 ^ 500 → (PyData.shown (.int z)).length ≤ 510 := fun z a b => by
    have := PyProof.Rows.toString_length_le (k := 500) a (by decide) b
    exact Nat.le_trans this (by decide)
  have key : ∀ l : List Int, (∀ n ∈ l, 0 ≤ n ∧ n < 10 ^ 500) → PyData.showableAll (l.map PyData.int) = true ∧ PyData.hasDictAll (l.map PyData.int) = false ∧ PyData.leavesShortAll 510 (l.map PyData.int) = true ∧ PyData.bulkAll (l.map PyData.int) ≤ 10 * l.length ∧ PyData.depthAll (l.map PyData.int) = 0 := by
    intro l
    induction l with
    | nil => intro _; exact ⟨rfl, rfl, rfl, Nat.zero_le _, rfl⟩
    | cons s r ih =>
      intro hl
      obtain ⟨i1, i2, i3, i4, i5⟩ := ih fun t ht => hl t (List.mem_cons_of_mem _ ht)
      obtain ⟨a1, a2⟩ := hl s List.mem_cons_self
      refine ⟨?_, ?_, ?_, ?_, ?_⟩
      · show (decide (s.natAbs.log2 < 1920) && PyData.showableAll (r.map PyData.int)) = true
        rw [l2 _ a1 a2, i1]
        rfl
      · show (false || PyData.hasDictAll (r.map PyData.int)) = false
        rw [i2]
        rfl
      · show (decide ((PyData.shown (.int s)).length ≤ 510) && PyData.leavesShortAll 510 (r.map PyData.int)) = true
        rw [decide_eq_true (s2 _ a1 a2), i3]
        rfl
      · simp only [List.map_cons, PyData.bulkAll, PyData.bulk, List.length_cons]
        omega
      · show max 0 (PyData.depthAll (r.map PyData.int)) = 0
        omega
  obtain ⟨i1, i2, i3, i4, i5⟩ := key ns h
  refine ⟨i1, i2, ?_, ?_⟩
  · show PyData.depthAll (ns.map PyData.int) + 1 ≤ 60
    omega
  · have z := PyData.shown_le_bulk 510 (by decide) (pdI ns) i3
    have e : (pdI ns).bulk ≤ 10 * ns.length + 10 := by
      simp only [pdI, PyData.bulk]
      omega
    have y := Nat.mul_le_mul_left (510 + 2) e
    rw [sizeLine_eq]
    omega
theorem Val.bey_le {ps : List Pc} (V : Val ps) (s : Int) (h0 : 0 ≤ s) : 0 ≤ bey ps s ∧ bey ps s ≤ 1000 * (10 ^ 200 * 10 ^ 200) := by
  have go : ∀ ps : List Pc, (∀ p ∈ ps, Pok p ∧ p.2.1 ≤ 10 ^ 200 ∧ p.2.2 ≤ 10 ^ 200) → bey ps s ≤ (ps.length : Int) * (10 ^ 200 * 10 ^ 200) := by
    intro ps
    induction ps with
    | nil => intro _; show (0 : Int) ≤ ((0 : Nat) : Int) * _; simp
    | cons p r ih =>
      intro h
      obtain ⟨⟨h1, h2, h3⟩, h4, h5⟩ := h p (List.mem_cons_self ..)
      have i := ih fun q hq => h q (List.mem_cons_of_mem _ hq)
      have : be1 p s ≤ 10 ^ 200 * 10 ^ 200 := Int.mul_le_mul h5 (by omega) (by omega) (by decide +kernel)
      rw [bey_cons, List.length_cons, Int.natCast_add, Int.add_mul]
      omega
  have := go ps V.bd
  have := Int.mul_le_mul_of_nonneg_right (show (ps.length : Int) ≤ 1000 from by have := V.few; omega) (show (0 : Int) ≤ 10 ^ 200 * 10 ^ 200 by decide +kernel)
  exact ⟨bey_nn V.pok s, by omega⟩
theorem Val.bd' {ps : List Pc} (V : Val ps) : Bd ps := fun p hp => by
  obtain ⟨a, b, c⟩ := V.bd p hp
  have g2 : (10 : Int) ^ 200 ≤ 10 ^ 300 := by decide +kernel
  exact ⟨a, by omega, by omega⟩
theorem ne_refl {α : Type} [DecidableEq α] {a b : α} (h : a = b) {A B : Prop} (k : B) : if (!decide (a = b)) = true then A else B := by
  rw [decide_eq_true h]
  exact iteF k
theorem small_log {z : Int} (h0 : 0 ≤ z) (h : z ≤ 10 ^ 500) : z.natAbs.log2 < 1920 := by
  have big : (10 : Nat) ^ 500 < 2 ^ 1700 := by decide +kernel
  exact Nat.lt_trans (PySem.Flt.log2_lt_of (k := 1700) (by decide) (Nat.lt_of_le_of_lt (show z.natAbs ≤ 10 ^ 500 by omega) big)) (by decide)
end Kb

namespace Kb
open PySem PySem.Spec PyProof.Rows L2 StX
/-! ### own operators: ==, !=, +, * of instances of an own class -/
inductive Ty2 (H : Hp) : V → Value → Prop where
  | non : Ty2 H .non (.type "NoneType")
  | bl (b : Bool) : Ty2 H (.bl b) (.type "bool")
  | int (i : Int) : Ty2 H (.int i) (.type "int")
  | str (x : Str) : Ty2 H (.str x) (.type "str")
  | lst {a : Addr} {xs : List V} (e : H a = some (.lst xs)) : Ty2 H (.ref a) (.type "list")
  | tup {a : Addr} {xs : List V} (e : H a = some (.tup xs)) : Ty2 H (.ref a) (.type "tuple")
  | dK {a : Addr} {kvs : List (Key × V)} (e : H a = some (.dK kvs)) : Ty2 H (.ref a) (.type "dict")
  | ins {a C dx : Addr} {fs : List (Str × V)} (e : H a = some (.ins C dx fs)) : Ty2 H (.ref a) (.ref C)
section
variable {X : Cx} {pins : List (Addr × Obj)} {σ : L2.St} {H : Hp} {s : Shared}
theorem looks_cls {M : Model} {h : Heap} {a : Addr} {o : Obj} (e : h.get? a = some o) : PySem.W.Looks M h (typeOf (.ref a)) o.cls := (PySem.W.Looks.ld e).andThen .now
theorem looks_typeIs {M : Model} {a : Addr} {T : String} (e : s.TypeIs (.ref a) T) : PySem.W.Looks M s.heap (typeOf (.ref a)) (.type T) := by
  obtain ⟨o, h1, h2⟩ := e
  rw [← h2]
  exact looks_cls h1
theorem ty_looks {M : Model} {y : V} {u t : Value} (I : Inv X pins σ H s) (r : RelV y u) (ty : Ty2 H y t) : PySem.W.Looks M s.heap (typeOf u) t := by
  cases ty with
  | non =>
    cases (show u = Value.none from r)
    exact PySem.W.Looks.of_pure rfl
  | bl b =>
    cases (show u = Value.bool b from r)
    exact PySem.W.Looks.of_pure rfl
  | int i =>
    obtain ⟨tk, rfl⟩ := r
    exact PySem.W.Looks.of_pure rfl
  | str x =>
    obtain ⟨tk, rfl⟩ := r
    exact PySem.W.Looks.of_pure rfl
  | lst e =>
    cases (show u = Value.ref _ from r)
    obtain ⟨its, rv, hl, hz⟩ := I.list (SqL.of e)
    exact looks_typeIs hl.isList.typeIs
  | tup e =>
    cases (show u = Value.ref _ from r)
    obtain ⟨its, rv, hl, hz⟩ := I.tuple (SqT.of e)
    exact looks_typeIs hl.typeIs
  | dK e =>
    cases (show u = Value.ref _ from r)
    exact looks_typeIs (dict_typeIs I (DGet.k (k := Sum.inl 0) e))
  | ins e =>
    cases (show u = Value.ref _ from r)
    obtain ⟨mA, J, _⟩ := ins_get I.hok e
    obtain ⟨od, J, _⟩ := J.look
    exact J.type
/-- an own def run on values, somewhere below the running body -/
theorem own_run {C : Addr} {k : Nat} {f : Addr} {fd : FuncData} {ps : List Str} {sp : Sp} {A : Around} {us : List Value} {vs : List V} {Q : VK} {E' : Value → Shared → Prop} (F : FnOk X.prog X.w X.K X.mg X.base CX0 k f fd ps sp) (hb : Binds X.K fd ps []) (hr : Room k A) (hfr : A.frames = X.A.frames)
    (I : Inv X pins σ H s) (r : Vals vs us) (h : sp vs H Q E0) : wpAny (model X.prog X.w) A (call (.ref f) us) (fun w' s' => ∃ v H', Inv X pins σ H' s' ∧ RelV v w' ∧ Q v H') E' s := by
  have e0 : Env0 X.prog X.w X.K X.mg X.base A X.stack s H := by
    have e := I.env0
    exact ⟨by rw [hfr]; exact e.frames, e.mod, e.bs, e.bsz, e.funs, e.frf, e.hok, e.bare⟩
  have hl := F.len _ _ _ _ h
  refine wpAny_call (codeAny_mono (F.run A X.stack s H ⟨us, []⟩ us vs Q E0 hr e0 (by
    have := hb s us I.kIn (by rw [List.append_nil, ← r.length]; exact hl)
    rw [List.append_nil] at this
    exact this) r h) fun fr s' hq => ?_)
  cases fr with
  | error e => exact hq.elim
  | ok fl =>
    cases fl with
    | ret w' =>
      obtain ⟨z, H', I', rz, q⟩ := I.after hq
      exact ⟨z, H', I', rz, q⟩
    | next => exact False.elim hq
    | brk => exact False.elim hq
    | cont => exact False.elim hq
/-- its answer is a truth -/
def rOwnB (K : PySem.W.Frag) (C : Addr) (sp : Sp) (flip : Bool) : R2 := fun x y H Q => ∃ a dx fs t, x = .ref a ∧ H a = some (.ins C dx fs) ∧ Ty2 H y t ∧ PySem.W.notFirst K C t = true ∧ sp [x, y] H (fun v H' => ∃ k : Bool, v = .bl k ∧ Q (.bl (if flip then !k else k)) H') E0
theorem op_ownEq {C : Addr} {k k' : Nat} {sp : Sp} (D : DMt X.prog X.w X.K X.mg X.base C "__eq__" k ["self", "other"] sp) (hr : Room k' X.A) (hk : k ≤ k' := by decide) : OpR X (compareOp .Eq) (rOwnB X.K C sp false) := by
  intro pins s σ H x y v u Q I rx ry hq
  obtain ⟨f, fd, hcl, hm, hb, F⟩ := D.ex
  obtain ⟨a, dx, fs, t, rfl, ha, ty, nf, q⟩ := hq
  cases (show v = Value.ref a from rx)
  obtain ⟨mA, J, _⟩ := ins_get I.hok ha
  obtain ⟨od, J, _⟩ := J.look
  obtain ⟨m, hF⟩ := I.fr
  refine PySem.W.cmp_K (op := .Eq) (tb := t) (hr.mono hk).units0 hF I.ok.mod.kin J (ty_looks I ry ty) nf hm.at_ hm.fn ?_
  refine wpAny_mono (own_run (C := C) F hb (hr.mono hk) rfl I (.cons (show RelV (V.ref a) (Value.ref a) from rfl) (.cons ry .nil)) q) (fun w' s' z => ?_) fun _ _ e => e
  obtain ⟨v', H', I', rv, b, rfl, q'⟩ := z
  cases (show w' = Value.bool b from rv)
  exact ⟨.bl b, H', I', rfl, q'⟩
theorem ifBound_KS {A : Around} {E : Value → Shared → Prop} {K : PySem.W.Frag} {x C : Addr} {ox : Obj} {od : Option Obj} {name : Str} {id : String} {M : Model} {args : List Value} {Q : Option Value → Shared → Prop} (X : K.In s.heap) (I : PySem.W.InstAt s.heap x ox C od)
    (hs : PySem.W.findIn K (.ref C) name = some (some (.builtin id))) (S : Slot "object" name id)
    (h : wpAny M A (call (.builtin id) (.ref x :: args)) (fun v => Q (some v)) E s) : wpAny M A (callSpecialIfBound? (.ref x) name args) Q E s := by
  simp only [callSpecialIfBound?, bindSpecialIfBound?]
  refine wpAny_holding (wpAny_bind (wpAny_bind (wpAny_bind (I.type.here ((PySem.W.looks_findIn X hs).here ?_)))))
  simp only [S.bind]
  refine wpAny_bind (wpAny_askSetting (wpAny_ite ?_))
  have fin : wpAny M A (call (.builtin id) ([.ref x] ++ args) >>= fun v => pure (some v)) Q E s := wpAny_bind (wpAny_mono h (fun v s' h' => wpAny_pure h') fun _ _ h' => h')
  split
  · exact wpAny_bind (wpAny_pure (wpAny_pure fin))
  · exact wpAny_tryCatch (wpAny_bind (wpAny_pure (wpAny_pure fin)))
theorem op_ownNe {C : Addr} {k k' : Nat} {sp : Sp} (D : DMt X.prog X.w X.K X.mg X.base C "__eq__" k ["self", "other"] sp) (hne : PySem.W.findIn X.K (.ref C) "__ne__" = some (some (.builtin "object.__ne__"))) (hso : PySem.W.subIn X.K (.ref C) (.type "object") = some true)
    (hr : Room k' X.A) (hk : k + 1 ≤ k' := by decide) : OpR X (compareOp .NotEq) (rOwnB X.K C sp true) := by
  intro pins s σ H x y v u Q I rx ry hq
  obtain ⟨f, fd, hcl, hm, hb, Fn⟩ := D.ex
  obtain ⟨a, dx, fs, t, rfl, ha, ty, nf, q⟩ := hq
  cases (show v = Value.ref a from rx)
  obtain ⟨mA, J, _⟩ := ins_get I.hok ha
  obtain ⟨od, J, _⟩ := J.look
  have hr1 : Room k X.A.in1 := (hr.mono hk).in1
  have hu : X.A.units + 1 < cLine := hr1.units0
  have hu0 : X.A.units < cLine := Nat.lt_of_succ_lt hu
  have S : Slot "object" "__ne__" "object.__ne__" := Slot.of (T := "object") (name := "__ne__") (owner := "object") (n := "__ne__") (by rw [typeLookup_type, builtinLookup_eq_fast]; kernel_rfl) (by decide +kernel) (by decide +kernel) (by decide +kernel)
    (.inl (by decide +kernel)) (by rw [isSubtype_type]; kernel_rfl)
  have one : wpAny (model X.prog X.w) X.A (tryCompare (.ref a) "__ne__" u) (fun r s' => ∃ w', r = some w' ∧ EP X pins σ Q w' s') X.xe s := by
    unfold tryCompare
    refine wpAny_bind (ifBound_KS I.kIn J hne S (wpAny_call (codeAny_call_builtin S.plain PySem.F.cmpEntry_ne (PySem.W.check_slot PySem.F.cmpKind_ne PySem.F.cmpSplit_ne ((J.type).andThen (PySem.W.looks_subIn I.kIn hso)) (PySem.F.cmpArgs_ne _ _) ?_))))
    unfold Builtin.«object.__ne__»
    repeat (first
      | with_reducible refine wpAny_cRoomFor hu ?_
      | (refine wpAny_bind (m := callSpecialIfBound? (.ref a) (Str.ofString "__eq__") [u])
          (PySem.W.ifBound_K I.kIn J hm.at_ hm.fn (wpAny_mono (own_run (C := C) Fn hb hr1 rfl I (.cons (show RelV (V.ref a) (Value.ref a) from rfl) (.cons ry .nil)) q) (fun r s' z => by
            obtain ⟨v', H', I', rv, b, rfl, q'⟩ := z
            cases (show r = Value.bool b from rv)
            refine wpAny_bind (m := truthy (.bool b)) (wpAny_truthy_bool ?_)
            refine wpAny_pure ?_
            exact wpAny_pure ⟨_, rfl, .bl (!b), H', I', rfl, q'⟩) fun _ _ e => e)))
      | wp_step)
  show wpAny (model X.prog X.w) X.A (richCompare .NotEq (.ref a) u) (EP X pins σ Q) X.xe s
  unfold richCompare
  simp only [oneThing_ref]
  refine wpAny_holding (wpAny_bind (wpAny_cRoomFor hu0 ?_))
  refine wpAny_bind (J.type.here (wpAny_bind ((ty_looks I ry ty).here ?_)))
  rw [cmpInfo_NotEq]
  dsimp only
  split
  · rename_i qq
    have e : PySem.W.subIn X.K t (.ref C) = some false := by
      rcases Bool.or_eq_true_iff.mp nf with e | e
      · rw [beq_iff_eq.mp e] at qq; simp at qq
      · exact beq_iff_eq.mp e
    refine wpAny_bind ((PySem.W.looks_subIn I.kIn e).here ?_)
    simp only [Bool.false_eq_true, if_false]
    refine wpAny_bind (wpAny_mono one (fun r s' z => ?_) fun _ _ e => e)
    obtain ⟨v', rfl, hq'⟩ := z
    exact wpAny_pure hq'
  · refine wpAny_bind (wpAny_pure ?_)
    simp only [Bool.false_eq_true, if_false]
    refine wpAny_bind (wpAny_mono one (fun r s' z => ?_) fun _ _ e => e)
    obtain ⟨v', rfl, hq'⟩ := z
    exact wpAny_pure hq'
end
end Kb

namespace Kb
/-! ### pieces put together -/
def jst (acc : List Pc) (p : Pc) : List Pc := match acc.getLast? with
  | some q => if q.2.1 = p.1 - 1 ∧ q.2.2 = p.2.2 then acc.dropLast ++ [(q.1, p.2.1, p.2.2)] else acc ++ [p]
  | none => [p]
def jnP (ps : List Pc) : List Pc := ps.foldl jst []
theorem jst_nil (p : Pc) : jst [] p = [p] := rfl
theorem jst_snoc (pre : List Pc) (q p : Pc) : jst (pre ++ [q]) p = if q.2.1 = p.1 - 1 ∧ q.2.2 = p.2.2 then pre ++ [(q.1, p.2.1, p.2.2)] else pre ++ [q] ++ [p] := by
  unfold jst
  rw [show (pre ++ [q]).getLast? = some q by simp]
  dsimp only
  rw [show (pre ++ [q]).dropLast = pre by simp]
theorem atP_app (a b : List Pc) (d : Int) : atP (a ++ b) d = atP a d + atP b d := by simp [atP]
theorem atP_one (p : Pc) (d : Int) : atP [p] d = at1 p d := by simp [atP]
theorem Can.one {p : Pc} (h1 : p.1 ≤ p.2.1) (h2 : p.2.2 ≠ 0) : Can [p] := ⟨h1, h2, fun q hq => (by cases hq), trivial⟩
theorem Can.snoc : ∀ {pre : List Pc} {q p : Pc}, Can (pre ++ [q]) → p.1 ≤ p.2.1 → p.2.2 ≠ 0 → q.2.1 < p.1 → (q.2.1 + 1 = p.1 → q.2.2 ≠ p.2.2) → Can (pre ++ [q] ++ [p])
  | [], q, p, c, h1, h2, h3, h4 => ⟨c.1, c.2.1, fun x hx => by cases hx; exact ⟨h3, h4⟩, h1, h2, fun x hx => (by cases hx), trivial⟩
  | [x], q, p, c, h1, h2, h3, h4 => ⟨c.1, c.2.1, fun y hy => c.2.2.1 y hy, Can.snoc (pre := []) c.2.2.2 h1 h2 h3 h4⟩
  | x :: y :: r, q, p, c, h1, h2, h3, h4 => ⟨c.1, c.2.1, fun z hz => c.2.2.1 z hz, Can.snoc (pre := y :: r) c.2.2.2 h1 h2 h3 h4⟩
theorem Can.ext : ∀ {pre : List Pc} {q : Pc} {h : Int}, Can (pre ++ [q]) → q.2.1 ≤ h → Can (pre ++ [(q.1, h, q.2.2)])
  | [], q, h, c, k => ⟨by have := c.1; show q.1 ≤ h; omega, c.2.1, fun x hx => (by cases hx), trivial⟩
  | [x], q, h, c, k => ⟨c.1, c.2.1, fun y hy => by cases hy; exact c.2.2.1 q rfl, Can.ext (pre := []) c.2.2.2 k⟩
  | x :: y :: r, q, h, c, k => ⟨c.1, c.2.1, fun z hz => c.2.2.1 z hz, Can.ext (pre := y :: r) c.2.2.2 k⟩
theorem jp_go : ∀ (rs acc : List Pc), Can acc → (∀ q ∈ acc.getLast?, ∀ p ∈ rs, q.2.1 < p.1) → (∀ p ∈ rs, Pok p) → rs.Pairwise (fun a b => a.2.1 < b.1) →
    Can (rs.foldl jst acc) ∧ ∀ d, atP (rs.foldl jst acc) d = atP acc d + atP rs d
  | [], acc, c, _, _, _ => ⟨c, fun d => by show atP acc d = atP acc d + 0; omega⟩
  | p :: r, acc, c, lt, ok, asc => by
    obtain ⟨p1, p2, p3⟩ := ok p (List.mem_cons_self ..)
    have as2 := List.pairwise_cons.mp asc
    have ok' : ∀ q ∈ r, Pok q := fun q hq => ok q (List.mem_cons_of_mem _ hq)
    have key : ∀ acc', acc' = jst acc p → Can acc' ∧ (∃ q, acc'.getLast? = some q ∧ q.2.1 = p.2.1) ∧ ∀ d, atP acc' d = atP acc d + at1 p d := by
      intro acc' e
      subst e
      rcases List.eq_nil_or_concat acc with rfl | ⟨pre, q, rfl⟩
      · exact ⟨Can.one p2 (by omega), ⟨p, rfl, rfl⟩, fun d => by rw [jst_nil, atP_one]; show _ = 0 + _; omega⟩
      · rw [List.concat_eq_append] at *
        have hq := lt q (by simp) p (List.mem_cons_self ..)
        rw [jst_snoc]
        by_cases h : q.2.1 = p.1 - 1 ∧ q.2.2 = p.2.2
        · rw [if_pos h]
          refine ⟨?_, ⟨(q.1, p.2.1, p.2.2), by simp, rfl⟩, fun d => ?_⟩
          · rw [← h.2]
            exact c.ext (by omega)
          · have qq := c.le q (by simp)
            rw [atP_app, atP_app, atP_one, atP_one]
            have : at1 (q.1, p.2.1, p.2.2) d = at1 q d + at1 p d := by
              obtain ⟨e1, e2⟩ := h
              unfold at1
              show (if q.1 ≤ d ∧ d ≤ p.2.1 then p.2.2 else 0) = _
              rw [e2]
              by_cases a : q.1 ≤ d ∧ d ≤ q.2.1
              · rw [if_pos a, if_pos (by omega), if_neg (by omega)]
                omega
              · rw [if_neg a]
                by_cases b : p.1 ≤ d ∧ d ≤ p.2.1
                · rw [if_pos b, if_pos (by omega)]
                  omega
                · rw [if_neg b, if_neg (by omega)]
                  omega
            omega
        · rw [if_neg h]
          refine ⟨c.snoc p2 (by omega) hq fun e z => h ⟨by omega, z⟩, ⟨p, by simp, rfl⟩, fun d => ?_⟩
          rw [atP_app, atP_one]
    obtain ⟨k1, ⟨q, k2, k3⟩, k4⟩ := key _ rfl
    have ih := jp_go r (jst acc p) k1 (fun x hx y hy => by
      rw [k2] at hx
      cases hx
      have := as2.1 y hy
      omega) ok' as2.2
    refine ⟨ih.1, fun d => ?_⟩
    show atP (r.foldl jst (jst acc p)) d = _
    rw [ih.2, k4, atP_cons]
    omega
theorem jp_ok {ps : List Pc} (ok : ∀ p ∈ ps, Pok p) (asc : ps.Pairwise fun a b => a.2.1 < b.1) : Can (jnP ps) ∧ ∀ d, atP (jnP ps) d = atP ps d := by
  have g := jp_go ps [] trivial (fun q hq => (by cases hq)) ok asc
  refine ⟨g.1, fun d => ?_⟩
  show atP (ps.foldl jst []) d = _
  rw [g.2]
  show 0 + _ = _
  omega
/-- what a profile holds is what is put together -/
theorem Tells.jn {ps rs : List Pc} (T : Tells ps rs) (ok : ∀ p ∈ ps, Pok p) (asc : ps.Pairwise fun a b => a.2.1 < b.1) : rs = jnP ps := by
  have j := jp_ok ok asc
  exact Can.unique T.can j.1 fun d => by rw [T.at ok, j.2]
theorem jp_same {ps qs : List Pc} (ok : ∀ p ∈ ps, Pok p) (asc : ps.Pairwise fun a b => a.2.1 < b.1) (ok' : ∀ p ∈ qs, Pok p) (asc' : qs.Pairwise fun a b => a.2.1 < b.1) (h : ∀ d, atP qs d = atP ps d) : jnP qs = jnP ps := by
  have j := jp_ok ok asc
  have j' := jp_ok ok' asc'
  exact Can.unique j'.1 j.1 fun d => by rw [j.2, j'.2, h]
theorem jst_len (acc : List Pc) (p : Pc) : (jst acc p).length ≤ acc.length + 1 := by
  rcases List.eq_nil_or_concat acc with rfl | ⟨pre, q, rfl⟩
  · exact Nat.le_refl _
  · rw [List.concat_eq_append, jst_snoc]
    split <;> simp
theorem jp_snoc {ps : List Pc} {i : Nat} {p : Pc} (e : ps[i]? = some p) : jnP (ps.take (i + 1)) = jst (jnP (ps.take i)) p := by
  rw [List.take_add_one, e]
  unfold jnP
  rw [List.foldl_append]
  rfl
theorem jp_len (ps : List Pc) : (jnP ps).length ≤ ps.length := by
  have go : ∀ (ps acc : List Pc), (ps.foldl jst acc).length ≤ acc.length + ps.length := by
    intro ps
    induction ps with
    | nil => intro acc; exact Nat.le_refl _
    | cons p r ih =>
      intro acc
      have := ih (jst acc p)
      have := jst_len acc p
      show (r.foldl jst (jst acc p)).length ≤ _
      rw [List.length_cons]
      omega
  have := go ps []
  show (ps.foldl jst []).length ≤ _
  simpa using this
theorem bey_zero {ps : List Pc} (ok : ∀ p ∈ ps, Pok p) : bey ps 0 = (ps.map fun p => p.2.2 * (p.2.1 - p.1 + 1)).sum := by
  induction ps with
  | nil => rfl
  | cons p r ih =>
    obtain ⟨h1, h2, h3⟩ := ok p (List.mem_cons_self ..)
    rw [bey_cons, ih fun q hq => ok q (List.mem_cons_of_mem _ hq), List.map_cons, List.sum_cons]
    congr 1
    unfold be1
    rw [show max 0 (p.2.1 - max (p.1 - 1) 0) = p.2.1 - p.1 + 1 by omega]
end Kb

namespace Kb
open PySem PySem.Spec PyProof.Rows L2 StX
/-! ### lists of pieces as data -/
def pdPc (p : Pc) : PyData := .tuple [.int p.1, .int p.2.1, .int p.2.2]
def pdPs (ps : List Pc) : PyData := .list (ps.map pdPc)
theorem lay_P (ps : List Pc) : PyData.canLayAll0 (ps.map pdPc) = true := by
  induction ps with
  | nil => rfl
  | cons s r ih =>
    show (PyData.canLay0 (pdPc s) && PyData.canLayAll0 (r.map pdPc)) = true
    rw [ih]
    rfl
theorem depth_P (ps : List Pc) : PyData.depthAll (ps.map pdPc) ≤ 1 := by
  induction ps with
  | nil => exact Nat.zero_le _
  | cons s r ih =>
    show max (PyData.depth (pdPc s)) (PyData.depthAll (r.map pdPc)) ≤ 1
    have : PyData.depth (pdPc s) = 1 := rfl
    omega
theorem shaped_P (ps : List Pc) : SeqAt.shaped (pdPs ps) = true := by
  show (PyData.canLayAll0 (ps.map pdPc) && decide (PyData.depthAll (ps.map pdPc) + 1 ≤ 64)) = true
  have := depth_P ps
  rw [lay_P, decide_eq_true (by omega)]
  rfl
theorem eqv_Pc (s t : Pc) : PyData.eqv (pdPc s) (pdPc t) = decide (s = t) := by
  obtain ⟨a, b, e⟩ := s
  obtain ⟨c, d, f⟩ := t
  show ((a == c) && ((b == d) && ((e == f) && true))) = _
  rw [Bool.eq_iff_iff]
  simp
theorem eqv_P : ∀ ss ts : List Pc, PyData.eqv (pdPs ss) (pdPs ts) = decide (ss = ts)
  | [], [] => rfl
  | [], _ :: _ => rfl
  | _ :: _, [] => rfl
  | s :: r, t :: q => by
    show (PyData.eqv (pdPc s) (pdPc t) && PyData.eqv (pdPs r) (pdPs q)) = _
    rw [eqv_Pc, eqv_P r q, Bool.eq_iff_iff]
    simp
theorem Pcs.dp {K : PySem.W.Frag} {H : Hp} {a : Addr} {ps : List Pc} (h : Pcs H a ps) : Dp K H (.ref a) (pdPs ps) := by
  obtain ⟨vs, ha, pa⟩ := h
  have all : ∀ {vs : List V} {ps : List Pc}, PaP H vs ps → DpAll K H vs (ps.map pdPc) := by
    intro vs ps p
    induction p with
    | nil => exact .nil
    | cons h t ih =>
      obtain ⟨t0, rfl, ht⟩ := h
      exact .cons (.tup (SqT.of ht) (.cons (.int _) (.cons (.int _) (.cons (.int _) .nil)))) ih
  exact .lst (SqL.of ha) (all pa)
def Bn (n : Int) : Prop := 0 ≤ n ∧ n < 10 ^ 500
theorem Bn.show {n : Int} (h : Bn n) : decide (n.natAbs.log2 < 1920) = true ∧ decide ((PyData.shown (.int n)).length ≤ 510) = true := by
  have big : (10 : Nat) ^ 500 < 2 ^ 1700 := by decide +kernel
  refine ⟨decide_eq_true (Nat.lt_trans (PySem.Flt.log2_lt_of (k := 1700) (by decide) (Nat.lt_of_le_of_lt (show n.natAbs ≤ 10 ^ 500 by have := h.1; have := h.2; omega) big)) (by decide)), decide_eq_true ?_⟩
  have := PyProof.Rows.toString_length_le (k := 500) h.1 (by decide) h.2
  exact Nat.le_trans this (by decide)
theorem show_Ps {ps : List Pc} (h : ∀ p ∈ ps, Bn p.1 ∧ Bn p.2.1 ∧ Bn p.2.2) : PyData.showableAll (ps.map pdPc) = true ∧ PyData.hasDictAll (ps.map pdPc) = false ∧ PyData.leavesShortAll 510 (ps.map pdPc) = true ∧ PyData.bulkAll (ps.map pdPc) ≤ 14 * ps.length := by
  induction ps with
  | nil => exact ⟨rfl, rfl, rfl, Nat.zero_le _⟩
  | cons s r ih =>
    obtain ⟨i1, i2, i3, i4⟩ := ih fun t ht => h t (List.mem_cons_of_mem _ ht)
    obtain ⟨a1, a2, a3⟩ := h s List.mem_cons_self
    refine ⟨?_, ?_, ?_, ?_⟩
    · show ((decide (s.1.natAbs.log2 < 1920) && (decide (s.2.1.natAbs.log2 < 1920) && (decide (s.2.2.natAbs.log2 < 1920) && true))) && PyData.showableAll (r.map pdPc)) = true
      rw [a1.show.1, a2.show.1, a3.show.1, i1]
      rfl
    · show ((false || (false || (false || false))) || PyData.hasDictAll (r.map pdPc)) = false
      rw [i2]
      rfl
    · show ((decide ((PyData.shown (.int s.1)).length ≤ 510) && (decide ((PyData.shown (.int s.2.1)).length ≤ 510) && (decide ((PyData.shown (.int s.2.2)).length ≤ 510) && true))) && PyData.leavesShortAll 510 (r.map pdPc)) = true
      rw [a1.show.2, a2.show.2, a3.show.2, i3]
      rfl
    · simp only [List.map_cons, PyData.bulkAll, pdPc, PyData.bulk, List.length_cons]
      omega
def pdCPN (c : Int) (ps : List Pc) (n : Int) : PyData := .list [.int c, pdPs ps, .int n]
def pdCP (c : Int) (ps : List Pc) : PyData := .list [.int c, pdPs ps]
theorem show_CPN {c n : Int} {ps : List Pc} (hc : Bn c) (hn : Bn n) (h : ∀ p ∈ ps, Bn p.1 ∧ Bn p.2.1 ∧ Bn p.2.2) (l : ps.length ≤ 2000) :
    (pdCPN c ps n).showable = true ∧ (pdCPN c ps n).hasDict = false ∧ (pdCPN c ps n).depth ≤ 60 ∧ (pdCPN c ps n).shown.length ≤ sizeLine := by
  obtain ⟨i1, i2, i3, i4⟩ := show_Ps h
  have dp := depth_P ps
  refine ⟨?_, ?_, ?_, ?_⟩
  · show (decide (c.natAbs.log2 < 1920) && (PyData.showableAll (ps.map pdPc) && (decide (n.natAbs.log2 < 1920) && true))) = true
    rw [hc.show.1, hn.show.1, i1]
    rfl
  · show (false || (PyData.hasDictAll (ps.map pdPc) || (false || false))) = false
    rw [i2]
    rfl
  · show max 0 (max (PyData.depthAll (ps.map pdPc) + 1) (max 0 0)) + 1 ≤ 60
    omega
  · have lv : (pdCPN c ps n).leavesShort 510 = true := by
      show (decide ((PyData.shown (.int c)).length ≤ 510) && (PyData.leavesShortAll 510 (ps.map pdPc) && (decide ((PyData.shown (.int n)).length ≤ 510) && true))) = true
      rw [hc.show.2, hn.show.2, i3]
      rfl
    have bk : (pdCPN c ps n).bulk ≤ 14 * ps.length + 40 := by
      simp only [pdCPN, pdPs, PyData.bulk, PyData.bulkAll] at *
      omega
    have z := PyData.shown_le_bulk 510 (by decide) _ lv
    have y := Nat.mul_le_mul_left (510 + 2) bk
    rw [sizeLine_eq]
    omega
theorem show_CP {c : Int} {ps : List Pc} (hc : Bn c) (h : ∀ p ∈ ps, Bn p.1 ∧ Bn p.2.1 ∧ Bn p.2.2) (l : ps.length ≤ 2000) :
    (pdCP c ps).showable = true ∧ (pdCP c ps).hasDict = false ∧ (pdCP c ps).depth ≤ 60 ∧ (pdCP c ps).shown.length ≤ sizeLine := by
  obtain ⟨i1, i2, i3, i4⟩ := show_Ps h
  have dp := depth_P ps
  refine ⟨?_, ?_, ?_, ?_⟩
  · show (decide (c.natAbs.log2 < 1920) && (PyData.showableAll (ps.map pdPc) && true)) = true
    rw [hc.show.1, i1]
    rfl
  · show (false || (PyData.hasDictAll (ps.map pdPc) || false)) = false
    rw [i2]
    rfl
  · show max 0 (max (PyData.depthAll (ps.map pdPc) + 1) 0) + 1 ≤ 60
    omega
  · have lv : (pdCP c ps).leavesShort 510 = true := by
      show (decide ((PyData.shown (.int c)).length ≤ 510) && (PyData.leavesShortAll 510 (ps.map pdPc) && true)) = true
      rw [hc.show.2, i3]
      rfl
    have bk : (pdCP c ps).bulk ≤ 14 * ps.length + 40 := by
      simp only [pdCP, pdPs, PyData.bulk, PyData.bulkAll] at *
      omega
    have z := PyData.shown_le_bulk 510 (by decide) _ lv
    have y := Nat.mul_le_mul_left (510 + 2) bk
    rw [sizeLine_eq]
    omega
/-! ### promises -/
/-- what isinstance, == and != want of the class, beside its own attributes -/
structure Pof (K : PySem.W.Frag) (C : Addr) : Prop where
  cl : Cls K C
  ha : PySem.W.findIn K (.ref C) "__class__" = some (some (.builtin "object.__class__"))
  hn : PySem.W.specialIn K (.builtin "object.__class__") "__get__" = some (some (.builtin "getset_descriptor.__get__"))
  htk : PySem.W.takesIn K (.builtin "object.__class__") = some true
  hm : PySem.W.mroIn K C (.type "object") = some true
  me : PySem.W.kitOne K (.ref C) (.ref C) = some true
/-- a kind of values that is not of the class -/
def Oth (K : PySem.W.Frag) (C : Addr) (t : Value) : Prop := PySem.W.kitOne K t (.ref C) = some false ∧ PySem.W.notFirst K C t = true
theorem Ty2.tyx {K : PySem.W.Frag} {H : Hp} {y : V} {t : Value} (h : Ty2 H y t) (ni : ∀ a dx fs, ¬ (y = V.ref a ∧ ∃ C, H a = some (.ins C dx fs))) : TyX K H y t := by
  cases h with
  | non => exact .base .non
  | bl b => exact .base (.bl b)
  | int i => exact .base (.int i)
  | str x => exact .base (.str x)
  | lst e => exact .base (.lst e)
  | tup e => exact .base (.tup e)
  | dK e => exact .base (.dK e)
  | ins e => exact absurd ⟨rfl, _, e⟩ (ni _ _ _)
def spInitF (C : Addr) : Sp := fun vs H Q _ => ∃ (x dx : Addr) (c : Int) (a : Addr) (ps : List Pc), vs = [.ref x, .int c, .ref a] ∧ H x = some (.ins C dx []) ∧ 0 ≤ c ∧ Pcs H a ps ∧ Val ps ∧
  ∀ H' rs l, (∀ b o, b ≠ x → H b = some o → H' b = some o) → Pf C H' x c rs → Tells ps rs → H l = none → H' x = some (.ins C dx (pf c l)) → Q .non H'
def spPiecesP (C : Addr) : Sp := fun vs H Q _ => ∃ (x : Addr) (c : Int) (rs : List Pc), vs = [.ref x] ∧ Pf C H x c rs ∧ ∀ p H', H p = none → Ex H H' → Pcs H' p rs → Q (.ref p) H'
def spAccP (C : Addr) : Sp := fun vs H Q _ => ∃ (x : Addr) (c : Int) (rs : List Pc), vs = [.ref x] ∧ Pf C H x c rs ∧ RetV (.int (c + bey rs 0)) H Q
def spEqP (K : PySem.W.Frag) (C : Addr) : Sp := fun vs H Q _ => ∃ (x : Addr) (c : Int) (rs : List Pc) (y : V), vs = [.ref x, y] ∧ Pf C H x c rs ∧
  ((∃ z c' rs', y = .ref z ∧ Pf C H z c' rs' ∧ RetV (.bl (decide (c = c' ∧ rs = rs'))) H Q) ∨ (∃ t, Ty2 H y t ∧ (∀ a dx fs, ¬ (y = V.ref a ∧ ∃ C, H a = some (.ins C dx fs))) ∧ Oth K C t ∧ RetV (.bl false) H Q))
def spLJoin : Sp := fun vs H Q _ => ∃ (a : Addr) (ps : List Pc), vs = [.ref a] ∧ Pcs H a ps ∧ ps.length ≤ 2000 ∧ ∀ p H', H p = none → Ex H H' → Pcs H' p (jnP ps) → Q (.ref p) H'
/-- the same distances in other pieces -/
structure Alike (ps hs : List Pc) : Prop where
  val : Val hs
  same : ∀ d, atP hs d = atP ps d
def spHalved : Sp := fun vs H Q _ => ∃ (b a : Addr) (ps : List Pc) (n : Nat), vs = [.ref b, .ref a] ∧ Pd H b n ∧ n ≤ 2 ^ 50 ∧ Pcs H a ps ∧ Val ps ∧ ps.length ≤ 300 ∧
  ∀ p H' hs, H p = none → Nx H H' → Pd H' b (n + 600) → Pcs H' p hs → Alike ps hs → Q (.ref p) H'
/-- a pair of a number of cold accesses and a list of pieces -/
def IsNr (H : Hp) (v : V) (z : Int × List Pc) : Prop := ∃ t g, v = .ref t ∧ H t = some (.tup [.int z.1, .ref g]) ∧ Pcs H g z.2
theorem IsNr.nx {H H' : Hp} {v : V} {z : Int × List Pc} (e : Nx H H') (h : IsNr H v z) : IsNr H' v z := by
  obtain ⟨t, g, h1, h2, h3⟩ := h
  exact ⟨t, g, h1, e.at h2, h3.nx e⟩
def spNear : Sp := fun vs H Q _ => ∃ (b a : Addr) (ps : List Pc) (c : Int) (n : Nat), vs = [.ref b, .int c, .ref a] ∧ Pd H b n ∧ n ≤ 2 ^ 50 ∧ 0 ≤ c ∧ Pcs H a ps ∧ Val ps ∧ (∀ p ∈ ps, p.2.1 ≤ 10 ^ 100 ∧ p.2.2 ≤ 10 ^ 100) ∧ ps.length ≤ 300 ∧
  ∀ p H' us zs, H p = none → Nx H H' → Pd H' b (n + 1) → H' p = some (.lst us) → Paired (IsNr H') us zs → (∀ z ∈ zs, 0 ≤ z.1 ∧ Val z.2) → Q (.ref p) H'
def spRight12 : Sp := fun vs H Q _ => ∃ (b a : Addr) (ps : List Pc) (c : Int) (n : Nat), vs = [.ref b, .int c, .ref a] ∧ Pd H b n ∧ n ≤ 2 ^ 40 ∧ 0 ≤ c ∧ c ≤ 10 ^ 400 ∧ Pcs H a ps ∧ Val ps ∧ (∀ p ∈ ps, p.2.1 ≤ 10 ^ 100 ∧ p.2.2 ≤ 10 ^ 100) ∧ ps.length ≤ 300 ∧
  ∀ H' us, Nx (upd H a (.lst us)) H' → Pd H' b (n + 1300) → Q (.bl true) H'
end Kb

namespace Kb
open PySem PySem.Spec PyProof.Rows L2 StX
/-! ### own + and * -/
def rOwnAdd (C : Addr) (sp : Sp) : R2 := fun x y H Q => ∃ a dx fs b dy gs, x = .ref a ∧ y = .ref b ∧ H a = some (.ins C dx fs) ∧ H b = some (.ins C dy gs) ∧ sp [x, y] H (fun v H' => ∃ p : Addr, v = .ref p ∧ Q (.ref p) H') E0
def rOwnMul (C : Addr) (sp : Sp) : R2 := fun x y H Q => ∃ a dx fs i, x = .ref a ∧ y = .int i ∧ H a = some (.ins C dx fs) ∧ sp [x, y] H (fun v H' => ∃ p : Addr, v = .ref p ∧ Q (.ref p) H') E0
section
variable {X : Cx}
theorem op_ownAdd {C : Addr} {k k' : Nat} {sp : Sp} (D : DMt X.prog X.w X.K X.mg X.base C "__add__" k ["self", "other"] sp) (hc : PySem.W.selfFirst X.K C = true) (hr : Room k' X.A) (hk : k ≤ k' := by decide) : OpR X (binaryOp .Add) (rOwnAdd C sp) := by
  intro pins s σ H x y v u Q I rx ry hq
  obtain ⟨f, fd, hcl, hm, hb, Fn⟩ := D.ex
  obtain ⟨a, dx, fs, b, dy, gs, rfl, rfl, ha, hb', q⟩ := hq
  cases (show v = Value.ref a from rx)
  cases (show u = Value.ref b from ry)
  obtain ⟨mA, J, _⟩ := ins_get I.hok ha
  obtain ⟨od, J, _⟩ := J.look
  obtain ⟨mB, J', _⟩ := ins_get I.hok hb'
  obtain ⟨od', J', _⟩ := J'.look
  obtain ⟨m, hF⟩ := I.fr
  refine PySem.W.binop_K (op := .Add) hF I.ok.mod.kin J J'.type hc hm.at_ hm.fn ?_
  refine wpAny_mono (own_run (C := C) Fn hb (hr.mono hk) rfl I (.cons (show RelV (V.ref a) (Value.ref a) from rfl) (.cons (show RelV (V.ref b) (Value.ref b) from rfl) .nil)) q) (fun w' s' z => ?_) fun _ _ e => e
  obtain ⟨v', H', I', rv, p, rfl, q'⟩ := z
  cases (show w' = Value.ref p from rv)
  exact ⟨.ref p, H', I', rfl, q'⟩
theorem op_ownMul {C : Addr} {k k' : Nat} {sp : Sp} {fo ro : Option Value} (D : DMt X.prog X.w X.K X.mg X.base C "__mul__" k ["self", "times"] sp) (hc : PySem.W.selfFirst X.K C = true) (hrm : PySem.W.findIn X.K (.ref C) "__rmul__" = some none)
    (h1 : PySem.W.findIn X.K (.type "int") "__mul__" = some fo) (h2 : PySem.W.findIn X.K (.type "int") "__rmul__" = some ro) (hsub : PySem.W.subIn X.K (.type "int") (.ref C) = some false) (hr : Room k' X.A) (hk : k ≤ k' := by decide) : OpR X (binaryOp .Mult) (rOwnMul C sp) := by
  intro pins s σ H x y v u Q I rx ry hq
  obtain ⟨f, fd, hcl, hm, hb, Fn⟩ := D.ex
  obtain ⟨a, dx, fs, i, rfl, rfl, ha, q⟩ := hq
  cases (show v = Value.ref a from rx)
  obtain ⟨tk, rfl⟩ := ry
  obtain ⟨mA, J, _⟩ := ins_get I.hok ha
  obtain ⟨od, J, _⟩ := J.look
  obtain ⟨m, hF⟩ := I.fr
  refine PySem.W.ksp_binT (op := .Mult) (T := "int") hF I.ok.mod.kin J rfl hc hm.at_ hm.fn hrm (.inl rfl) h1 h2 hsub ?_
  refine wpAny_mono (own_run (C := C) Fn hb (hr.mono hk) rfl I (.cons (show RelV (V.ref a) (Value.ref a) from rfl) (.cons (show RelV (V.int i) (Value.int i tk) from ⟨tk, rfl⟩) .nil)) q) (fun w' s' z => ?_) fun _ _ e => e
  obtain ⟨v', H', I', rv, p, rfl, q'⟩ := z
  cases (show w' = Value.ref p from rv)
  exact ⟨.ref p, H', I', rfl, q'⟩
end
/-! ### sums and multiples of pieces -/
/-- numbers of at most m digits -/
structure Sz (m : Nat) (rs : List Pc) : Prop where
  can : Can rs
  pok : ∀ p ∈ rs, Pok p
  hi : ∀ p ∈ rs, p.2.1 ≤ 10 ^ 100
  tm : ∀ p ∈ rs, p.2.2 ≤ 10 ^ m
theorem Sz.val {m : Nat} {rs : List Pc} (S : Sz m rs) (hm : m ≤ 200) (l : rs.length ≤ 1000) : Val rs := by
  have g : (10 : Int) ^ 100 ≤ 10 ^ 200 := by decide +kernel
  have g2 : (10 : Int) ^ m ≤ 10 ^ 200 := by
    have := Nat.pow_le_pow_right (show 0 < 10 by decide) hm
    have e : ∀ k : Nat, ((10 : Int) ^ k) = ((10 ^ k : Nat) : Int) := fun k => by rw [Int.natCast_pow]; rfl
    rw [e, e]
    exact Int.ofNat_le.mpr this
  exact ⟨fun p hp => ⟨S.pok p hp, Int.le_trans (S.hi p hp) g, Int.le_trans (S.tm p hp) g2⟩, S.can.asc, l⟩
theorem atP_bound {rs : List Pc} {B : Int} (c : Can rs) (h : ∀ p ∈ rs, 0 ≤ p.2.2 ∧ p.2.2 ≤ B) (b0 : 0 ≤ B) (d : Int) : 0 ≤ atP rs d ∧ atP rs d ≤ B := by
  by_cases z : atP rs d = 0
  · rw [z]
    exact ⟨Int.le_refl _, b0⟩
  · obtain ⟨p, hp, h1, h2⟩ := atP_pos z
    rw [c.at p hp d h1 h2]
    exact h p hp
/-- what flattened makes of pieces that tell f, each distance up to a top and at most B times -/
theorem Sz.of {m : Nat} {qs rs : List Pc} (T : Tells qs rs) (ok : ∀ p ∈ qs, Pok p) (hi : ∀ p ∈ qs, p.2.1 ≤ 10 ^ 100) (tm : ∀ d, atP qs d ≤ 10 ^ m) : Sz m rs := by
  refine ⟨T.can, fun p hp => ?_, fun p hp => ?_, fun p hp => ?_⟩
  · obtain ⟨a, b, c, _⟩ := T.row ok hp
    exact ⟨a, b, c⟩
  · obtain ⟨a, b, c, d, q, hq, e⟩ := T.row ok hp
    exact Int.le_trans e (hi q hq)
  · have := T.can.at p hp p.1 (Int.le_refl _) (T.can.le p hp)
    rw [T.at ok] at this
    rw [← this]
    exact tm _
theorem ten_succ (m : Nat) : (10 : Int) ^ m + 10 ^ m ≤ 10 ^ (m + 1) := by
  rw [Int.pow_succ]
  have : (0 : Int) ≤ 10 ^ m := Int.le_of_lt (Int.pow_pos (by decide))
  omega
theorem ten_add (m : Nat) : (10 : Int) ^ m * 10 ^ 30 = 10 ^ (m + 30) := by rw [Int.pow_add]
theorem ten_pos (m : Nat) : (0 : Int) < 10 ^ m := Int.pow_pos (by decide)
/-- the pieces with their times multiplied -/
def mulP (ps : List Pc) (n : Int) : List Pc := ps.map fun p => (p.1, p.2.1, p.2.2 * n)
theorem atP_mul (ps : List Pc) (n d : Int) : atP (mulP ps n) d = atP ps d * n := by
  induction ps with
  | nil => show (0 : Int) = 0 * n; simp
  | cons p r ih =>
    show atP ((p.1, p.2.1, p.2.2 * n) :: mulP r n) d = _
    rw [atP_cons, atP_cons, ih, Int.add_mul]
    congr 1
    unfold at1
    show (if p.1 ≤ d ∧ d ≤ p.2.1 then p.2.2 * n else 0) = _
    split
    · rfl
    · simp
theorem wt_mul (G : Int → Int) (ps : List Pc) (n : Int) : wt G (mulP ps n) = wt G ps * n := by
  induction ps with
  | nil => show (0 : Int) = 0 * n; simp
  | cons p r ih =>
    show p.2.2 * n * (G p.1 - G (p.2.1 + 1)) + wt G (mulP r n) = (p.2.2 * (G p.1 - G (p.2.1 + 1)) + wt G r) * n
    rw [ih, Int.add_mul, Int.mul_right_comm]
/-! ### pieces between all ends -/
def cells (f : Int → Int) : List Int → List Pc
  | l :: u :: r => (if 0 < f l then [(l, u - 1, f l)] else []) ++ cells f (u :: r)
  | _ => []
theorem cells_ok {f : Int → Int} : ∀ {es : List Int}, es.Pairwise (· < ·) → (∀ z ∈ es, 1 ≤ z) → (∀ p ∈ cells f es, Pok p) ∧ (cells f es).Pairwise (fun a b => a.2.1 < b.1) ∧ ∀ p ∈ cells f es, ∃ z ∈ es.head?, z ≤ p.1
  | [], _, _ => ⟨fun p hp => absurd hp (by simp [cells]), List.Pairwise.nil, fun p hp => absurd hp (by simp [cells])⟩
  | [x], _, _ => ⟨fun p hp => absurd hp (by simp [cells]), List.Pairwise.nil, fun p hp => absurd hp (by simp [cells])⟩
  | x :: u :: r, o, h => by
    have o2 := List.pairwise_cons.mp o
    have lt := o2.1 u (List.mem_cons_self ..)
    obtain ⟨i1, i2, i3⟩ := cells_ok (f := f) o2.2 fun z hz => h z (List.mem_cons_of_mem _ hz)
    have hx := h x (List.mem_cons_self ..)
    have i3' : ∀ p ∈ cells f (u :: r), u ≤ p.1 := fun p hp => by
      obtain ⟨z, hz, le⟩ := i3 p hp
      cases hz
      exact le
    show (∀ p ∈ (if 0 < f x then [(x, u - 1, f x)] else []) ++ cells f (u :: r), Pok p) ∧ ((if 0 < f x then [(x, u - 1, f x)] else []) ++ cells f (u :: r)).Pairwise (fun a b => a.2.1 < b.1) ∧ ∀ p ∈ (if 0 < f x then [(x, u - 1, f x)] else []) ++ cells f (u :: r), _
    by_cases c : 0 < f x
    · rw [if_pos c]
      refine ⟨fun p hp => ?_, List.pairwise_cons.mpr ⟨fun p hp => ?_, i2⟩, fun p hp => ⟨x, rfl, ?_⟩⟩
      · rcases List.mem_cons.mp hp with rfl | hp
        · exact ⟨hx, by show x ≤ u - 1; omega, by show 1 ≤ f x; omega⟩
        · exact i1 p hp
      · have := i3' p hp
        show u - 1 < p.1
        omega
      · rcases List.mem_cons.mp hp with rfl | hp
        · exact Int.le_refl _
        · have := i3' p hp
          omega
    · rw [if_neg c]
      exact ⟨i1, i2, fun p hp => ⟨x, rfl, by have := i3' p hp; omega⟩⟩
theorem cells_ok' {f : Int → Int} : ∀ {es : List Int}, es.Pairwise (· < ·) → ∀ p ∈ cells f es, ∃ z ∈ es.head?, z ≤ p.1
  | [], _, p, hp => absurd hp (by simp [cells])
  | [x], _, p, hp => absurd hp (by simp [cells])
  | x :: u :: r, o, p, hp => by
    have o2 := List.pairwise_cons.mp o
    have lt := o2.1 u (List.mem_cons_self ..)
    have hp' : p ∈ (if 0 < f x then [(x, u - 1, f x)] else []) ++ cells f (u :: r) := hp
    refine ⟨x, rfl, ?_⟩
    rcases List.mem_append.mp hp' with h | h
    · by_cases c : 0 < f x
      · rw [if_pos c] at h
        rw [List.mem_singleton.mp h]
        exact Int.le_refl _
      · rw [if_neg c] at h
        cases h
    · obtain ⟨z, hz, le⟩ := cells_ok' o2.2 p h
      cases hz
      omega
theorem cells_at {f : Int → Int} (f0 : ∀ d, 0 ≤ f d) : ∀ {es : List Int}, es.Pairwise (· < ·) → (∀ d, d + 1 ∉ es → f (d + 1) = f d) → ∀ d, atP (cells f es) d = if (∃ a ∈ es.head?, a ≤ d) ∧ (∃ z ∈ es.getLast?, d < z) then f d else 0
  | [], _, _, d => by rw [if_neg (by simp)]; rfl
  | [x], _, _, d => by
    rw [if_neg]
    · rfl
    · rintro ⟨⟨a, ha, h1⟩, z, hz, h2⟩
      cases ha
      have hz' : x = z := by simpa using hz
      omega
  | x :: u :: r, o, hc, d => by
    have o2 := List.pairwise_cons.mp o
    have lt := o2.1 u (List.mem_cons_self ..)
    have o3 := List.pairwise_cons.mp o2.2
    -- f stays from x up to u - 1
    have stay : ∀ n : Nat, x + (n : Int) < u → f (x + (n : Int)) = f x := by
      intro n
      induction n with
      | zero => intro _; simp
      | succ n ih =>
        intro h
        have := hc (x + (n : Int)) (fun m => by
          rcases List.mem_cons.mp m with e | m
          · omega
          · rcases List.mem_cons.mp m with e | m
            · omega
            · have := o3.1 _ m
              omega)
        rw [show x + ((n + 1 : Nat) : Int) = x + (n : Int) + 1 by omega, this]
        exact ih (by omega)
    -- beyond u, as the rest tells; its f differs at x alone
    have rest : ∀ d, atP (cells f (u :: r)) d = if (∃ a ∈ (u :: r).head?, a ≤ d) ∧ (∃ z ∈ (u :: r).getLast?, d < z) then f d else 0 := by
      intro d
      by_cases hu : u ≤ d
      · let g : Int → Int := fun y => if y < u then f u else f y
        have gg : cells g (u :: r) = cells f (u :: r) := by
          have key : ∀ es : List Int, (∀ z ∈ es, u ≤ z) → cells g es = cells f es := by
            intro es
            induction es with
            | nil => intro _; rfl
            | cons a r ih =>
              intro h
              cases r with
              | nil => rfl
              | cons b r =>
                have ha : g a = f a := if_neg (by have := h a (List.mem_cons_self ..); omega)
                show (if 0 < g a then [(a, b - 1, g a)] else []) ++ cells g (b :: r) = _
                rw [ha, ih fun z hz => h z (List.mem_cons_of_mem _ hz)]
                rfl
          refine key _ fun z hz => ?_
          rcases List.mem_cons.mp hz with rfl | hz
          · exact Int.le_refl _
          · exact Int.le_of_lt (o3.1 z hz)
        have g0 : ∀ d, 0 ≤ g d := fun d => by
          show 0 ≤ if d < u then f u else f d
          split
          · exact f0 _
          · exact f0 _
        have ih := cells_at g0 o2.2 (fun d hd => by
          show (if d + 1 < u then f u else f (d + 1)) = if d < u then f u else f d
          by_cases a : d + 1 < u
          · rw [if_pos a, if_pos (by omega)]
          · by_cases b : d < u
            · rw [if_neg a, if_pos b, show d + 1 = u by omega]
            · rw [if_neg a, if_neg b]
              exact hc d fun m => by
                rcases List.mem_cons.mp m with e | m
                · omega
                · exact hd m) d
        rw [gg] at ih
        rw [ih, show g d = f d from if_neg (by omega)]
      · rw [if_neg]
        · refine atP_zero fun p hp => ?_
          obtain ⟨z, hz, le⟩ := (cells_ok' o2.2 (f := f)) p hp
          cases hz
          omega
        · rintro ⟨⟨a, ha, h1⟩, _⟩
          cases ha
          omega
    have hx : atP (if 0 < f x then [(x, u - 1, f x)] else []) d = if x ≤ d ∧ d < u then f d else 0 := by
      by_cases c : 0 < f x
      · rw [if_pos c, atP_one]
        unfold at1
        show (if x ≤ d ∧ d ≤ u - 1 then f x else 0) = _
        by_cases b : x ≤ d ∧ d < u
        · rw [if_pos (by omega), if_pos b]
          have := stay (d - x).toNat (by omega)
          rw [show x + ((d - x).toNat : Int) = d by omega] at this
          exact this.symm
        · rw [if_neg (by omega), if_neg b]
      · rw [if_neg c]
        by_cases b : x ≤ d ∧ d < u
        · rw [if_pos b]
          have := stay (d - x).toNat (by omega)
          rw [show x + ((d - x).toNat : Int) = d by omega] at this
          have := f0 x
          show (0 : Int) = f d
          omega
        · rw [if_neg b]
          rfl
    show atP ((if 0 < f x then [(x, u - 1, f x)] else []) ++ cells f (u :: r)) d = _
    rw [atP_app, hx, rest]
    have gl : (x :: u :: r).getLast? = (u :: r).getLast? := by simp
    have lastge : ∀ z ∈ (u :: r).getLast?, u ≤ z := fun z hz => by
      have := List.mem_of_getLast? hz
      rcases List.mem_cons.mp this with rfl | m
      · exact Int.le_refl _
      · exact Int.le_of_lt (o3.1 z m)
    obtain ⟨z, hz⟩ : ∃ z, (u :: r).getLast? = some z := ⟨_, List.getLast?_eq_some_getLast (by simp)⟩
    have zu := lastge z hz
    rw [gl, hz]
    by_cases a : x ≤ d
    · by_cases b : d < u
      · rw [if_pos ⟨a, b⟩, if_neg (by rintro ⟨⟨y, hy, h1⟩, _⟩; cases hy; omega), if_pos ⟨⟨x, rfl, a⟩, z, rfl, by omega⟩]
        omega
      · rw [if_neg (by omega)]
        by_cases e : d < z
        · rw [if_pos ⟨⟨u, rfl, by omega⟩, z, rfl, e⟩, if_pos ⟨⟨x, rfl, a⟩, z, rfl, e⟩]
          omega
        · rw [if_neg (by rintro ⟨_, y, hy, h1⟩; cases hy; omega), if_neg (by rintro ⟨_, y, hy, h1⟩; cases hy; omega)]
          omega
    · rw [if_neg (by omega), if_neg (by rintro ⟨⟨y, hy, h1⟩, _⟩; cases hy; omega), if_neg (by rintro ⟨⟨y, hy, h1⟩, _⟩; cases hy; omega)]
      omega
end Kb

namespace Kb
open PySem PySem.Spec PyProof.Rows L2 TL
/-! ### the object of a program -/
structure Tpg (K : PySem.W.Frag) (C : Addr) : Prop where
  cl : Cls K C
  nP : NoAttr K C "parts"
def pgF (t : V) : List (Str × V) := [("parts", t)]
theorem pgF_put (t : V) : putF "parts" t [] = pgF t := rfl
theorem pgF_get (t : V) : (pgF t).lookup ("parts" : Str) = some t := by
  rw [← pgF_put, lookup_putF, if_pos rfl]
theorem pgF_no (t : V) {m : Str} (h1 : ¬ m = "parts") : (pgF t).lookup m = none := by
  rw [← pgF_put, lookup_putF, if_neg h1]
  rfl
def PgAt (C : Addr) (H : Hp) (x : Addr) (g : Pg) : Prop := ∃ dx t, H x = some (.ins C dx (pgF t)) ∧ IsPg H t g
theorem PgAt.nx {C : Addr} {H H' : Hp} {x : Addr} {g : Pg} (e : Nx H H') (h : PgAt C H x g) : PgAt C H' x g := by
  obtain ⟨dx, t, h1, h2⟩ := h
  exact ⟨dx, t, e.at h1, h2.kp e.kp⟩
theorem PgAt.mono {C : Addr} {H H' : Hp} {x : Addr} {g : Pg} (e : Ex H H') (h : PgAt C H x g) : PgAt C H' x g := h.nx e.nx
/-- a program whose numbers and words are not too many -/
structure Med (g : Pg) : Prop where
  ok : g.Ok (10 ^ 63)
  dep : g.dep < 12
  few : g.toks.length ≤ 100000
theorem scs_toks : ∀ g : Pg, g.scs.length ≤ g.toks.length
  | .nil => Nat.le_refl _
  | .sc s r => Nat.succ_le_succ (scs_toks r)
  | .rp n b r => by
    show (b.scs ++ r.scs).length ≤ (Tk.op :: (b.toks ++ Tk.cl n :: r.toks)).length
    have := scs_toks b
    have := scs_toks r
    rw [List.length_append, List.length_cons, List.length_append, List.length_cons]
    omega
theorem Med.scs {g : Pg} (h : Med g) : g.scs.length ≤ 100000 := Nat.le_trans (scs_toks g) h.few
theorem Lim.med {g : Pg} (h : Lim g) : Med g := ⟨h.ok.mono (by decide +kernel), by have := h.dep; omega, by have := h.toks; omega⟩
theorem Med.txt {g : Pg} (h : Med g) : (g.wl.map (·.length)).sum + g.wl.length * spW.length ≤ 16777216 := by
  have a := txt_big h.ok (k := 64) (by decide) (by decide +kernel)
  have b := Nat.mul_le_mul_right (2 * 64 + 2) h.few
  omega
def spInitPg (C : Addr) : Sp := fun vs H Q _ => ∃ (x dx : Addr) (g : Pg), vs = [.ref x, .str (txt g)] ∧ H x = some (.ins C dx []) ∧ Lim g ∧ ∀ H', (∀ b o, b ≠ x → H b = some o → H' b = some o) → PgAt C H' x g → Q .non H'
def spTextP (C : Addr) : Sp := fun vs H Q _ => ∃ (x : Addr) (g : Pg), vs = [.ref x] ∧ PgAt C H x g ∧ Med g ∧ RetV (.str (txt g)) H Q
def spScansP (C : Addr) : Sp := fun vs H Q _ => ∃ (x : Addr) (g : Pg), vs = [.ref x] ∧ PgAt C H x g ∧ Med g ∧ ∀ p H', H p = none → Ex H H' → Scs H' p g.scs → Q (.ref p) H'
def spAccPg (C : Addr) : Sp := fun vs H Q _ => ∃ (x : Addr) (g : Pg), vs = [.ref x] ∧ PgAt C H x g ∧ Med g ∧ RetV (.int g.cnt) H Q
def spEqPg (K : PySem.W.Frag) (C : Addr) : Sp := fun vs H Q _ => ∃ (x : Addr) (g : Pg) (y : V), vs = [.ref x, y] ∧ PgAt C H x g ∧ g.dep ≤ 30 ∧
  ((∃ z h, y = .ref z ∧ PgAt C H z h ∧ h.dep ≤ 30 ∧ RetV (.bl (decide (g = h))) H Q) ∨ (∃ t, Ty2 H y t ∧ (∀ a dx fs, ¬ (y = V.ref a ∧ ∃ C, H a = some (.ins C dx fs))) ∧ Oth K C t ∧ RetV (.bl false) H Q))
end Kb

namespace Kb
open PySem PySem.Spec PyProof.Rows L2 TL
def rSignIn : R2 := fun x y H Q => ∃ (c : Nat) (z : Str), x = .str ⟨#[c]⟩ ∧ y = .str z ∧ Q (.bl (decide (c ∈ z.cps.toList))) H
def rSignNo : R2 := fun x y H Q => ∃ (c : Nat) (z : Str), x = .str ⟨#[c]⟩ ∧ y = .str z ∧ Q (.bl (!decide (c ∈ z.cps.toList))) H
theorem op_isSign {X : Cx} : OpR X (compareOp .In) rSignIn := op_in_sign
theorem op_noSign {X : Cx} : OpR X (compareOp .NotIn) rSignNo := op_notIn_sign
/-! ### promises of the law's own words -/
def spLScan : Sp := fun vs H Q _ => ∃ (b : Addr) (wide : Int), vs = [.ref b, .int wide] ∧ H b = some (bagO b) ∧ 1 ≤ wide ∧ wide ≤ 10 ^ 30 ∧ ∀ s H', SOk (10 ^ 30) s → s.1 < wide → Ex H H' → Q (.str (scw s)) H'
/-- words that the law draws -/
structure Drw (deep most : Int) (g : Pg) : Prop where
  ok : g.Ok (10 ^ 30)
  lt : ∀ s ∈ g.scs, s.1 < 10 ^ 30
  dep : (g.dep : Int) ≤ deep
  few : (g.scs.length : Int) ≤ most
  one : 1 ≤ g.scs.length
def spLWords (d : Nat) : Sp := fun vs H Q _ => ∃ (b : Addr) (most deep wide high : Int), vs = [.ref b, .int most, .int deep, .int wide, .int high] ∧ H b = some (bagO b) ∧ 1 ≤ most ∧ most ≤ 100 ∧ 0 ≤ deep ∧ deep < d ∧ d ≤ 10 ∧ 1 ≤ wide ∧ wide ≤ 10 ^ 30 ∧ 1 ≤ high ∧ high + 1 ≤ 10 ^ 30 ∧
  ∀ p H' g, H p = none → Ex H H' → H' p = some (.lst (g.wl.map V.str)) → Drw deep most g → Q (.ref p) H'
def spLPair : Sp := fun vs H Q _ => ∃ (s : Sc), vs = [.str (scw s)] ∧ SOk (10 ^ 63) s ∧ ∀ t H', H t = none → Ex H H' → H' t = some (.tup [.int s.1, .int s.2]) → Q (.ref t) H'
def spLLen : Sp := fun vs H Q _ => ∃ (a : Addr) (g : Pg), vs = [.ref a] ∧ H a = some (.lst (g.wl.map V.str)) ∧ Med g ∧ RetV (.int g.cnt) H Q
theorem l2s (a b : Str) : (a ++ b).length = a.length + b.length := Str.length_append a b
theorem dash_len : dash.length = 1 := by rw [len_tl, tl_dash]; rfl
theorem cl_len : clW.length = 1 := by rw [len_tl, tl_cl]; rfl
theorem op_len : opW.length = 1 := by rw [len_tl, tl_op]; rfl
theorem scw_eq {x : Int} : nw x = scw (x, x) := (if_pos rfl).symm
theorem scw_ne {x y : Int} (h : ¬ x = y) : nw x ++ dash ++ nw y = scw (x, y) := (if_neg h).symm
theorem size64 {n : Nat} (h : n ≤ 1000) : n ≤ sizeLine := by rw [sizeLine_eq]; omega
theorem toks_dep {B : Int} {g : Pg} (h : g.Ok B) {d m : Nat} (hd : g.dep ≤ d) (hm : g.scs.length ≤ m) : g.toks.length ≤ (2 * d + 1) * m :=
  Nat.le_trans (toks_len h) (Nat.mul_le_mul (by omega) hm)
theorem app_ok {B : Int} : ∀ {a b : Pg}, (a.app b).Ok B → a.Ok B ∧ b.Ok B
  | .nil, b, h => ⟨trivial, h⟩
  | .sc s r, b, h => ⟨⟨h.1, (app_ok (a := r) h.2).1⟩, (app_ok (a := r) h.2).2⟩
  | .rp n x r, b, h => ⟨⟨h.1, h.2.1, h.2.2.1, h.2.2.2.1, (app_ok (a := r) h.2.2.2.2).1⟩, (app_ok (a := r) h.2.2.2.2).2⟩
end Kb

namespace Kb
open PySem PySem.Spec PyProof.Rows L2 TL
/-! ### what is printed of a program -/
theorem wd_chars {B : Int} {t : Tk} (h : TkOk B t) : ∀ c ∈ tl t.wd, 32 ≤ c ∧ c ≤ 57 := by
  cases t with
  | op =>
    show ∀ c ∈ tl opW, _
    rw [tl_op]
    intro c hc
    rw [List.mem_singleton.mp hc]
    decide
  | cl n =>
    have h : 2 ≤ n ∧ n ≤ B := h
    show ∀ c ∈ tl (clW ++ nw n), _
    rw [tl_append, tl_cl]
    intro c hc
    rcases List.mem_append.mp hc with hc | hc
    · rw [List.mem_singleton.mp hc]
      decide
    · have := nw_digit (show 0 ≤ n by omega) c hc
      omega
  | sc s =>
    have h : SOk B s := h
    show ∀ c ∈ tl (scw s), _
    rw [tl_scw]
    intro c hc
    split at hc
    · have := nw_digit h.1 c hc
      omega
    · rcases List.mem_append.mp hc with hc | hc
      · have := nw_digit h.1 c hc
        omega
      · rcases List.mem_cons.mp hc with hc | hc
        · omega
        · have := nw_digit h.2.2.1 c hc
          omega
theorem mem_joinL {S : List Nat} {c : Nat} : ∀ {ps : List (List Nat)}, c ∈ joinL S ps → c ∈ S ∨ ∃ p ∈ ps, c ∈ p
  | [], h => by cases h
  | [p], h => .inr ⟨p, List.mem_cons_self, h⟩
  | p :: q :: r, h => by
    have h : c ∈ p ++ (S ++ joinL S (q :: r)) := h
    rcases List.mem_append.mp h with h | h
    · exact .inr ⟨p, List.mem_cons_self, h⟩
    rcases List.mem_append.mp h with h | h
    · exact .inl h
    · rcases mem_joinL h with h | ⟨z, m, h⟩
      · exact .inl h
      · exact .inr ⟨z, List.mem_cons_of_mem _ m, h⟩
theorem txt_chars {B : Int} {g : Pg} (h : g.Ok B) : ∀ c ∈ tl (txt g), 32 ≤ c ∧ c ≤ 57 := by
  intro c hc
  unfold txt at hc
  rw [join_eq, tl_join, tl_sp] at hc
  rcases mem_joinL hc with hc | ⟨p, m, hc⟩
  · rw [List.mem_singleton.mp hc]
    decide
  · obtain ⟨w, hw, rfl⟩ := List.mem_map.mp m
    obtain ⟨t, ht, rfl⟩ := List.mem_map.mp hw
    exact wd_chars (toks_ok h t ht) c hc
theorem show_Ss {ss : List Sc} (h : ∀ s ∈ ss, Bn s.1 ∧ Bn s.2) : PyData.showableAll (ss.map pdS) = true ∧ PyData.hasDictAll (ss.map pdS) = false ∧ PyData.leavesShortAll 510 (ss.map pdS) = true ∧ PyData.bulkAll (ss.map pdS) = 3 * ss.length ∧ PyData.depthAll (ss.map pdS) ≤ 1 := by
  induction ss with
  | nil => exact ⟨rfl, rfl, rfl, rfl, Nat.zero_le _⟩
  | cons s r ih =>
    obtain ⟨i1, i2, i3, i4, i5⟩ := ih fun x hx => h x (List.mem_cons_of_mem _ hx)
    obtain ⟨b1, b2⟩ := h s List.mem_cons_self
    refine ⟨?_, ?_, ?_, ?_, ?_⟩
    · show ((decide (s.1.natAbs.log2 < 1920) && (decide (s.2.natAbs.log2 < 1920) && true)) && PyData.showableAll (r.map pdS)) = true
      rw [b1.show.1, b2.show.1, i1]
      rfl
    · show ((false || (false || false)) || PyData.hasDictAll (r.map pdS)) = false
      rw [i2]
      rfl
    · show ((decide ((PyData.shown (.int s.1)).length ≤ 510) && (decide ((PyData.shown (.int s.2)).length ≤ 510) && true)) && PyData.leavesShortAll 510 (r.map pdS)) = true
      rw [b1.show.2, b2.show.2, i3]
      rfl
    · show (0 + 1 + (0 + 1 + 0)) + 1 + PyData.bulkAll (r.map pdS) = 3 * (r.length + 1)
      rw [i4]
      omega
    · show max (PyData.depth (pdS s)) (PyData.depthAll (r.map pdS)) ≤ 1
      have : PyData.depth (pdS s) = 1 := rfl
      omega
def pdR (g : Pg) : PyData := .list [.str (txt g), pdL g.scs, .int g.cnt]
theorem Lim.short {g : Pg} (h : Lim g) : (Kb.txt g).length ≤ 28160 := by
  have a := txt_big h.ok (k := 31) (by decide) (by decide +kernel)
  have b := Nat.mul_le_mul_right (2 * 31 + 2) h.toks
  have c := join_len g.wl
  exact Nat.le_trans c (by omega)
theorem Lim.cnt {g : Pg} (h : Lim g) : Bn g.cnt := by
  have a := Pg.cnt_nn h.ok
  have b := Pg.cnt_le (k := 5) (by decide +kernel) h.ok h.dep
  have c := Int.mul_le_mul_of_nonneg_right (show (g.scs.length : Int) ≤ 40 by have := h.few; omega) (show (0 : Int) ≤ (10 ^ 30 + 1) ^ (5 + 1) by decide +kernel)
  have d : (40 : Int) * (10 ^ 30 + 1) ^ (5 + 1) ≤ 10 ^ 500 := by decide +kernel
  have e : (0 : Int) ≤ 10 ^ 500 := by decide +kernel
  unfold Bn
  omega
theorem Lim.bn {g : Pg} (h : Lim g) : ∀ s ∈ g.scs, Bn s.1 ∧ Bn s.2 := fun s hs => by
  obtain ⟨a, b, c, d⟩ := h.ok.mem s hs
  have e : (10 : Int) ^ 30 ≤ 10 ^ 500 := by decide +kernel
  unfold Bn
  omega
theorem show_R {g : Pg} (h : Lim g) : (pdR g).showable = true ∧ (pdR g).hasDict = false ∧ (pdR g).depth ≤ 60 ∧ (pdR g).shown.length ≤ sizeLine := by
  obtain ⟨i1, i2, i3, i4, i5⟩ := show_Ss h.bn
  have bc := h.cnt.show
  refine ⟨?_, ?_, ?_, ?_⟩
  · show (true && (PyData.showableAll (g.scs.map pdS) && (decide (g.cnt.natAbs.log2 < 1920) && true))) = true
    rw [i1, bc.1]
    rfl
  · show (false || (PyData.hasDictAll (g.scs.map pdS) || (false || false))) = false
    rw [i2]
    rfl
  · show max 0 (max (PyData.depthAll (g.scs.map pdS) + 1) (max 0 0)) + 1 ≤ 60
    omega
  · have ch : ((txt g).cps.toList.all fun c => decide (c < 16 ^ 8)) = true := List.all_eq_true.mpr fun c hc => by
      have := txt_chars h.ok c hc
      exact decide_eq_true (by omega)
    have lv : (pdR g).leavesShort 510 = true := by
      show (((txt g).cps.toList.all fun c => decide (c < 16 ^ 8)) && (PyData.leavesShortAll 510 (g.scs.map pdS) && (decide ((PyData.shown (.int g.cnt)).length ≤ 510) && true))) = true
      rw [ch, i3, bc.2]
      rfl
    have bk : (pdR g).bulk ≤ 28300 := by
      show (txt g).cps.size + 1 + (PyData.bulkAll (g.scs.map pdS) + 1 + (0 + 1 + 0)) ≤ 28300
      have := h.short
      have e : (txt g).cps.size = (txt g).length := rfl
      have := h.few
      omega
    have z := PyData.shown_le_bulk 510 (by decide) _ lv
    have y := Nat.mul_le_mul_left (510 + 2) bk
    rw [sizeLine_eq]
    omega
def spRight6 : Sp := fun vs H Q _ => ∃ (a : Addr) (g : Pg), vs = [.ref a] ∧ H a = some (.lst (g.wl.map V.str)) ∧ Lim g ∧ g ≠ .nil ∧ RetV (.bl true) H Q
end Kb

namespace Kb
open PySem PySem.Spec PyProof.Rows L2 TL
/-- a text so many times -/
def repS (s : Str) (k : Nat) : Str := ⟨(List.replicate k s.cps).foldl (· ++ ·) #[]⟩
def rRepS : R2 := fun x y H Q => ∃ (s : Str) (k : Int), x = .str s ∧ y = .int k ∧ 2 ≤ k ∧ k ≤ 1000 ∧ 1 ≤ s.length ∧ s.length ≤ 1000 ∧ Q (.str (repS s k.toNat)) H
theorem rep_size (a : Array Nat) : ∀ (k : Nat) (acc : Array Nat), (List.foldl (fun x1 x2 => x1 ++ x2) acc (List.replicate k a)).size = acc.size + k * a.size
  | 0, acc => by simp
  | k + 1, acc => by
    rw [List.replicate_succ, List.foldl_cons, rep_size a k, Array.size_append, Nat.succ_mul]
    omega
def big1 : Str := (Str.ofString "1" ++ repS (Str.ofString "0") 29) ++ Str.ofString "1"
theorem big1_eq : big1 = nw (10 ^ 30 + 1) := by decide +kernel
/-- a text stands in what ends with it -/
theorem found_end (a y : Str) : (!(Builtin.Str.occurrences (a ++ y) y 0 (a ++ y).length 1).isEmpty) = true := by
  refine (PySem.StrLaws.found_iff _ _).mpr ⟨a.length, ?_, ?_⟩
  · rw [l2s]
    exact Nat.le_refl _
  · rw [PySem.StrLaws.subAt_eq]
    have e : (a ++ y).cps.toList = tl a ++ tl y := tl_append a y
    rw [e, len_tl y, len_tl a, List.drop_left, List.take_length]
    exact beq_self_eq_true _
theorem found_self (y : Str) : (!(Builtin.Str.occurrences y y 0 y.length 1).isEmpty) = true := by
  have := found_end Str.empty y
  rwa [Str.empty_append] at this
theorem op_repS {X : Cx} : OpR X (binaryOp .Mult) rRepS := by
  intro pins s σ H x y v u Q I rx ry h
  obtain ⟨z, k, rfl, rfl, h1, h2, h3, h4, q⟩ := h
  obtain ⟨t, rfl⟩ := rx
  obtain ⟨t', rfl⟩ := ry
  have k1 : ¬ k < 1 := by omega
  have mle : (z.length : Int) * k ≤ 1000 * 1000 := Int.mul_le_mul (by omega) h2 (by omega) (by decide)
  have nle : z.length * k.toNat ≤ 1000 * 1000 := Nat.mul_le_mul h4 (by omega)
  refine PySem.P.mul_str ?_ (fun _ _ => ?_) (fun _ _ => ?_) ?_
  · rw [decide_eq_false (by omega), decide_eq_false (by omega)]
    rfl
  · have := Int.le_ediv_of_mul_le (a := (z.length : Int)) (b := 2 ^ 63 - 1) (c := k) (by omega) (by omega)
    omega
  · unfold Builtin.Str.tooLong
    exact decide_eq_false (by rw [sizeLine_eq]; omega)
  · rw [if_neg k1, if_neg (show ¬ (k == 1 || z.length == 0) = true from by
      rw [Bool.or_eq_true, beq_iff_eq, beq_iff_eq]
      omega)]
    refine ⟨?_, .str (repS z k.toNat), H, I.tok _, ⟨_, rfl⟩, q⟩
    show (List.foldl (fun x1 x2 => x1 ++ x2) #[] (List.replicate k.toNat z.cps)).size ≤ sizeLine
    rw [rep_size, sizeLine_eq]
    have e : z.cps.size = z.length := rfl
    have c : k.toNat * z.length = z.length * k.toNat := Nat.mul_comm _ _
    show 0 + k.toNat * z.cps.size ≤ _
    rw [e, c]
    omega
/-! ### another word in a word's place -/
inductive Kind : Tk → Tk → Prop where
  | cl (n m : Int) : Kind (.cl n) (.cl m)
  | sc (s t : Sc) : Kind (.sc s) (.sc t)
theorem tok_set {B : Int} {t t' : Tk} (k : Kind t t') (o : TkOk B t') : ∀ {g : Pg} {i : Nat}, g.toks[i]? = some t → g.Ok B → ∃ h : Pg, h.toks = g.toks.set i t' ∧ h.Ok B ∧ h.dep = g.dep ∧ h.scs.length = g.scs.length ∧ (h = .nil → g = .nil)
  | .nil, i, e, _ => by cases e
  | .sc s r, 0, e, ok => by
    have e : some (Tk.sc s) = some t := e
    cases e
    cases k with
    | sc _ u => exact ⟨.sc u r, rfl, ⟨o, ok.2⟩, rfl, rfl, fun h => by cases h⟩
  | .sc s r, i + 1, e, ok => by
    have e : r.toks[i]? = some t := e
    obtain ⟨h, h1, h2, h3, h4, _⟩ := tok_set k o e ok.2
    refine ⟨.sc s h, ?_, ⟨ok.1, h2⟩, h3, congrArg (· + 1) h4, fun h => by cases h⟩
    show Tk.sc s :: h.toks = Tk.sc s :: r.toks.set i t'
    rw [h1]
  | .rp n b r, 0, e, ok => by
    have e : some Tk.op = some t := e
    cases e
    cases k
  | .rp n b r, i + 1, e, ok => by
    obtain ⟨n2, nB, bn, okb, okr⟩ := ok
    have e : (b.toks ++ Tk.cl n :: r.toks)[i]? = some t := e
    by_cases c : i < b.toks.length
    · rw [List.getElem?_append_left c] at e
      obtain ⟨h, h1, h2, h3, h4, h5⟩ := tok_set k o e okb
      refine ⟨.rp n h r, ?_, ⟨n2, nB, fun z => bn (h5 z), h2, okr⟩, ?_, ?_, fun h => by cases h⟩
      · show Tk.op :: (h.toks ++ Tk.cl n :: r.toks) = Tk.op :: (b.toks ++ Tk.cl n :: r.toks).set i t'
        rw [h1, List.set_append, if_pos c]
      · show max (h.dep + 1) r.dep = max (b.dep + 1) r.dep
        rw [h3]
      · show (h.scs ++ r.scs).length = (b.scs ++ r.scs).length
        rw [List.length_append, List.length_append, h4]
    · rw [List.getElem?_append_right (by omega)] at e
      obtain ⟨j, hj⟩ : ∃ j, j = i - b.toks.length := ⟨_, rfl⟩
      rw [← hj] at e
      cases j with
      | zero =>
        have e : some (Tk.cl n) = some t := e
        cases e
        cases k with
        | cl _ m =>
          have o : 2 ≤ m ∧ m ≤ B := o
          refine ⟨.rp m b r, ?_, ⟨o.1, o.2, bn, okb, okr⟩, rfl, rfl, fun h => by cases h⟩
          show Tk.op :: (b.toks ++ Tk.cl m :: r.toks) = Tk.op :: (b.toks ++ Tk.cl n :: r.toks).set i (.cl m)
          rw [List.set_append, if_neg c, ← hj]
          rfl
      | succ j =>
        have e : r.toks[j]? = some t := e
        obtain ⟨h, h1, h2, h3, h4, h5⟩ := tok_set k o e okr
        refine ⟨.rp n b h, ?_, ⟨n2, nB, bn, okb, h2⟩, ?_, ?_, fun h => by cases h⟩
        · show Tk.op :: (b.toks ++ Tk.cl n :: h.toks) = Tk.op :: (b.toks ++ Tk.cl n :: r.toks).set i t'
          rw [h1, List.set_append, if_neg c, ← hj]
          rfl
        · show max (b.dep + 1) h.dep = max (b.dep + 1) r.dep
          rw [h3]
        · show (b.scs ++ h.scs).length = (b.scs ++ r.scs).length
          rw [List.length_append, List.length_append, h4]
/-- the program of the words with another one in a word's place -/
theorem word_set {g : Pg} (lim : Lim g) {i : Nat} {t t' : Tk} (k : Kind t t') (o : TkOk (10 ^ 30) t') (e : g.toks[i]? = some t) (ne : t'.wd ≠ t.wd) :
    ∃ h : Pg, Lim h ∧ h ≠ g ∧ h.wl = g.wl.take i ++ [t'.wd] ++ g.wl.drop (i + 1) := by
  obtain ⟨h, h1, h2, h3, h4, _⟩ := tok_set k o e lim.ok
  have li := (List.getElem?_eq_some_iff.mp e).1
  refine ⟨h, ⟨h2, by rw [h3]; exact lim.dep, by rw [h4]; exact lim.few⟩, fun z => ?_, ?_⟩
  · have e2 : (g.toks.set i t')[i]? = some t := by rw [← h1, z]; exact e
    rw [List.getElem?_set_self li] at e2
    cases e2
    exact ne rfl
  · unfold Pg.wl
    rw [h1, List.map_set, List.set_eq_take_append_cons_drop, if_pos (by rw [List.length_map]; exact li)]
    simp
theorem cut_at (vs : List V) (i : Nat) (h : i ≤ vs.length) : cutV vs none (some (i : Int)) = vs.take i := by
  unfold cutV
  rw [HT.sIx_none, HT.sIx_nat, Nat.sub_zero, List.drop_zero, Nat.min_eq_left h]
theorem cut_from (vs : List V) (i : Nat) (h : i ≤ vs.length) : cutV vs (some (i : Int)) none = vs.drop i := by
  unfold cutV
  rw [HT.sIx_none, HT.sIx_nat, Nat.min_eq_left h]
  exact List.take_of_length_le (by rw [List.length_drop]; omega)
def spOthR : Sp := fun vs H Q _ => ∃ (b a : Addr) (g : Pg), vs = [.ref b, .ref a] ∧ H b = some (bagO b) ∧ H a = some (.lst (g.wl.map V.str)) ∧ Lim g ∧ g ≠ .nil ∧ (∀ s ∈ g.scs, s.1 < 10 ^ 30) ∧ RetV (.bl true) H Q
theorem toks_scs : ∀ {g : Pg} {s : Sc}, Tk.sc s ∈ g.toks → s ∈ g.scs
  | .nil, s, h => by cases h
  | .sc t r, s, h => by
    rcases List.mem_cons.mp h with e | h
    · cases e
      exact List.mem_cons_self
    · exact List.mem_cons_of_mem _ (toks_scs h)
  | .rp n b r, s, h => by
    rcases List.mem_cons.mp h with e | h
    · cases e
    rcases List.mem_append.mp h with h | h
    · exact List.mem_append_left _ (toks_scs h)
    rcases List.mem_cons.mp h with e | h
    · cases e
    · exact List.mem_append_right _ (toks_scs h)
end Kb

namespace Kb
open PySem PySem.Spec PyProof.Rows L2 StX
theorem Can.nz : ∀ {rs : List Pc}, Can rs → ∀ p ∈ rs, p.2.2 ≠ 0
  | q :: r, c, p, hp => by
    rcases List.mem_cons.mp hp with rfl | hp
    · exact c.2.1
    · exact Can.nz c.2.2.2 p hp
theorem Sz.ofAt {m : Nat} {rs : List Pc} (c : Can rs) (b : ∀ d, 0 ≤ atP rs d ∧ atP rs d ≤ 10 ^ m) (w : ∀ d, atP rs d ≠ 0 → 1 ≤ d ∧ d ≤ 10 ^ 100) : Sz m rs := by
  have e1 : ∀ p ∈ rs, atP rs p.1 = p.2.2 := fun p hp => c.at p hp p.1 (Int.le_refl _) (c.le p hp)
  have e2 : ∀ p ∈ rs, atP rs p.2.1 = p.2.2 := fun p hp => c.at p hp p.2.1 (c.le p hp) (Int.le_refl _)
  refine ⟨c, fun p hp => ⟨(w p.1 ?_).1, c.le p hp, ?_⟩, fun p hp => (w p.2.1 ?_).2, fun p hp => ?_⟩
  · rw [e1 p hp]
    exact c.nz p hp
  · have := b p.1
    rw [e1 p hp] at this
    have := c.nz p hp
    omega
  · rw [e2 p hp]
    exact c.nz p hp
  · rw [← e1 p hp]
    exact (b p.1).2
theorem Sz.atB {m : Nat} {rs : List Pc} (S : Sz m rs) (d : Int) : 0 ≤ atP rs d ∧ atP rs d ≤ 10 ^ m := atP_bound S.can (fun p hp => ⟨by have := (S.pok p hp).2.2; omega, S.tm p hp⟩) (Int.le_of_lt (ten_pos m)) d
theorem Sz.atW {m : Nat} {rs : List Pc} (S : Sz m rs) {d : Int} (h : atP rs d ≠ 0) : 1 ≤ d ∧ d ≤ 10 ^ 100 := by
  obtain ⟨p, hp, h1, h2⟩ := atP_pos h
  have := (S.pok p hp).1
  have := S.hi p hp
  exact ⟨by omega, by omega⟩
theorem Sz.mono {m n : Nat} {rs : List Pc} (S : Sz m rs) (h : m ≤ n) : Sz n rs := ⟨S.can, S.pok, S.hi, fun p hp => Int.le_trans (S.tm p hp) (by
  have := Nat.pow_le_pow_right (show 0 < 10 by decide) h
  have e : ∀ k : Nat, ((10 : Int) ^ k) = ((10 ^ k : Nat) : Int) := fun k => by rw [Int.natCast_pow]; rfl
  rw [e, e]
  exact Int.ofNat_le.mpr this)⟩
theorem Sz.bn {m : Nat} {rs : List Pc} (S : Sz m rs) (hm : m ≤ 200) : ∀ p ∈ rs, Bn p.1 ∧ Bn p.2.1 ∧ Bn p.2.2 := fun p hp => by
  obtain ⟨a, b, c⟩ := S.pok p hp
  have d := S.hi p hp
  have e := (S.mono hm).tm p hp
  have g : (10 : Int) ^ 100 < 10 ^ 500 := by decide +kernel
  have g2 : (10 : Int) ^ 200 < 10 ^ 500 := by decide +kernel
  exact ⟨⟨by omega, by omega⟩, ⟨by omega, by omega⟩, ⟨by omega, by omega⟩⟩
theorem atP_wt' (d : Int) {ps : List Pc} (h : ∀ p ∈ ps, p.1 ≤ p.2.1) : wt (fun y => if y ≤ d then 1 else 0) ps = atP ps d := (atP_wt d h).symm
/-- flattened tells the same, whatever the times are -/
theorem Tells.at' {qs rs : List Pc} (T : Tells qs rs) (h : ∀ p ∈ qs, p.1 ≤ p.2.1) (d : Int) : atP rs d = atP qs d := by
  rw [atP_wt d T.can.le, atP_wt d h, T.wt]
def spCheckProf (C : Addr) : Sp := fun vs H Q _ => ∃ (z dz : Addr) (fs : List (Str × V)), vs = [.ref z] ∧ H z = some (.ins C dz fs) ∧ RetV .non H Q
def spCheckBet : Sp := fun vs H Q _ => ∃ i j k : Int, vs = [.int i, .int j, .int k] ∧ j ≤ i ∧ i ≤ k ∧ RetV .non H Q
def spMulP : Sp := fun vs H Q _ => ∃ (a : Addr) (ps : List Pc) (n : Int), vs = [.ref a, .int n] ∧ Pcs H a ps ∧ Val ps ∧ 0 ≤ n ∧ n ≤ 10 ^ 30 ∧ ∀ p H', H p = none → Ex H H' → Pcs H' p (mulP ps n) → Q (.ref p) H'
def spAddP (C : Addr) : Sp := fun vs H Q _ => ∃ (x y : Addr) (c c' : Int) (r1 r2 : List Pc) (m : Nat), vs = [.ref x, .ref y] ∧ Pf C H x c r1 ∧ Pf C H y c' r2 ∧ 0 ≤ c ∧ 0 ≤ c' ∧ Sz m r1 ∧ Sz m r2 ∧ m ≤ 190 ∧ r1.length + r2.length ≤ 500 ∧
  ∀ z H' rs, H z = none → Ex H H' → Pf C H' z (c + c') rs → Sz (m + 1) rs → (∀ d, atP rs d = atP r1 d + atP r2 d) → rs.length ≤ 2 * (r1.length + r2.length) → Q (.ref z) H'
def spMulPr (C : Addr) : Sp := fun vs H Q _ => ∃ (x : Addr) (c n : Int) (r : List Pc) (m : Nat), vs = [.ref x, .int n] ∧ Pf C H x c r ∧ 0 ≤ c ∧ c ≤ 10 ^ 200 ∧ Sz m r ∧ m ≤ 150 ∧ 0 ≤ n ∧ n ≤ 10 ^ 30 ∧ r.length ≤ 500 ∧
  ∀ z H' rs, H z = none → Ex H H' → Pf C H' z (c * n) rs → Sz (m + 30) rs → (∀ d, atP rs d = atP r d * n) → rs.length ≤ 2 * r.length → Q (.ref z) H'
def spShown (C : Addr) : Sp := fun vs H Q _ => ∃ (x : Addr) (c : Int) (rs : List Pc) (m : Nat), vs = [.ref x] ∧ Pf C H x c rs ∧ Bn c ∧ Sz m rs ∧ m ≤ 200 ∧ rs.length ≤ 2000 ∧ RetV (.str (pdCP c rs).shown) H Q
def spBoth : Sp := fun vs H Q _ => ∃ (a b : Addr) (gs os : List Pc), vs = [.ref a, .ref b] ∧ Pcs H a gs ∧ Pcs H b os ∧ (∀ p ∈ gs ++ os, Pok p) ∧ gs.length + os.length ≤ 1500 ∧ ∀ p H' rs, H p = none → Ex H H' → Pcs H' p rs → Can rs → (∀ d, atP rs d = atP gs d + atP os d) → Q (.ref p) H'
end Kb

namespace Kb
open PySem PySem.Spec PyProof.Rows L2 TL
/-! ### own ~ -/
def rOwnInv (C : Addr) (sp : Sp) : V → Hp → VK → Prop := fun x H Q => ∃ a dx fs, x = .ref a ∧ H a = some (.ins C dx fs) ∧ sp [x] H (fun v H' => ∃ p : Addr, v = .ref p ∧ Q (.ref p) H') E0
section
variable {X : Cx}
open StX in
theorem un_ownInv {C : Addr} {k k' : Nat} {sp : Sp} (D : DMt X.prog X.w X.K X.mg X.base C "__invert__" k ["self"] sp) (hr : Room k' X.A) (hk : k ≤ k' := by decide) : UnR X (unaryOp .Invert) (rOwnInv C sp) := by
  intro pins s σ H x v Q I rx hq
  obtain ⟨f, fd, hcl, hm, hb, Fn⟩ := D.ex
  obtain ⟨a, dx, fs, rfl, ha, q⟩ := hq
  cases (show v = Value.ref a from rx)
  obtain ⟨mA, J, _⟩ := ins_get I.hok ha
  obtain ⟨od, J, _⟩ := J.look
  obtain ⟨m, hF⟩ := I.fr
  refine PySem.W.ksp_inv hF I.ok.mod.kin J hm.at_ hm.fn ?_
  refine wpAny_mono (own_run (C := C) Fn hb (hr.mono hk) rfl I (.cons (show RelV (V.ref a) (Value.ref a) from rfl) .nil) q) (fun w' s' z => ?_) fun _ _ e => e
  obtain ⟨v', H', I', rv, p, rfl, q'⟩ := z
  cases (show w' = Value.ref p from rv)
  exact ⟨.ref p, H', I', rfl, q'⟩
end
/-! ### programs backwards and repeated -/
namespace Pg
def back : Pg → Pg
  | nil => nil
  | sc s r => r.back.app (sc (swp s) nil)
  | rp n b r => r.back.app (rp n b.back nil)
theorem back_app : ∀ a b : Pg, (a.app b).back = b.back.app a.back
  | nil, b => (app_nil b.back).symm
  | sc s r, b => by
    show (r.app b).back.app (sc (swp s) nil) = b.back.app (r.back.app (sc (swp s) nil))
    rw [back_app r b, app_assoc]
  | rp n x r, b => by
    show (r.app b).back.app (rp n x.back nil) = b.back.app (r.back.app (rp n x.back nil))
    rw [back_app r b, app_assoc]
theorem back_back : ∀ g : Pg, g.back.back = g
  | nil => rfl
  | sc s r => by
    show (r.back.app (sc (swp s) nil)).back = _
    rw [back_app, back_back r]
    rfl
  | rp n x r => by
    show (r.back.app (rp n x.back nil)).back = _
    rw [back_app, back_back r]
    show rp n x.back.back r = _
    rw [back_back x]
theorem back_ne {g : Pg} (h : g ≠ nil) : g.back ≠ nil := fun e => h (by rw [← back_back g, e]; rfl)
theorem back_dep : ∀ g : Pg, g.back.dep = g.dep
  | nil => rfl
  | sc s r => by
    show (r.back.app (sc (swp s) nil)).dep = r.dep
    rw [dep_app, back_dep r]
    show max r.dep 0 = _
    omega
  | rp n x r => by
    show (r.back.app (rp n x.back nil)).dep = max (x.dep + 1) r.dep
    rw [dep_app, back_dep r]
    show max r.dep (max (x.back.dep + 1) 0) = _
    rw [back_dep x]
    omega
theorem back_scs : ∀ g : Pg, g.back.scs.length = g.scs.length
  | nil => rfl
  | sc s r => by
    show (r.back.app (sc (swp s) nil)).scs.length = r.scs.length + 1
    rw [scs_app, List.length_append, back_scs r]
    rfl
  | rp n x r => by
    show (r.back.app (rp n x.back nil)).scs.length = (x.scs ++ r.scs).length
    rw [scs_app, List.length_append, back_scs r, List.length_append]
    show r.scs.length + (x.back.scs ++ []).length = _
    rw [List.append_nil, back_scs x, Nat.add_comm]
theorem back_toks : ∀ g : Pg, g.back.toks.length = g.toks.length
  | nil => rfl
  | sc s r => by
    show (r.back.app (sc (swp s) nil)).toks.length = r.toks.length + 1
    rw [toks_app, List.length_append, back_toks r]
    rfl
  | rp n x r => by
    show (r.back.app (rp n x.back nil)).toks.length = (x.toks ++ Tk.cl n :: r.toks).length + 1
    rw [toks_app, List.length_append, back_toks r, List.length_append, List.length_cons]
    show r.toks.length + ((x.back.toks ++ [Tk.cl n]).length + 1) = _
    rw [List.length_append, back_toks x, List.length_singleton]
    omega
theorem back_ok {B : Int} : ∀ {g : Pg}, g.Ok B → g.back.Ok B
  | nil, _ => trivial
  | sc s r, h => (back_ok h.2).app ⟨⟨h.1.2.2.1, h.1.2.2.2, h.1.1, h.1.2.1⟩, trivial⟩
  | rp n x r, h => (back_ok h.2.2.2.2).app ⟨h.1, h.2.1, back_ne h.2.2.1, back_ok h.2.2.2.1, trivial⟩
theorem last : ∀ a : Pg, a ≠ nil → (∃ (b : Pg) (s : Sc), a = b.app (sc s nil)) ∨ ∃ (b : Pg) (n : Int) (x : Pg), a = b.app (rp n x nil)
  | nil, h => (h rfl).elim
  | sc s r, _ => by
    by_cases c : r = nil
    · subst c
      exact .inl ⟨nil, s, rfl⟩
    · rcases last r c with ⟨a, t, e⟩ | ⟨a, n, x, e⟩
      · exact .inl ⟨sc s a, t, congrArg (sc s) e⟩
      · exact .inr ⟨sc s a, n, x, congrArg (sc s) e⟩
  | rp m y r, _ => by
    by_cases c : r = nil
    · subst c
      exact .inr ⟨nil, m, y, rfl⟩
    · rcases last r c with ⟨a, t, e⟩ | ⟨a, n, x, e⟩
      · exact .inl ⟨rp m y a, t, congrArg (rp m y) e⟩
      · exact .inr ⟨rp m y a, n, x, congrArg (rp m y) e⟩
theorem len_toks : ∀ g : Pg, g.len ≤ g.toks.length
  | nil => Nat.le_refl _
  | sc s r => Nat.succ_le_succ (len_toks r)
  | rp n x r => by
    show r.len + 1 ≤ (x.toks ++ Tk.cl n :: r.toks).length + 1
    have := len_toks r
    rw [List.length_append, List.length_cons]
    omega
theorem mid_toks (a x r : Pg) (n : Int) : x.toks.length < (a.app (rp n x r)).toks.length := by
  rw [toks_app, List.length_append]
  show _ < _ + ((x.toks ++ Tk.cl n :: r.toks).length + 1)
  rw [List.length_append]
  omega
theorem mid_dep (a x r : Pg) (n : Int) : x.dep < (a.app (rp n x r)).dep := by
  rw [dep_app]
  show _ < max _ (max (x.dep + 1) r.dep)
  omega
def rep (g : Pg) (n : Int) : Pg := if n = 0 then nil else if n = 1 ∨ g = nil then g else rp n g nil
theorem rep_ok {B : Int} {g : Pg} {n : Int} (h : g.Ok B) (h0 : 0 ≤ n) (h1 : n ≤ B) : (g.rep n).Ok B := by
  unfold rep
  split
  · trivial
  · split
    · exact h
    · rename_i a b
      exact ⟨by omega, h1, fun e => b (.inr e), h, trivial⟩
theorem rep_dep (g : Pg) (n : Int) : (g.rep n).dep ≤ g.dep + 1 := by
  unfold rep
  split
  · exact Nat.zero_le _
  · split
    · omega
    · show max (g.dep + 1) 0 ≤ _
      omega
theorem rep_scs (g : Pg) (n : Int) : (g.rep n).scs.length ≤ g.scs.length := by
  unfold rep
  split
  · exact Nat.zero_le _
  · split
    · exact Nat.le_refl _
    · show (g.scs ++ []).length ≤ _
      rw [List.append_nil]
      exact Nat.le_refl _
end Pg
/-! ### promises -/
def spBack (d : Nat) : Sp := fun vs H Q _ => ∃ (v : V) (g : Pg), vs = [v] ∧ IsPg H v g ∧ g.dep < d ∧ g.toks.length ≤ 2 ^ 18 ∧ ∀ p H', Ex H H' → IsPg H' (.ref p) g.back → Q (.ref p) H'
def spRepd : Sp := fun vs H Q _ => ∃ (v : V) (g : Pg) (n : Int), vs = [v, .int n] ∧ IsPg H v g ∧ ∀ v' H', Ex H H' → IsPg H' v' (g.rep n) → Q v' H'
def spProgOf (C : Addr) : Sp := fun vs H Q _ => ∃ (v : V) (g : Pg), vs = [v] ∧ IsPg H v g ∧ ∀ p H', H p = none → Ex H H' → PgAt C H' p g → Q (.ref p) H'
def spAddPg (C : Addr) : Sp := fun vs H Q _ => ∃ (x y : Addr) (g h : Pg), vs = [.ref x, .ref y] ∧ PgAt C H x g ∧ PgAt C H y h ∧ g.len + h.len ≤ 2 ^ 18 ∧ ∀ p H', H p = none → Ex H H' → PgAt C H' p (g.app h) → Q (.ref p) H'
def spMulPg (C : Addr) : Sp := fun vs H Q _ => ∃ (x : Addr) (g : Pg) (n : Int), vs = [.ref x, .int n] ∧ PgAt C H x g ∧ 0 ≤ n ∧ n ≤ 10 ^ 30 ∧ ∀ p H', H p = none → Ex H H' → PgAt C H' p (g.rep n) → Q (.ref p) H'
def spInvPg (C : Addr) : Sp := fun vs H Q _ => ∃ (x : Addr) (g : Pg), vs = [.ref x] ∧ PgAt C H x g ∧ g.dep < 12 ∧ g.toks.length ≤ 2 ^ 18 ∧ ∀ p H', H p = none → Ex H H' → PgAt C H' p g.back → Q (.ref p) H'
/-- what the law compares: not much wider than what a text may say -/
structure Wid (g : Pg) : Prop where
  ok : g.Ok (10 ^ 30)
  dep : g.dep ≤ 6
  few : g.scs.length ≤ 52
theorem Wid.toks {g : Pg} (h : Wid g) : g.toks.length ≤ 676 := by
  have := toks_len h.ok
  have a := Nat.mul_le_mul (show 2 * g.dep + 1 ≤ 13 by have := h.dep; omega) h.few
  omega
theorem Wid.med {g : Pg} (h : Wid g) : Med g := ⟨h.ok.mono (by decide +kernel), by have := h.dep; omega, by have := h.toks; omega⟩
theorem Wid.back {g : Pg} (h : Wid g) : Wid g.back := ⟨Pg.back_ok h.ok, by rw [Pg.back_dep]; exact h.dep, by rw [Pg.back_scs]; exact h.few⟩
theorem Lim.wid {g : Pg} (h : Lim g) : Wid g := ⟨h.ok, by have := h.dep; omega, by have := h.few; omega⟩
theorem Wid.rep {g : Pg} (h : Lim g) {n : Int} (h0 : 0 ≤ n) (h1 : n ≤ 10 ^ 30) : Wid (g.rep n) := ⟨Pg.rep_ok h.ok h0 h1, by have := Pg.rep_dep g n; have := h.dep; omega, by have := Pg.rep_scs g n; have := h.few; omega⟩
theorem Wid.app {g h : Pg} (a : Lim g) (b : Lim h) (l : h.scs.length ≤ 12 ∨ g.scs.length ≤ 12) : Wid (g.app h) := ⟨a.ok.app b.ok, by rw [Pg.dep_app]; have := a.dep; have := b.dep; omega, by
  rw [Pg.scs_app, List.length_append]
  have := a.few
  have := b.few
  omega⟩
def spLBack : Sp := fun vs H Q _ => ∃ (a : Addr) (g : Pg), vs = [.ref a] ∧ H a = some (.lst (g.wl.map V.str)) ∧ Med g ∧ ∀ p H', Ex H H' → H' p = some (.lst (g.back.wl.map V.str)) → Q (.ref p) H'
def spLOften : Sp := fun vs H Q _ => ∃ (a : Addr) (g : Pg) (n : Int), vs = [.ref a, .int n] ∧ H a = some (.lst (g.wl.map V.str)) ∧ Med g ∧ 0 ≤ n ∧ n ≤ 10 ^ 30 ∧ ∀ p H', Ex H H' → H' p = some (.lst ((g.rep n).wl.map V.str)) → Q (.ref p) H'
def spLDepth : Sp := fun vs H Q _ => ∃ (a : Addr) (g : Pg), vs = [.ref a] ∧ H a = some (.lst (g.wl.map V.str)) ∧ Med g ∧ RetV (.int g.dep) H Q
def spLIs (C : Addr) : Sp := fun vs H Q _ => ∃ (x a : Addr) (g : Pg), vs = [.ref x, .ref a] ∧ PgAt C H x g ∧ H a = some (.lst (g.wl.map V.str)) ∧ Wid g ∧ RetV (.bl true) H Q
/-- few scans, few brackets -/
structure Few (g : Pg) : Prop where
  ok : g.Ok (10 ^ 30)
  dep : g.dep ≤ 2
  few : g.scs.length ≤ 12
theorem Few.lim {g : Pg} (h : Few g) : Lim g := ⟨h.ok, by have := h.dep; omega, by have := h.few; omega⟩
def spRight9 : Sp := fun vs H Q _ => ∃ (b a c : Addr) (g h : Pg), vs = [.ref b, .ref a, .ref c] ∧ H b = some (bagO b) ∧ H a = some (.lst (g.wl.map V.str)) ∧ H c = some (.lst (h.wl.map V.str)) ∧ Few g ∧ Few h ∧ RetV (.bl true) H Q
/-! ### how deep words are -/
def dpS : Tk → Int × Int → Int × Int
  | .op, (o, f) => (o + 1, max f (o + 1))
  | .cl _, (o, f) => (o - 1, max f (o - 1))
  | .sc _, (o, f) => (o, max f o)
def dpR : List Tk → Int × Int → Int × Int
  | [], u => u
  | t :: r, u => dpR r (dpS t u)
theorem dpR_app : ∀ (a b : List Tk) (u : Int × Int), dpR (a ++ b) u = dpR b (dpR a u)
  | [], _, _ => rfl
  | t :: r, b, u => dpR_app r b (dpS t u)
theorem dpR_toks : ∀ (g : Pg) (o f : Int), o ≤ f → dpR g.toks (o, f) = (o, max f (o + (g.dep : Int)))
  | .nil, o, f, h => by
    show (o, f) = (o, max f (o + ((0 : Nat) : Int)))
    rw [show max f (o + ((0 : Nat) : Int)) = f by omega]
  | .sc s r, o, f, h => by
    show dpR r.toks (o, max f o) = (o, max f (o + (r.dep : Int)))
    rw [show max f o = f by omega]
    exact dpR_toks r o f h
  | .rp n x r, o, f, h => by
    show dpR (x.toks ++ Tk.cl n :: r.toks) (o + 1, max f (o + 1)) = (o, max f (o + ((max (x.dep + 1) r.dep : Nat) : Int)))
    rw [dpR_app, dpR_toks x _ _ (by omega)]
    show dpR r.toks (o + 1 - 1, max (max (max f (o + 1)) (o + 1 + (x.dep : Int))) (o + 1 - 1)) = _
    rw [show o + 1 - 1 = o by omega, dpR_toks r _ _ (by omega)]
    congr 1
    omega
theorem shaped_R {B : Int} {g : Pg} (ok : g.Ok B) : SeqAt.shaped (pdR g) = true := by
  have so : PyData.strOk (txt g) = true := by
    unfold PyData.strOk
    rw [all_tl]
    refine List.all_eq_true.mpr fun c hc => ?_
    have := txt_chars ok c hc
    exact decide_eq_true (by omega)
  have h : PyData.canLayAll0 (g.scs.map pdS) = true ∧ PyData.depthAll (g.scs.map pdS) ≤ 1 := by
    generalize g.scs = ss
    induction ss with
    | nil => exact ⟨rfl, Nat.zero_le _⟩
    | cons s r ih =>
      refine ⟨?_, ?_⟩
      · show (PyData.canLay0 (pdS s) && PyData.canLayAll0 (r.map pdS)) = true
        rw [ih.1]
        rfl
      · show max (PyData.depth (pdS s)) (PyData.depthAll (r.map pdS)) ≤ 1
        have : PyData.depth (pdS s) = 1 := rfl
        have := ih.2
        omega
  show ((PyData.strOk (txt g) && (PyData.canLayAll0 (g.scs.map pdS) && (true && true))) && decide (max 0 (max (PyData.depthAll (g.scs.map pdS) + 1) (max 0 0)) + 1 ≤ 64)) = true
  rw [so, h.1, decide_eq_true (by have := h.2; omega)]
  rfl
theorem eqv_R (g : Pg) : PyData.eqv (pdR g) (pdR g) = true := by
  have h : PyData.eqv (pdL g.scs) (pdL g.scs) = true := by
    rw [eqv_L]
    exact decide_eq_true rfl
  show ((txt g == txt g) && (PyData.eqv (pdL g.scs) (pdL g.scs) && ((g.cnt == g.cnt) && true))) = true
  rw [h, beq_self_eq_true, beq_self_eq_true]
  rfl
end Kb

namespace Kb
open PySem PySem.Spec PyProof.Rows L2 TL
theorem wl_len (g : Pg) : g.wl.length = g.toks.length := List.length_map _
theorem pow_bits {B : Int} (hB : BB B) {k : Nat} : (B + 1) ^ k ≤ 2 ^ (400 * k) := by
  obtain ⟨h0, h1⟩ := hB
  induction k with
  | zero => simp
  | succ k ih =>
    rw [Int.pow_succ, Nat.mul_succ, Int.pow_add]
    exact Int.mul_le_mul ih h1 (by omega) (by have := Int.pow_pos (n := 2) (m := 400 * k) (by decide); omega)
theorem cnt_bits {B : Int} {g : Pg} {d : Nat} (hB : BB B) (h : g.Ok B) (hd : g.dep < d) (few : g.scs.length ≤ 2 ^ 18) : 0 ≤ g.cnt ∧ g.cnt < 2 ^ (400 * d + 20) := by
  have a := Pg.cnt_nn h
  have b := Pg.cnt_le (k := d - 1) hB.1 h (by omega)
  rw [show d - 1 + 1 = d by omega] at b
  have c := pow_bits hB (k := d)
  have p := Int.pow_pos (n := 2) (m := 400 * d) (by decide)
  have m := Int.mul_le_mul (show (g.scs.length : Int) ≤ 2 ^ 18 by omega) c (by have := Int.pow_pos (n := B + 1) (m := d) (by have := hB.1; omega); omega) (by decide)
  refine ⟨a, ?_⟩
  rw [Int.pow_add]
  omega
theorem abs_lt {n : Int} {k : Nat} (h0 : 0 ≤ n) (h : n < 2 ^ k) : n.natAbs < 2 ^ k := by
  have e : ((2 : Int) ^ k) = ((2 ^ k : Nat) : Int) := by simp
  omega
theorem size64' {n : Nat} (h : n ≤ 2 ^ 20) : n ≤ sizeLine := Nat.le_of_lt (small20 h)
theorem drw_sc {deep m : Int} {g : Pg} {s : Sc} (ok : g.Ok (10 ^ 30)) (s1 : SOk (10 ^ 30) s) : (g.app (.sc s .nil)).Ok (10 ^ 30) := ok.app ⟨s1, trivial⟩
theorem sign40 : (Str.ofString "()").cps.toList = [40, 41] := by decide +kernel
theorem cntV_rev (b : Pg) (st : List Pg) : ((b :: st).map fun g => V.int g.cnt).reverse = (st.map fun g => V.int g.cnt).reverse ++ [V.int b.cnt] := by
  rw [List.map_cons, List.reverse_cons]
theorem bb63 : BB (10 ^ 63) := ⟨by decide +kernel, by decide +kernel⟩
theorem back_len : ∀ g : Pg, g.back.len = g.len
  | .nil => rfl
  | .sc s r => by
    show (r.back.app (.sc (swp s) .nil)).len = r.len + 1
    rw [Pg.len_app, back_len r]
    rfl
  | .rp n x r => by
    show (r.back.app (.rp n x.back .nil)).len = r.len + 1
    rw [Pg.len_app, back_len r]
    rfl
theorem lim_nil : Lim .nil := ⟨trivial, Nat.zero_le _, Nat.zero_le _⟩
theorem txt_none : Str.ofString "" = txt .nil := by decide +kernel
def BkAt (H : Hp) (p : Addr) (v : V) (g : Pg) : Prop := ∃ r, v = .ref r ∧ r ≠ p ∧ H r = some (.lst (g.back.wl.map V.str))
theorem Bk.mono {H H' : Hp} {p : Addr} (e : Ex H H') : ∀ {vs : List V} {gs : List Pg}, Paired (BkAt H p) vs gs → Paired (BkAt H' p) vs gs
  | _, _, .nil => .nil
  | _, _, .cons ⟨r, h1, h2, h3⟩ t => .cons ⟨r, h1, h2, e _ _ h3⟩ (Bk.mono e t)
theorem Bk.mut {H : Hp} {p : Addr} {o : HO} : ∀ {vs : List V} {gs : List Pg}, Paired (BkAt H p) vs gs → Paired (BkAt (upd H p o) p) vs gs
  | _, _, .nil => .nil
  | _, _, .cons ⟨r, h1, h2, h3⟩ t => .cons ⟨r, h1, h2, by rw [upd_ne h2]; exact h3⟩ (Bk.mut t)
theorem Pq.cons {R : V → Pg → Prop} {vs : List V} {g : Pg} {gs : List Pg} (h : Paired R vs (g :: gs)) : ∃ v us, vs = v :: us ∧ R v g ∧ Paired R us gs := by
  cases h with
  | cons h t => exact ⟨_, _, rfl, h, t⟩
theorem Pq.len {R : V → Pg → Prop} {vs : List V} {gs : List Pg} (h : Paired R vs gs) : vs.length = gs.length := by
  induction h with
  | nil => rfl
  | cons _ _ ih => exact congrArg (· + 1) ih
def pdW (g : Pg) : PyData := .list (g.wl.map PyData.str)
theorem dpW {K : PySem.W.Frag} {H : Hp} {a : Addr} {g : Pg} (h : H a = some (.lst (g.wl.map V.str))) : Dp K H (.ref a) (pdW g) := by
  have all : ∀ ws : List Str, DpAll K H (ws.map V.str) (ws.map PyData.str) := by
    intro ws
    induction ws with
    | nil => exact .nil
    | cons w r ih => exact .cons (.str w) ih
  exact .lst (SqL.of h) (all g.wl)
theorem shaped_W {B : Int} {g : Pg} (ok : g.Ok B) : SeqAt.shaped (pdW g) = true := by
  have go : ∀ ws : List Str, (∀ w ∈ ws, PyData.strOk w = true) → PyData.canLayAll0 (ws.map PyData.str) = true ∧ PyData.depthAll (ws.map PyData.str) ≤ 1 := by
    intro ws
    induction ws with
    | nil => exact fun _ => ⟨rfl, Nat.zero_le _⟩
    | cons w r ih =>
      intro h
      obtain ⟨i1, i2⟩ := ih fun x hx => h x (List.mem_cons_of_mem _ hx)
      refine ⟨?_, ?_⟩
      · show (PyData.strOk w && PyData.canLayAll0 (r.map PyData.str)) = true
        rw [h w List.mem_cons_self, i1]
        rfl
      · show max 0 (PyData.depthAll (r.map PyData.str)) ≤ 1
        omega
  obtain ⟨h1, h2⟩ := go g.wl fun w hw => by
    obtain ⟨t, ht, rfl⟩ := List.mem_map.mp hw
    unfold PyData.strOk
    rw [all_tl]
    refine List.all_eq_true.mpr fun c hc => ?_
    have := wd_chars (toks_ok ok t ht) c hc
    exact decide_eq_true (by omega)
  show (PyData.canLayAll0 (g.wl.map PyData.str) && decide (PyData.depthAll (g.wl.map PyData.str) + 1 ≤ 64)) = true
  rw [h1, decide_eq_true (by omega)]
  rfl
theorem eqv_W (g : Pg) : PyData.eqv (pdW g) (.list []) = decide (g = .nil) := by
  cases g with
  | nil => rfl
  | sc s r => exact (decide_eq_false (by intro z; cases z)).symm
  | rp n b r => exact (decide_eq_false (by intro z; cases z)).symm
/-! ### programs as the laws draw them: tuples of words in lists -/
def scanW : Str := "scan"
def againW : Str := "again"
/-- the items of a list of nodes; its inner lists are of the kind N -/
def ItsQ (N : Addr → Prop) (H : Hp) : Pg → List V → Prop
  | .nil, vs => vs = []
  | .sc s r, vs => ∃ t us, vs = .ref t :: us ∧ H t = some (.tup [.str scanW, .int s.1, .int s.2]) ∧ ItsQ N H r us
  | .rp n b r, vs => ∃ t l bs us, vs = .ref t :: us ∧ H t = some (.tup [.str againW, .ref l, .int n]) ∧ N l ∧ H l = some (.lst bs) ∧ ItsQ N H b bs ∧ ItsQ N H r us
def IsQ (N : Addr → Prop) (H : Hp) (a : Addr) (g : Pg) : Prop := ∃ vs, H a = some (.lst vs) ∧ ItsQ N H g vs
abbrev Any : Addr → Prop := fun _ => True
theorem ItsQ.nx {N M : Addr → Prop} {H H' : Hp} (e : Nx H H') (im : ∀ l, N l → M l) : ∀ {g : Pg} {vs : List V}, ItsQ N H g vs → ItsQ M H' g vs
  | .nil, _, h => h
  | .sc s r, _, ⟨t, us, e1, h1, h2⟩ => ⟨t, us, e1, e.at h1, h2.nx e im⟩
  | .rp n b r, _, ⟨t, l, bs, us, e1, h1, n1, h2, h3, h4⟩ => ⟨t, l, bs, us, e1, e.at h1, im l n1, e.at h2, h3.nx e im, h4.nx e im⟩
theorem ItsQ.ex {N : Addr → Prop} {H H' : Hp} (e : Ex H H') {g : Pg} {vs : List V} (h : ItsQ N H g vs) : ItsQ N H' g vs := h.nx e.nx fun _ => id
theorem IsQ.nx {N M : Addr → Prop} {H H' : Hp} {a : Addr} {g : Pg} (e : Nx H H') (im : ∀ l, N l → M l) (h : IsQ N H a g) : IsQ M H' a g := by
  obtain ⟨vs, h1, h2⟩ := h
  exact ⟨vs, e.at h1, h2.nx e im⟩
theorem ItsQ.mut {N : Addr → Prop} {H : Hp} {p : Addr} {xs : List V} {o : HO} (hp : H p = some (.lst xs)) (np : ∀ l, N l → l ≠ p) : ∀ {g : Pg} {vs : List V}, ItsQ N H g vs → ItsQ N (upd H p o) g vs
  | .nil, _, h => h
  | .sc s r, _, ⟨t, us, e1, h1, h2⟩ => ⟨t, us, e1, (Kp.lst hp) _ _ h1, h2.mut hp np⟩
  | .rp n b r, _, ⟨t, l, bs, us, e1, h1, n1, h2, h3, h4⟩ => ⟨t, l, bs, us, e1, (Kp.lst hp) _ _ h1, n1, by rw [upd_ne (np l n1)]; exact h2, h3.mut hp np, h4.mut hp np⟩
theorem ItsQ.len {N : Addr → Prop} {H : Hp} : ∀ {g : Pg} {vs : List V}, ItsQ N H g vs → vs.length = g.len
  | .nil, _, h => by rw [show _ = [] from h]; rfl
  | .sc s r, _, ⟨t, us, e, h, k⟩ => by rw [e, List.length_cons, k.len]; rfl
  | .rp n b r, _, ⟨t, l, bs, us, e, h1, _, h2, h3, h4⟩ => by rw [e, List.length_cons, h4.len]; rfl
theorem ItsQ.app {N : Addr → Prop} {H : Hp} : ∀ {a b : Pg} {vs us : List V}, ItsQ N H a vs → ItsQ N H b us → ItsQ N H (a.app b) (vs ++ us)
  | .nil, b, vs, us, h, k => by
    rw [show vs = [] from h]
    exact k
  | .sc s r, b, _, us, ⟨t, ws, e, h, k⟩, k' => ⟨t, ws ++ us, by rw [e]; rfl, h, k.app k'⟩
  | .rp n x r, b, _, us, ⟨t, l, bs, ws, e, h1, n1, h2, h3, h4⟩, k => ⟨t, l, bs, ws ++ us, by rw [e]; rfl, h1, n1, h2, h3, h4.app k⟩
/-- the node with an index, what is ahead of it and what is behind it -/
theorem ItsQ.get {N : Addr → Prop} {H : Hp} {v : V} {b : Pg} : ∀ {a : Pg} {vs : List V}, ItsQ N H (a.app b) vs → vs[a.len]? = some v →
    (∃ s r t, b = .sc s r ∧ v = .ref t ∧ H t = some (.tup [.str scanW, .int s.1, .int s.2])) ∨ ∃ n x r t l bs, b = .rp n x r ∧ v = .ref t ∧ H t = some (.tup [.str againW, .ref l, .int n]) ∧ N l ∧ H l = some (.lst bs) ∧ ItsQ N H x bs
  | .nil, vs, h, e => by
    have h : ItsQ N H b vs := h
    have e : vs[0]? = some v := e
    cases b with
    | nil =>
      rw [show vs = [] from h] at e
      cases e
    | sc s r =>
      obtain ⟨t, us, rfl, h1, _⟩ := h
      cases e
      exact .inl ⟨s, r, t, rfl, rfl, h1⟩
    | rp n x r =>
      obtain ⟨t, l, bs, us, rfl, h1, n1, h2, h3, _⟩ := h
      cases e
      exact .inr ⟨n, x, r, t, l, bs, rfl, rfl, h1, n1, h2, h3⟩
  | .sc s r, _, ⟨t, us, e1, h, k⟩, e => by
    subst e1
    exact ItsQ.get (a := r) k e
  | .rp n x r, _, ⟨t, l, bs, us, e1, h1, _, h2, h3, h4⟩, e => by
    subst e1
    exact ItsQ.get (a := r) h4 e
theorem ItsQ.done {N : Addr → Prop} {H : Hp} {a b : Pg} {vs : List V} (h : ItsQ N H (a.app b) vs) (e : a.len = vs.length) : b = .nil := by
  have := h.len
  rw [Pg.len_app] at this
  exact Pg.len_zero (by omega)
def nodeK (M : Nat) : Nat → Nat
  | 0 => 1
  | d + 1 => 1 + M * (nodeK M d + 4)
/-- what the laws draw -/
structure Dwn (deep most wide : Int) (g : Pg) : Prop where
  ok : g.Ok (10 ^ 30)
  lt : ∀ s ∈ g.scs, s.1 < wide ∧ s.2 < wide
  dep : (g.dep : Int) ≤ deep
  few : (g.scs.length : Int) ≤ most
  one : 1 ≤ g.scs.length
def spNodes (d : Nat) : Sp := fun vs H Q _ => ∃ (b : Addr) (most deep wide high : Int) (M n : Nat), vs = [.ref b, .int most, .int deep, .int wide, .int high] ∧ Pd H b n ∧ 1 ≤ most ∧ most ≤ M ∧ M ≤ 1000 ∧ n + nodeK M d ≤ 2 ^ 50 ∧ 0 ≤ deep ∧ deep < d ∧ d ≤ 10 ∧ 1 ≤ wide ∧ wide ≤ 10 ^ 30 ∧ 1 ≤ high ∧ high + 1 ≤ 10 ^ 30 ∧
  ∀ p H' g, H p = none → Nx H H' → Pd H' b (n + nodeK M d) → IsQ (fun l => H l = none) H' p g → Dwn deep most wide g → Q (.ref p) H'
def spNScans (d : Nat) : Sp := fun vs H Q _ => ∃ (a : Addr) (g : Pg), vs = [.ref a] ∧ IsQ Any H a g ∧ g.dep < d ∧ g.scs.length ≤ 2 ^ 18 ∧ ∀ p H' us, H p = none → Ex H H' → H' p = some (.lst us) → us.length = g.scs.length → Q (.ref p) H'
def spNLen (d : Nat) : Sp := fun vs H Q _ => ∃ (a : Addr) (g : Pg) (B : Int), vs = [.ref a] ∧ IsQ Any H a g ∧ g.dep < d ∧ d ≤ 100 ∧ BB B ∧ g.Ok B ∧ g.scs.length ≤ 2 ^ 18 ∧ RetV (.int g.cnt) H Q
def spNWords (d : Nat) : Sp := fun vs H Q _ => ∃ (a : Addr) (g : Pg), vs = [.ref a] ∧ IsQ Any H a g ∧ g.dep < d ∧ g.Ok (10 ^ 30) ∧ g.toks.length ≤ 2 ^ 18 ∧ ∀ p H', Ex H H' → H' p = some (.lst (g.wl.map V.str)) → Q (.ref p) H'
end Kb

namespace Kb
open PySem PySem.Spec PyProof.Rows L2 TL
/-! ### what a program reads -/
def adr (s : Sc) (p : Int) : Int := if s.1 ≤ s.2 then s.1 + p else s.1 - p
def rdS (s : Sc) : List Int := (List.range (slen s).toNat).map fun (j : Nat) => adr s (j : Int)
def Pg.rd : Pg → List Int
  | .nil => []
  | .sc s r => rdS s ++ r.rd
  | .rp n b r => (List.replicate n.toNat b.rd).flatten ++ r.rd
theorem rdS_len (s : Sc) : ((rdS s).length : Int) = slen s := by
  unfold rdS
  rw [List.length_map, List.length_range]
  have := slen_pos s
  omega
theorem rd_app : ∀ a b : Pg, (a.app b).rd = a.rd ++ b.rd
  | .nil, _ => rfl
  | .sc s r, b => by
    show rdS s ++ (r.app b).rd = rdS s ++ r.rd ++ b.rd
    rw [rd_app r b, List.append_assoc]
  | .rp n x r, b => by
    show _ ++ (r.app b).rd = _ ++ r.rd ++ b.rd
    rw [rd_app r b, List.append_assoc]
theorem flat_len (n : Nat) (l : List Int) : ((List.replicate n l).flatten).length = n * l.length := by
  rw [List.length_flatten, List.map_replicate, List.sum_replicate_nat]
theorem prd_len : ∀ {B : Int} {g : Pg}, g.Ok B → (g.rd.length : Int) = g.cnt
  | _, .nil, _ => rfl
  | B, .sc s r, h => by
    show ((rdS s ++ r.rd).length : Int) = slen s + r.cnt
    rw [List.length_append, Int.natCast_add, rdS_len, prd_len h.2]
  | B, .rp n x r, h => by
    show (((List.replicate n.toNat x.rd).flatten ++ r.rd).length : Int) = n * x.cnt + r.cnt
    rw [List.length_append, Int.natCast_add, flat_len, Int.natCast_mul, prd_len h.2.2.2.1, prd_len h.2.2.2.2]
    have : (n.toNat : Int) = n := by have := h.1; omega
    rw [this]
theorem flat_get {n : Nat} {l : List Int} {i : Nat} (h : i < n * l.length) : ((List.replicate n l).flatten)[i]? = l[i % l.length]? := by
  induction n generalizing i with
  | zero => omega
  | succ n ih =>
    rw [List.replicate_succ, List.flatten_cons]
    by_cases c : i < l.length
    · rw [List.getElem?_append_left c, Nat.mod_eq_of_lt c]
    · rw [List.getElem?_append_right (by omega), ih (by rw [Nat.succ_mul] at h; omega)]
      congr 1
      exact (Nat.mod_eq_sub_mod (by omega)).symm
theorem rdS_get {s : Sc} {p : Int} (h0 : 0 ≤ p) (h1 : p < slen s) : (rdS s)[p.toNat]? = some (adr s p) := by
  unfold rdS
  rw [List.getElem?_map, List.getElem?_range (by omega)]
  show some (adr s ((p.toNat : Nat) : Int)) = _
  rw [Int.toNat_of_nonneg h0]
theorem adr_bound {B : Int} {s : Sc} (h : SOk B s) {p : Int} (h0 : 0 ≤ p) (h1 : p < slen s) : 0 ≤ adr s p ∧ adr s p ≤ B := by
  obtain ⟨a, b, c, d⟩ := h
  unfold slen at h1
  unfold adr
  split <;> split at h1 <;> omega
theorem rd_bound : ∀ {B : Int} {g : Pg}, g.Ok B → ∀ z ∈ g.rd, 0 ≤ z ∧ z ≤ B
  | _, .nil, _, z, h => by cases h
  | B, .sc s r, h, z, m => by
    rcases List.mem_append.mp m with m | m
    · obtain ⟨j, hj, rfl⟩ := List.mem_map.mp m
      have := List.mem_range.mp hj
      exact adr_bound h.1 (by omega) (by omega)
    · exact rd_bound h.2 z m
  | B, .rp n x r, h, z, m => by
    rcases List.mem_append.mp m with m | m
    · obtain ⟨l, hl, m⟩ := List.mem_flatten.mp m
      rw [(List.mem_replicate.mp hl).2] at m
      exact rd_bound h.2.2.2.1 z m
    · exact rd_bound h.2.2.2.2 z m
/-- the part of a list of nodes -/
theorem ItsQ.split {N : Addr → Prop} {H : Hp} : ∀ {a b : Pg} {vs : List V}, ItsQ N H (a.app b) vs → ItsQ N H a (vs.take a.len) ∧ ItsQ N H b (vs.drop a.len)
  | .nil, b, vs, h => ⟨rfl, h⟩
  | .sc s r, b, _, ⟨t, us, e, h1, h2⟩ => by
    subst e
    obtain ⟨k1, k2⟩ := ItsQ.split (a := r) h2
    exact ⟨⟨t, us.take r.len, rfl, h1, k1⟩, k2⟩
  | .rp n x r, b, _, ⟨t, l, bs, us, e, h1, n1, h2, h3, h4⟩ => by
    subst e
    obtain ⟨k1, k2⟩ := ItsQ.split (a := r) h4
    exact ⟨⟨t, l, bs, us.take r.len, rfl, h1, n1, h2, h3, k1⟩, k2⟩
/-! ### promises -/
def spReadAll (d : Nat) : Sp := fun vs H Q _ => ∃ (v : V) (g : Pg) (B : Int), vs = [v] ∧ IsPg H v g ∧ g.dep < d ∧ g.Ok B ∧ g.cnt ≤ 2 ^ 20 ∧ ∀ p H', H p = none → Ex H H' → H' p = some (.lst (g.rd.map V.int)) → Q (.ref p) H'
def spAccAt (d : Nat) : Sp := fun vs H Q _ => ∃ (v : V) (g : Pg) (B : Int) (i z : Int), vs = [v, .int i] ∧ IsPg H v g ∧ g.dep < d ∧ d ≤ 60 ∧ BB B ∧ g.Ok B ∧ g.scs.length ≤ 2 ^ 18 ∧ 0 ≤ i ∧ g.rd[i.toNat]? = some z ∧ RetV (.int z) H Q
def spNReads (d : Nat) : Sp := fun vs H Q _ => ∃ (a : Addr) (g : Pg) (B : Int), vs = [.ref a] ∧ IsQ Any H a g ∧ g.dep < d ∧ g.Ok B ∧ g.cnt ≤ 2 ^ 20 ∧ ∀ p H', Ex H H' → H' p = some (.lst (g.rd.map V.int)) → H p = none → Q (.ref p) H'
def spSmall : Sp := fun vs H Q _ => ∃ (b : Addr) (most deep wide limit : Int) (n : Nat), vs = [.ref b, .int most, .int deep, .int wide, .int limit] ∧ Pd H b n ∧ 1 ≤ most ∧ most ≤ 100 ∧ n ≤ 2 ^ 45 ∧ 0 ≤ deep ∧ deep ≤ 3 ∧ 1 ≤ wide ∧ wide ≤ 10 ^ 29 ∧ 4 ≤ limit ∧
  ∀ p H' g, Nx H H' → Pd H' b (n + 2 ^ 40) → IsQ Any H' p g → Dwn deep most wide g → g.cnt ≤ limit → Q (.ref p) H'
def spMade (C : Addr) : Sp := fun vs H Q _ => ∃ (a : Addr) (g : Pg), vs = [.ref a] ∧ IsQ Any H a g ∧ Lim g ∧ ∀ p H', H p = none → Ex H H' → PgAt C H' p g → Q (.ref p) H'
end Kb

namespace PySem
open Sem (wp)
open Builtin Builtin.Str
theorem meets_enumerate_newB1 {v : Value} {o : Obj} {H : Heap → Prop} (B : Begins v o H) :
    Meets (Builtin.«enumerate.__new__» ⟨[.type "enumerate", v], []⟩) (fun _ R s => H s.heap ∧
      R (.ok (.ret (.ref (s.heap.push o).objs.size))) { s with heap := (s.heap.push o).push { cls := .type "enumerate", data := .fields #[.none, .bool false, .ref s.heap.objs.size, rawInt 0, .none, .none] } }) :=
  .of_wp fun prog w A R s h => by
    obtain ⟨hp, g, d, tk, os⟩ := s; obtain ⟨h1, h⟩ := h
    have hsub := sub_enumerate
    have q1 : ∀ {A' : Around} {E : Value → Shared → Prop} {Q : Value → Shared → Prop}, Q (.ref hp.objs.size) ⟨hp.push o, g, d, tk, os⟩ → wpAny (model prog w) A' (pyIter v) Q E ⟨hp, g, d, tk, os⟩ :=
      fun q => B.iter prog w _ _ ⟨hp, g, d, tk, os⟩ _ h1 q
    wp_walk using q1
    refine wpAny_stack_any fun st => wpAny_pure ?_
    split
    · rename_i c _ _ _ _ _
      cases (c == Value.type "enumerate")
      · wp_walk using q1
        exact ⟨_, rfl, h⟩
      · wp_walk using q1
        exact ⟨_, rfl, h⟩
    · wp_walk using q1
      exact ⟨_, rfl, h⟩
section
variable {prog : Program} {w : World} {A : Around} {E : Value → Shared → Prop} {s : Shared}
theorem enum_begins1 {v : Value} {o : Obj} {H : Heap → Prop} {Q : Value → Shared → Prop} (B : Begins v o H) (h1 : H s.heap)
    (h : ∀ h', IsEnum h' (s.heap.objs.size + 1) s.heap.objs.size 0 .none → h'.get? s.heap.objs.size = some o → h'.objs.size = s.heap.objs.size + 2 →
      (∀ b o, s.heap.get? b = some o → h'.get? b = some o) → Q (.ref (s.heap.objs.size + 1)) { s with heap := h' }) :
    wpAny (model prog w) A (call (.type "enumerate") [v]) Q E s := by
  refine callType_new F.called_enumerate (by decide) (F.typeCall_enumerate_1 _) (F.newCall_enumerate_1 _) (fun obj => F.args_object_init_2 obj _) F.entry_enumerate_new
    (meets_enumerate_newB1 B) ⟨h1, ?_⟩
  have hz : (s.heap.push o).objs.size = s.heap.objs.size + 1 := Heap.size_push ..
  show _ ∧ _
  rw [hz]
  have he : IsEnum ((s.heap.push o).push { cls := .type "enumerate", data := .fields #[.none, .bool false, .ref s.heap.objs.size, rawInt 0, .none, .none] }) (s.heap.objs.size + 1) s.heap.objs.size 0 .none := by
    have := Heap.get?_push_size (s.heap.push o) (o := { cls := .type "enumerate", data := .fields #[.none, .bool false, .ref s.heap.objs.size, rawInt 0, .none, .none] }) rfl
    rw [hz] at this; exact this
  refine ⟨⟨_, he, rfl⟩, h _ he (Heap.get?_push_of_some _ (Heap.get?_push_size _ B.free)) (by rw [Heap.size_push, hz]) fun b o x => Heap.get?_push_of_some _ (Heap.get?_push_of_some _ x)⟩
theorem pyNext_enumT_end {e it t : Addr} {i : Nat} {items : Array Value} {c : Int} {old : Value} {Q : Option Value → Shared → Prop} (hh : A.handled = none) (he : IsEnum s.heap e it c old) (hit : s.heap.IsTupleIter it t i) (ht : s.heap.IsTuple t items) (hx : items[i]? = none)
    (hQ : ∀ h', Heap.ExtBut it s.heap h' → Q none { s with heap := h' }) : wpAny (model prog w) A (pyNext (.ref e)) Q E s := by
  have hT : s.TypeIs (.ref e) "enumerate" := ⟨_, he, rfl⟩
  unfold pyNext
  refine wpAny_bind (wpAny_attempt (wpAny_callSpecial?_slot (name := Str.ofString "__next__") hT F.slot_enumerate_next
    (wpAny_call_entry F.slot_enumerate_next hT F.entry_enumerate_next ?_ (F.args_enumerate_next_1 _))))
  show wpAny _ _ (field (.ref e) 2 >>= _) _ _ _
  refine wpAny_bind (wpAny_field he rfl (x := .ref it) rfl ?_)
  refine wpAny_bind (wpAny_nextOf_tuple_end (show A.in1.handled = none from hh) hit ht hx fun h' x he' hx' => ?_)
  obtain ⟨o, ho, hc⟩ := hx'
  refine wpAny_bind (wpAny_isInstance (T := "StopIteration") (b := true) ⟨o, ho, hc⟩ isSubtype_stop ?_)
  exact wpAny_pure (hQ _ he')
end
end PySem
namespace Kb
open PySem PySem.Spec PyProof.Rows L2 StX
/-! ### enumerate(tuple) -/
def IteT (K : PySem.W.Frag) (a : Addr) : It :=
  ⟨fun i H => ∃ (xs : List V) (x : V), SqT K H a xs ∧ xs[i]? = some x, fun i H v H' => ∃ T x, v = .ref T ∧ H T = none ∧ H' = upd H T (.tup [.int (i : Nat), x]) ∧ ∀ xs, SqT K H a xs → xs[i]? = some x, fun i H => ∃ xs : List V, SqT K H a xs ∧ xs.length ≤ i⟩
theorem turn_enumT {P : Program} {w : World} {K : PySem.W.Frag} {elts : List Expr} {kk : Nat} {tpos : Pos} (a e it : Addr) :
    Turn P w K (.Tuple elts kk tpos) (IteT K a) [e, it] e (fun i h => (∃ old, IsEnum h e it ((i : Nat) : Int) old) ∧ h.IsTupleIter it a i ∧ e ≠ it) where
  mem := by simp
  obj := fun i h st b hb => by
    obtain ⟨⟨old, he⟩, ⟨o, ho, hc, hd⟩, _⟩ := st
    have e' : b = e ∨ b = it := by simpa using hb
    rcases e' with z | z
    · rw [z]; exact ⟨_, he, fun v q => nomatch q⟩
    · rw [z]; exact ⟨o, ho, fun v q => by rw [hd] at q; cases q⟩
  keep := fun i h h' st k => let ⟨⟨old, he⟩, hi, hne⟩ := st; ⟨⟨old, k e (by simp) _ he⟩, hi.at fun o q => k it (by simp) o q, hne⟩
  item := by
    intro X hP hw hK hc i pins s σ H E I hf st hg
    subst hP hw hK
    obtain ⟨⟨old, he⟩, hit, hne⟩ := st
    obtain ⟨xs, x, hq, hx⟩ := hg
    obtain ⟨its, rv, p, hz⟩ := I.tuple hq
    obtain ⟨u, hu, ru⟩ := rv.get hx
    have hel : e < s.heap.objs.size := Heap.lt_size he
    have hil : it < s.heap.objs.size := by obtain ⟨_, q, _⟩ := hit; exact Heap.lt_size q
    have nai : a ≠ it := fun z => by
      subst z
      obtain ⟨o1, q1, c1, _⟩ := hit
      obtain ⟨o2, q2, c2, _⟩ := p
      rw [q1] at q2
      cases q2
      rw [c1] at c2
      exact absurd c2 (by decide)
    have nea : e ≠ a := fun z => by
      subst z
      obtain ⟨o2, q2, c2, _⟩ := p
      rw [he] at q2
      cases q2
      exact absurd (show Value.type "enumerate" = Value.type "tuple" from c2) (by decide)
    have hlt : i < its.toArray.size := by
      have := (List.getElem?_eq_some_iff.mp hu).1
      simpa using this
    refine wpAny_pyNext_enum_itemD (Draws.tuple (A := X.A.in1) (show X.A.in1.handled = none from I.ok.hd hc) it a nai its.toArray) he ⟨hit, p⟩ hlt hne (by simp [hne, nea]) fun x' h' tk hx' ho st' hT hsz hk => ?_
    have ex : x' = u := by
      have h1 : its[i]? = some x' := by simpa using hx'
      rw [hu] at h1
      exact (Option.some.inj h1).symm
    subst ex
    obtain ⟨hit', p'⟩ := st'
    refine ⟨_, rfl, wpAny_letOwnedTupleGo_enum (s := { s with heap := h', toks := tk + 1 }) ho fun h'' he' sb => ?_⟩
    have hT2 : h''.get? s.heap.objs.size = some { cls := .type "tuple", data := .seq #[.int i tk, x'] } := (sb.2 _ (Nat.ne_of_gt hel)).trans hT
    have new : ObjOk X.prog X.w (upd H s.heap.objs.size (.tup [.int (i : Nat), x])) h'' s.heap.objs.size (.tup [.int (i : Nat), x]) :=
      ⟨by show 2 ≤ sizeLine; decide, [.int i tk, x'], .cons ⟨_, rfl⟩ (.cons ru .nil), ⟨_, hT2, rfl, _, rfl⟩⟩
    have I1 : Inv X pins σ (upd H s.heap.objs.size (.tup [.int (i : Nat), x])) { s with heap := h'', toks := tk + 1 } :=
      I.turnedNew (ch := [e, it]) (fun b ob hb q => (sb.2 b (fun z => hb (by simp [z]))).trans (hk b ob (fun z => hb (by simp [z])) (fun z => hb (by simp [z])) q)) hf (Nat.le_refl _) new
    refine ⟨.ref s.heap.objs.size, _, I1, rfl, ⟨_, x, rfl, I.hok.fresh (Nat.le_refl _), rfl, fun ys hy => by rw [I.tuple_inj hy hq]; exact hx⟩, ⟨⟨x', ?_⟩, hit'.at fun o q => (sb.2 it (Ne.symm hne)).trans q, hne⟩, fun b hb => ?_⟩
    · have e1 : ((i + 1 : Nat) : Int) = (i : Int) + 1 := by omega
      rw [e1]; exact he'
    · have hb' : b < s.heap.objs.size := by
        have e' : b = e ∨ b = it := by simpa using hb
        rcases e' with z | z
        · rw [z]; exact hel
        · rw [z]; exact hil
      rw [upd_ne (Nat.ne_of_lt hb')]
      exact (hf b hb).1
  done := by
    intro X hP hw hK hc i pins s σ H E I hf st hg
    subst hP hw hK
    obtain ⟨⟨old, he⟩, hit, hne⟩ := st
    obtain ⟨xs, hq, hx⟩ := hg
    obtain ⟨its, rv, p, hz⟩ := I.tuple hq
    obtain ⟨f0, f1, f2, f3, f4, f5⟩ := hf it (by simp)
    have hl := rv.length
    exact pyNext_enumT_end (I.ok.hd hc) he hit p (by simp; omega) fun h' eb => ⟨rfl, I.turned (t' := s.toks) (fun b o hb q => eb b o hb q) f0 f1 f3 f4 f5⟩
  self := fun A i s Q E st h => let ⟨⟨_, he⟩, _⟩ := st; wpAny_pyIter_enum he h
def iEnumT (K : PySem.W.Frag) (ta : TA) : TI := fun σ H R => ta σ H fun vs H1 => ∃ a xs, vs = [.ref a] ∧ SqT K H1 a xs ∧ R (IteT K a) H1
theorem pi_enumT {X : Cx} {e : Expr} {ta : TA} {p pos tpos : Pos} {elts : List Expr} {kk : Nat} (hg : Gl X "enumerate") (hm : X.mg "enumerate" = none) (ha : PA X [e] ta) (hs : starEach [e] X.env = [(false, eval e X.env)] := by rfl) :
    PI X (.Tuple elts kk tpos) (.Call (.Name "enumerate" p) [e] [] pos) (iEnumT X.K ta) := by
  refine ⟨fun pins s σ H R I h => ?_⟩
  refine Call_ (ld_blt I hg hm boot_enumerate (PyProof.Rows.callWith_type1 (thn (ha.run pos pins s σ H _ I h) fun us s1 ⟨vs, H1, I1, r1, q1⟩ => ?_) hs rfl))
  obtain ⟨a, xs, ex, hq, q⟩ := q1
  subst ex
  cases r1 with
  | cons r rr =>
    cases rr
    cases r
    obtain ⟨its, rv, p', hz⟩ := I1.tuple hq
    refine enum_begins1 (begins_tuple a its.toArray) p' fun h' he hit hsz hk => wpAny_pyIter_enum he ?_
    have I2 : Inv X pins σ H1 { s1 with heap := h' } := I1.kept (t' := s1.toks) hk
    refine ⟨s1.heap.objs.size + 1, [s1.heap.objs.size + 1, s1.heap.objs.size], _, _, H1, rfl, I2, turn_enumT a (s1.heap.objs.size + 1) s1.heap.objs.size, ⟨⟨.none, he⟩, ⟨_, hit, rfl, rfl⟩, Nat.succ_ne_self _⟩, fun b hb => ?_, q⟩
    have e' : b = s1.heap.objs.size + 1 ∨ b = s1.heap.objs.size := by simpa using hb
    have hle : s1.heap.objs.size ≤ b := by
      rcases e' with z | z
      · rw [z]; exact Nat.le_add_right _ _
      · rw [z]; exact Nat.le_refl _
    exact I1.fpOk hle (I1.hok.fresh hle)
section
variable {K : PySem.W.Frag} {a : Addr} {xs : List V} {g : TG}
/-- for i, x in enumerate(xs), xs a tuple -/
theorem for_enumT {tb : TS} {D : Ends} {σ : L2.St} {H : Hp} (Pv : Nat → L2.St → Hp → Prop) (h0 : Pv 0 σ H) (hl : ∀ i σ H, i ≤ xs.length → Pv i σ H → SqT K H a xs)
    (hs : ∀ i x T σ H, xs[i]? = some x → H T = none → Pv i σ H → g (.ref T) σ (upd H T (.tup [.int (i : Nat), x])) fun σ2 H2 => tb { D with nx := Pv (i + 1), ct := Pv (i + 1), bk := D.nx } σ2 H2) (hd : ∀ σ H, Pv xs.length σ H → D.nx σ H) :
    ∃ W : Nat → Nat → L2.St → Hp → Prop, (∃ m, W 0 m σ H) ∧ ∀ i m σ H, W i m σ H →
      ((IteT K a).stop i H ∧ D.nx σ H) ∨ ((IteT K a).go i H ∧ ∃ N : L2.St → Hp → Prop, (∀ σ' H', N σ' H' → ∃ m', m' < m ∧ W (i + 1) m' σ' H') ∧ ∀ x H', (IteT K a).yld i H x H' → g x σ H' fun σ2 H2 => tb { D with nx := N, ct := N, bk := D.nx } σ2 H2) := by
  refine ⟨fun i m σ H => m = xs.length - i ∧ i ≤ xs.length ∧ Pv i σ H, ⟨xs.length, by simp, Nat.zero_le _, h0⟩, ?_⟩
  rintro i m σ H ⟨rfl, hi, p⟩
  have q1 := hl i σ H hi p
  by_cases hlt : i < xs.length
  · have g1 : xs[i]? = some xs[i] := List.getElem?_eq_getElem hlt
    refine .inr ⟨⟨_, _, q1, g1⟩, Pv (i + 1), fun σ' H' p' => ⟨xs.length - (i + 1), by omega, rfl, hlt, p'⟩, fun v H' y => ?_⟩
    obtain ⟨T, x1, rfl, nT, rfl, f1⟩ := y
    exact hs i x1 T σ H (f1 xs q1) nT p
  · have e : i = xs.length := by omega
    subst e
    exact .inl ⟨⟨xs, q1, Nat.le_refl _⟩, hd σ H p⟩
end
end Kb

namespace Kb
open PySem PySem.Spec PyProof.Rows L2 StX TL
theorem bo_divmod : bootBuiltins "divmod" = some (.builtin "divmod") := by decide +kernel
theorem call_divmodW {X : Cx} : CallR X (.builtin "divmod") (fun xs H Q => ∃ i j, xs = [.int i, .int j] ∧ CDivW i j ∧ ∀ p, H p = none → Q (.ref p) (upd H p (.tup [.int (i / j), .int (i % j)]))) := by
  intro pins s σ H xs us Q I rx h
  obtain ⟨i, j, rfl, ⟨h1, h2⟩, q⟩ := h
  obtain ⟨u, w', rfl, ⟨t, rfl⟩, ⟨t', rfl⟩⟩ := vals2 rx
  refine divmod_int (by omega) ?_ (.inl (PyProof.noPylong_of_log2 h2))
  rw [Int.fdiv_eq_ediv_of_nonneg i (by omega), Int.fmod_eq_emod_of_nonneg i (by omega)]
  have hn : H s.heap.objs.size = none := I.hok.fresh (Nat.le_refl _)
  refine ⟨.ref s.heap.objs.size, _, ?_, rfl, q _ hn⟩
  refine I.laid (fun b o e => Heap.get?_push_of_some _ e) (Nat.le_refl _) ⟨by simp only [List.length_cons, List.length_nil]; rw [sizeLine_eq]; decide, [.int (i / j) s.toks, .int (i % j) (s.toks + 1)], .cons ⟨_, rfl⟩ (.cons ⟨_, rfl⟩ .nil), ?_⟩
  exact ⟨_, Heap.get?_push_size s.heap rfl, rfl, 0, rfl⟩
/-! ### a program cut in two -/
theorem rdS_get? (s : Sc) (i : Nat) : (rdS s)[i]? = if (i : Int) < slen s then some (adr s (i : Int)) else none := by
  have p := slen_pos s
  unfold rdS
  rw [List.getElem?_map]
  by_cases h : (i : Int) < slen s
  · rw [if_pos h, List.getElem?_range (by omega)]
    rfl
  · rw [if_neg h, List.getElem?_eq_none (by rw [List.length_range]; omega)]
    rfl
theorem slen_hd {s : Sc} {m : Int} (h0 : 0 < m) (h1 : m < slen s) : slen (hd s m) = m := by
  unfold slen at h1
  unfold hd slen
  show (if (if s.1 ≤ s.2 then s.1 + ((if _ < m then _ else m) - 1) else s.1 - ((if _ < m then _ else m) - 1)) - s.1 < 0 then _ else _) + 1 = m
  split at h1 <;> split <;> split <;> split at * <;> omega
theorem rdS_hd {s : Sc} {m : Int} (h0 : 0 < m) (h1 : m < slen s) : rdS (hd s m) = (rdS s).take m.toNat := by
  refine List.ext_getElem? fun i => ?_
  rw [rdS_get?, slen_hd h0 h1, List.getElem?_take, rdS_get?]
  by_cases c : (i : Int) < m
  · rw [if_pos c, if_pos (by omega), if_pos (by omega)]
    congr 1
    have e : hd s m = (s.1, if s.1 ≤ s.2 then s.1 + (m - 1) else s.1 - (m - 1)) := by
      unfold hd
      rw [if_neg (show ¬ slen s < m by omega)]
    rw [e]
    unfold adr
    show (if s.1 ≤ (if s.1 ≤ s.2 then s.1 + (m - 1) else s.1 - (m - 1)) then s.1 + (i : Int) else s.1 - (i : Int)) = _
    split <;> split at * <;> omega
  · rw [if_neg c, if_neg (by omega)]
theorem rdS_tl {s : Sc} {m : Int} (h0 : 0 < m) (h1 : m < slen s) : rdS (adr s m, s.2) = (rdS s).drop m.toNat := by
  refine List.ext_getElem? fun i => ?_
  have l : slen (adr s m, s.2) = slen s - m := by
    unfold slen at h1
    unfold slen adr
    show (if s.2 - (if s.1 ≤ s.2 then s.1 + m else s.1 - m) < 0 then -(s.2 - (if s.1 ≤ s.2 then s.1 + m else s.1 - m)) else s.2 - (if s.1 ≤ s.2 then s.1 + m else s.1 - m)) + 1 = _
    split at h1 <;> split <;> split at * <;> (try split) <;> omega
  rw [rdS_get?, l, List.getElem?_drop, rdS_get?]
  by_cases c : (i : Int) < slen s - m
  · rw [if_pos c, if_pos (by omega)]
    congr 1
    have sl : (s.1 ≤ s.2 → slen s = s.2 - s.1 + 1) ∧ (¬ s.1 ≤ s.2 → slen s = s.1 - s.2 + 1) := by
      unfold slen
      constructor <;> intro h <;> split <;> omega
    obtain ⟨sl1, sl2⟩ := sl
    unfold adr
    show (if (if s.1 ≤ s.2 then s.1 + m else s.1 - m) ≤ s.2 then (if s.1 ≤ s.2 then s.1 + m else s.1 - m) + (i : Int) else (if s.1 ≤ s.2 then s.1 + m else s.1 - m) - (i : Int)) = if s.1 ≤ s.2 then s.1 + ((m.toNat + i : Nat) : Int) else s.1 - ((m.toNat + i : Nat) : Int)
    by_cases d : s.1 ≤ s.2
    · have := sl1 d
      simp only [if_pos d]
      rw [if_pos (by omega)]
      omega
    · have := sl2 d
      simp only [if_neg d]
      split <;> omega
  · rw [if_neg c, if_neg (by omega)]
theorem rd_rep {B : Int} {g : Pg} {k : Int} (h : 0 ≤ k) : (g.rep k).rd = (List.replicate k.toNat g.rd).flatten := by
  unfold Pg.rep
  split
  · rename_i e
    rw [e]
    rfl
  · split
    · rename_i n e
      rcases e with e | e
      · rw [e]
        show g.rd = g.rd ++ []
        rw [List.append_nil]
      · rw [e]
        show [] = (List.replicate k.toNat []).flatten
        rw [List.flatten_replicate_nil]
    · show (List.replicate k.toNat g.rd).flatten ++ [] = _
      rw [List.append_nil]
theorem flat_cut {L : List Int} {n a r : Nat} (h : a < n) (hr : r ≤ L.length) :
    (List.replicate n L).flatten.take (a * L.length + r) = (List.replicate a L).flatten ++ L.take r ∧ (List.replicate n L).flatten.drop (a * L.length + r) = L.drop r ++ (List.replicate (n - a - 1) L).flatten := by
  have e : List.replicate n L = List.replicate a L ++ L :: List.replicate (n - a - 1) L := by
    rw [← List.replicate_succ, List.replicate_append_replicate]
    congr 1
    omega
  have la : ((List.replicate a L).flatten).length = a * L.length := flat_len a L
  rw [e, List.flatten_append, List.flatten_cons]
  constructor
  · rw [List.take_append, la, List.take_of_length_le (by omega), show a * L.length + r - a * L.length = r by omega, List.take_append_of_le_length hr]
  · rw [List.drop_append, la, List.drop_of_length_le (by omega), show a * L.length + r - a * L.length = r by omega, List.drop_append_of_le_length hr]
    rfl
/-- what cut hands back -/
def cutF : Pg → Int → Pg × Pg
  | .nil, _ => (.nil, .nil)
  | .sc s r, m => if m < slen s then (if m = 0 then (.nil, .sc s r) else (.sc (hd s m) .nil, .sc (adr s m, s.2) r)) else (.sc s (cutF r (m - slen s)).1, (cutF r (m - slen s)).2)
  | .rp n b r, m => if m < n * b.cnt then (if m % b.cnt = 0 then (b.rep (m / b.cnt), (b.rep (n - m / b.cnt)).app r) else ((b.rep (m / b.cnt)).app (cutF b (m % b.cnt)).1, (cutF b (m % b.cnt)).2.app ((b.rep (n - m / b.cnt - 1)).app r)))
    else (.rp n b (cutF r (m - n * b.cnt)).1, (cutF r (m - n * b.cnt)).2)
theorem cutF_sc {s : Sc} {r : Pg} {m : Int} (h : m < slen s) : cutF (.sc s r) m = if m = 0 then (.nil, .sc s r) else (.sc (hd s m) .nil, .sc (adr s m, s.2) r) := by
  rw [cutF, if_pos h]
theorem cutF_rp {n : Int} {b r : Pg} {m : Int} (h : m < n * b.cnt) : cutF (.rp n b r) m = if m % b.cnt = 0 then (b.rep (m / b.cnt), (b.rep (n - m / b.cnt)).app r) else ((b.rep (m / b.cnt)).app (cutF b (m % b.cnt)).1, (cutF b (m % b.cnt)).2.app ((b.rep (n - m / b.cnt - 1)).app r)) := by
  rw [cutF, if_pos h]
theorem cutF_app {B : Int} {p r : Pg} {k : Int} (k0 : 0 ≤ k) (k1 : k < p.cnt) (lp : p.len = 1) : ∀ {a : Pg} {m : Int}, a.Ok B → k + a.cnt = m → cutF (a.app (p.app r)) m = (a.app (cutF p k).1, (cutF p k).2.app r)
  | .nil, m, _, e => by
    have e : k + 0 = m := e
    rw [Int.add_zero] at e
    subst e
    show cutF (p.app r) k = _
    cases p with
    | nil => cases lp
    | sc s r' =>
      have : r' = .nil := Pg.len_zero (by have h : r'.len + 1 = 1 := lp; omega)
      subst this
      have h : k < slen s := by have h : k < slen s + 0 := k1; omega
      show cutF (.sc s r) k = _
      rw [cutF_sc h, cutF_sc h]
      split <;> rfl
    | rp n b r' =>
      have : r' = .nil := Pg.len_zero (by have h : r'.len + 1 = 1 := lp; omega)
      subst this
      have h : k < n * b.cnt := by have h : k < n * b.cnt + 0 := k1; omega
      show cutF (.rp n b r) k = _
      rw [cutF_rp h, cutF_rp h]
      split
      · rw [Pg.app_nil]
        rfl
      · rw [Pg.app_nil, Pg.app_assoc]
        rfl
  | .sc s a, m, ok, e => by
    have e : k + (slen s + a.cnt) = m := e
    have c := Pg.cnt_nn ok.2
    show cutF (.sc s (a.app (p.app r))) m = _
    rw [cutF, if_neg (by omega), cutF_app k0 k1 lp ok.2 (show k + a.cnt = m - slen s by omega)]
    rfl
  | .rp n b a, m, ok, e => by
    have e : k + (n * b.cnt + a.cnt) = m := e
    have c := Pg.cnt_nn ok.2.2.2.2
    show cutF (.rp n b (a.app (p.app r))) m = _
    rw [cutF, if_neg (by omega), cutF_app k0 k1 lp ok.2.2.2.2 (show k + a.cnt = m - n * b.cnt by omega)]
    rfl
theorem cutF_all {B : Int} : ∀ {g : Pg}, g.Ok B → cutF g g.cnt = (g, .nil)
  | .nil, _ => rfl
  | .sc s r, ok => by
    have c := Pg.cnt_nn ok.2
    show cutF (.sc s r) (slen s + r.cnt) = _
    rw [cutF, if_neg (by omega), show slen s + r.cnt - slen s = r.cnt by omega, cutF_all ok.2]
  | .rp n b r, ok => by
    have c := Pg.cnt_nn ok.2.2.2.2
    show cutF (.rp n b r) (n * b.cnt + r.cnt) = _
    rw [cutF, if_neg (by omega), show n * b.cnt + r.cnt - n * b.cnt = r.cnt by omega, cutF_all ok.2.2.2.2]
structure CutOk (B : Int) (g : Pg) (m : Int) (x y : Pg) : Prop where
  okx : x.Ok B
  oky : y.Ok B
  dx : x.dep ≤ g.dep
  dy : y.dep ≤ g.dep
  fx : x.scs.length ≤ (g.dep + 1) * g.scs.length
  fy : y.scs.length ≤ (g.dep + 1) * g.scs.length
  rx : x.rd = g.rd.take m.toNat
  ry : y.rd = g.rd.drop m.toNat
  eq : (x, y) = cutF g m
def spCut (d : Nat) : Sp := fun vs H Q _ => ∃ (v : V) (g : Pg) (B m : Int), vs = [v, .int m] ∧ IsPg H v g ∧ g.dep < d ∧ d ≤ 20 ∧ BB B ∧ g.Ok B ∧ g.scs.length ≤ 2 ^ 10 ∧ 0 ≤ m ∧ m ≤ g.cnt ∧ ∀ t H' vx vy x y, H t = none → Ex H H' → H' t = some (.tup [vx, vy]) → IsPg H' vx x → IsPg H' vy y → CutOk B g m x y → Q (.ref t) H'
def spCutS : Sp := fun vs H Q _ => ∃ (v : V) (s : Sc) (B m : Int), vs = [v, .int m] ∧ IsSc H v s ∧ SOk B s ∧ 0 ≤ m ∧ m < slen s ∧ ∀ t H' vx vy x y, H t = none → Ex H H' → H' t = some (.tup [vx, vy]) → IsPg H' vx x → IsPg H' vy y → CutOk B (.sc s .nil) m x y → Q (.ref t) H'
def spCutR (d : Nat) : Sp := fun vs H Q _ => ∃ (v : V) (n : Int) (b : Pg) (B m : Int), vs = [v, .int m] ∧ (∃ t u bs, v = .ref t ∧ H t = some (.tup [.int n, .ref u]) ∧ H u = some (.tup bs) ∧ Its H b bs) ∧ b.dep < d ∧ d ≤ 20 ∧ BB B ∧ (Pg.rp n b .nil).Ok B ∧ b.scs.length ≤ 2 ^ 10 ∧ 0 ≤ m ∧ m < n * b.cnt ∧ ∀ t H' vx vy x y, H t = none → Ex H H' → H' t = some (.tup [vx, vy]) → IsPg H' vx x → IsPg H' vy y → CutOk B (.rp n b .nil) m x y → Q (.ref t) H'
theorem Its.split {H : Hp} : ∀ {a b : Pg} {vs : List V}, Its H (a.app b) vs → Its H a (vs.take a.len) ∧ Its H b (vs.drop a.len)
  | .nil, b, vs, h => ⟨rfl, h⟩
  | .sc s r, b, _, ⟨v, us, e, h1, h2⟩ => by
    subst e
    obtain ⟨k1, k2⟩ := Its.split (a := r) h2
    exact ⟨⟨v, us.take r.len, rfl, h1, k1⟩, k2⟩
  | .rp n x r, b, _, ⟨t, u, bs, us, e, h1, h2, h3, h4⟩ => by
    subst e
    obtain ⟨k1, k2⟩ := Its.split (a := r) h4
    exact ⟨⟨t, u, bs, us.take r.len, rfl, h1, h2, h3, k1⟩, k2⟩
/-- the sum of two tuples of parts -/
theorem cat_pg {K : PySem.W.Frag} {H : Hp} {va vb : V} {g h : Pg} {Q : VK} (ga : IsPg H va g) (hb : IsPg H vb h) (l : g.len + h.len ≤ 2 ^ 20) (q : ∀ v H', Ex H H' → IsPg H' v (g.app h) → Q v H') : rCatA K va vb H Q := by
  obtain ⟨a, xs, rfl, ha, ia⟩ := ga
  obtain ⟨b, ys, rfl, hb, ib⟩ := hb
  have la := ia.len
  have lb := ib.len
  refine ⟨a, b, xs, ys, rfl, rfl, SqT.of ha, SqT.of hb, by rw [sizeLine_eq]; omega, fun e => ?_, fun _ e => ?_, fun _ _ p np => ?_⟩
  · subst e
    have : g = .nil := Pg.len_zero la.symm
    subst this
    exact q _ _ (Ex.refl _) ⟨b, ys, rfl, hb, ib⟩
  · subst e
    have : h = .nil := Pg.len_zero lb.symm
    subst this
    refine q _ _ (Ex.refl _) ⟨a, xs, rfl, ha, ?_⟩
    rw [Pg.app_nil]
    exact ia
  · have z := Ex.new (o := .tup (xs ++ ys)) np
    exact q _ _ z ⟨p, _, rfl, upd_same, (ia.kp z.kp).app (ib.kp z.kp)⟩
theorem cutS_zero {B : Int} {s : Sc} (so : SOk B s) : CutOk B (.sc s .nil) 0 .nil (.sc s .nil) := ⟨trivial, ⟨so, trivial⟩, Nat.le_refl _, Nat.le_refl _, Nat.zero_le _, by show 1 ≤ (0 + 1) * 1; decide, rfl, rfl, by rw [cutF_sc (by have := slen_pos s; omega), if_pos rfl]⟩
theorem cutS_in {B : Int} {s : Sc} {m : Int} (so : SOk B s) (h0 : 0 < m) (h1 : m < slen s) : CutOk B (.sc s .nil) m (.sc (hd s m) .nil) (.sc (adr s m, s.2) .nil) := by
  obtain ⟨a, b, c, d⟩ := id so
  have e : hd s m = (s.1, adr s (m - 1)) := by
    unfold hd adr
    rw [if_neg (show ¬ slen s < m by omega)]
  obtain ⟨k0, k1⟩ := adr_bound so (p := m - 1) (by omega) (by omega)
  obtain ⟨j0, j1⟩ := adr_bound so (p := m) (by omega) h1
  refine ⟨⟨by rw [e]; exact ⟨a, b, k0, k1⟩, trivial⟩, ⟨⟨j0, j1, c, d⟩, trivial⟩, Nat.le_refl _, Nat.le_refl _, by show 1 ≤ (0 + 1) * 1; decide, by show 1 ≤ (0 + 1) * 1; decide, ?_, ?_, by rw [cutF_sc h1, if_neg (by omega)]⟩
  · show rdS (hd s m) ++ [] = (rdS s ++ []).take m.toNat
    rw [List.append_nil, List.append_nil, rdS_hd h0 h1]
  · show rdS (adr s m, s.2) ++ [] = (rdS s ++ []).drop m.toNat
    rw [List.append_nil, List.append_nil, rdS_tl h0 h1]
theorem cutR_ok {B : Int} {b : Pg} {n m r : Int} {x y : Pg} (hok : (Pg.rp n b .nil).Ok B) (r0 : 0 ≤ r) (rn : r < n) (e0 : 0 ≤ m - r * b.cnt) (e1 : m - r * b.cnt < b.cnt) (ez : m - r * b.cnt ≠ 0) (co : CutOk B b (m - r * b.cnt) x y) : CutOk B (.rp n b .nil) m ((b.rep r).app x) (y.app (b.rep (n - r - 1))) := by
  obtain ⟨n2, nB, bn, okb, _⟩ := hok
  have lb := prd_len okb
  have c0 := Pg.cnt_nn okb
  have rc : 0 ≤ r * b.cnt := Int.mul_nonneg r0 c0
  have d1 := Pg.rep_dep b r
  have d2 := Pg.rep_dep b (n - r - 1)
  have f1 := Pg.rep_scs b r
  have f2 := Pg.rep_scs b (n - r - 1)
  have dx := co.dx
  have dy := co.dy
  have fx := co.fx
  have fy := co.fy
  have mt : m.toNat = r.toNat * b.rd.length + (m - r * b.cnt).toNat := by
    have : ((r.toNat * b.rd.length : Nat) : Int) = r * b.cnt := by
      rw [Int.natCast_mul, lb, Int.toNat_of_nonneg r0]
    omega
  obtain ⟨t1, t2⟩ := flat_cut (L := b.rd) (n := n.toNat) (a := r.toNat) (r := (m - r * b.cnt).toNat) (by omega) (by omega)
  have big : b.scs.length + (b.dep + 1) * b.scs.length ≤ (max (b.dep + 1) 0 + 1) * (b.scs ++ []).length := by
    rw [List.append_nil, show max (b.dep + 1) 0 = b.dep + 1 by omega, Nat.add_mul (b.dep + 1) 1]
    omega
  refine ⟨(Pg.rep_ok okb r0 (by omega)).app co.okx, co.oky.app (Pg.rep_ok okb (by omega) (by omega)), ?_, ?_, ?_, ?_, ?_, ?_, ?_⟩
  · rw [Pg.dep_app]
    show _ ≤ max (b.dep + 1) 0
    omega
  · rw [Pg.dep_app]
    show _ ≤ max (b.dep + 1) 0
    omega
  · rw [Pg.scs_app, List.length_append]
    show _ ≤ (max (b.dep + 1) 0 + 1) * (b.scs ++ []).length
    omega
  · rw [Pg.scs_app, List.length_append]
    show _ ≤ (max (b.dep + 1) 0 + 1) * (b.scs ++ []).length
    omega
  · rw [rd_app, rd_rep (B := B) r0, co.rx]
    show _ = ((List.replicate n.toNat b.rd).flatten ++ []).take m.toNat
    rw [List.append_nil, mt, t1]
  · rw [rd_app, rd_rep (B := B) (by omega), co.ry]
    show _ = ((List.replicate n.toNat b.rd).flatten ++ []).drop m.toNat
    rw [List.append_nil, mt, t2, show (n - r - 1).toNat = n.toNat - r.toNat - 1 by omega]
  · have b1 : 0 < b.cnt := by omega
    have q1 : m / b.cnt = r := by
      rw [show m = (m - r * b.cnt) + r * b.cnt by omega, Int.add_mul_ediv_right _ _ (by omega), Int.ediv_eq_zero_of_lt e0 e1]
      omega
    have q2 : m % b.cnt = m - r * b.cnt := by
      have := Int.mul_ediv_add_emod m b.cnt
      rw [q1, Int.mul_comm] at this
      omega
    have lt : m < n * b.cnt := by
      have := Int.mul_le_mul_of_nonneg_right (show r + 1 ≤ n by omega) (show 0 ≤ b.cnt by omega)
      rw [Int.add_mul, Int.one_mul] at this
      omega
    rw [cutF_rp lt, q2, if_neg ez, q1, Pg.app_nil, ← co.eq]
theorem cutR_even {B : Int} {b : Pg} {n m r : Int} (hok : (Pg.rp n b .nil).Ok B) (r0 : 0 ≤ r) (rn : r < n) (bp : 0 < b.cnt) (e : m = r * b.cnt) : CutOk B (.rp n b .nil) m (b.rep r) (b.rep (n - r)) := by
  obtain ⟨n2, nB, bn, okb, _⟩ := hok
  have lb := prd_len okb
  have c0 := Pg.cnt_nn okb
  have d1 := Pg.rep_dep b r
  have d2 := Pg.rep_dep b (n - r)
  have f1 := Pg.rep_scs b r
  have f2 := Pg.rep_scs b (n - r)
  have mt : m.toNat = r.toNat * b.rd.length + 0 := by
    have : ((r.toNat * b.rd.length : Nat) : Int) = r * b.cnt := by
      rw [Int.natCast_mul, lb, Int.toNat_of_nonneg r0]
    omega
  obtain ⟨t1, t2⟩ := flat_cut (L := b.rd) (n := n.toNat) (a := r.toNat) (r := 0) (by omega) (by omega)
  have big : b.scs.length ≤ (max (b.dep + 1) 0 + 1) * (b.scs ++ []).length := by
    rw [List.append_nil]
    exact Nat.le_mul_of_pos_left _ (by omega)
  refine ⟨Pg.rep_ok okb r0 (by omega), Pg.rep_ok okb (by omega) (by omega), ?_, ?_, ?_, ?_, ?_, ?_, ?_⟩
  · show _ ≤ max (b.dep + 1) 0
    omega
  · show _ ≤ max (b.dep + 1) 0
    omega
  · exact Nat.le_trans f1 big
  · exact Nat.le_trans f2 big
  · rw [rd_rep (B := B) r0]
    show _ = ((List.replicate n.toNat b.rd).flatten ++ []).take m.toNat
    rw [List.append_nil, mt, t1, List.take_zero, List.append_nil]
  · rw [rd_rep (B := B) (by omega)]
    show _ = ((List.replicate n.toNat b.rd).flatten ++ []).drop m.toNat
    rw [List.append_nil, mt, t2, List.drop_zero, show (n - r).toNat = (n.toNat - r.toNat - 1) + 1 by omega, List.replicate_succ, List.flatten_cons]
  · subst e
    have q1 : r * b.cnt / b.cnt = r := Int.mul_ediv_cancel _ (by omega)
    have q2 : r * b.cnt % b.cnt = 0 := Int.mul_emod_left _ _
    have lt : r * b.cnt < n * b.cnt := Int.mul_lt_mul_of_pos_right rn bp
    rw [cutF_rp lt, q2, if_pos rfl, q1, Pg.app_nil]
/-- a cut within a part, and what is ahead and behind -/
theorem cut_in {B : Int} {a p r x y : Pg} {m k : Int} (ok : (a.app (p.app r)).Ok B) (k0 : 0 ≤ k) (k1 : k < p.cnt) (lp1 : p.len = 1) (e : k + a.cnt = m) (co : CutOk B p k x y) : CutOk B (a.app (p.app r)) m (a.app x) (y.app r) := by
  obtain ⟨oka, ok2⟩ := app_ok ok
  obtain ⟨okp, okr⟩ := app_ok ok2
  have la := prd_len oka
  have lp := prd_len okp
  have ca := Pg.cnt_nn oka
  have mt : m.toNat = a.rd.length + k.toNat := by omega
  have dx := co.dx
  have dy := co.dy
  have D : (a.app (p.app r)).dep = max a.dep (max p.dep r.dep) := by rw [Pg.dep_app, Pg.dep_app]
  have S : (a.app (p.app r)).scs.length = a.scs.length + (p.scs.length + r.scs.length) := by rw [Pg.scs_app, List.length_append, Pg.scs_app, List.length_append]
  have big : a.scs.length + (p.dep + 1) * p.scs.length + r.scs.length ≤ ((a.app (p.app r)).dep + 1) * (a.app (p.app r)).scs.length := by
    rw [S]
    have h1 := Nat.mul_le_mul_right p.scs.length (show p.dep + 1 ≤ (a.app (p.app r)).dep + 1 by omega)
    have h2 := Nat.le_mul_of_pos_left a.scs.length (show 0 < (a.app (p.app r)).dep + 1 by omega)
    have h3 := Nat.le_mul_of_pos_left r.scs.length (show 0 < (a.app (p.app r)).dep + 1 by omega)
    rw [Nat.mul_add, Nat.mul_add]
    omega
  have fx := co.fx
  have fy := co.fy
  refine ⟨oka.app co.okx, co.oky.app okr, ?_, ?_, ?_, ?_, ?_, ?_, ?_⟩
  · rw [D, Pg.dep_app]
    omega
  · rw [D, Pg.dep_app]
    omega
  · refine Nat.le_trans ?_ big
    rw [Pg.scs_app, List.length_append]
    omega
  · refine Nat.le_trans ?_ big
    rw [Pg.scs_app, List.length_append]
    omega
  · rw [rd_app, rd_app, rd_app, co.rx, mt, List.take_append, List.take_of_length_le (show a.rd.length ≤ a.rd.length + k.toNat by omega), show a.rd.length + k.toNat - a.rd.length = k.toNat by omega, List.take_append_of_le_length (by omega)]
  · rw [rd_app, rd_app, rd_app, co.ry, mt, List.drop_append, List.drop_of_length_le (show a.rd.length ≤ a.rd.length + k.toNat by omega), show a.rd.length + k.toNat - a.rd.length = k.toNat by omega, List.drop_append_of_le_length (by omega)]
    rfl
  · rw [cutF_app k0 k1 lp1 oka e, ← co.eq]
theorem cut_all {B : Int} {g : Pg} (ok : g.Ok B) : CutOk B g g.cnt g .nil := by
  have l := prd_len ok
  refine ⟨ok, trivial, Nat.le_refl _, Nat.zero_le _, Nat.le_mul_of_pos_left _ (by omega), Nat.zero_le _, ?_, ?_, (cutF_all ok).symm⟩
  · rw [List.take_of_length_le (by omega)]
  · rw [List.drop_of_length_le (by omega)]
    rfl
def spParted (C : Addr) : Sp := fun vs H Q _ => ∃ (x : Addr) (g : Pg) (m : Int), vs = [.ref x, .int m] ∧ PgAt C H x g ∧ Med g ∧ g.Ok (10 ^ 30) ∧ g.scs.length ≤ 2 ^ 10 ∧ 0 ≤ m ∧ m ≤ g.cnt ∧ ∀ t H' y z a b, H t = none → Ex H H' → H' t = some (.tup [.ref y, .ref z]) → PgAt C H' y a → PgAt C H' z b → CutOk (10 ^ 30) g m a b → Q (.ref t) H'
theorem call_isiK {X : Cx} {K' : PySem.W.Frag} (h : X.K = K') : CallR X (.builtin "isinstance") (rIsi K') := h ▸ call_isi
end Kb

namespace Kb
open PySem PySem.Spec PyProof.Rows L2 TL
/-! ### where an address is read -/
theorem absI_nat (x : Int) : absI x = (x.natAbs : Int) := by
  unfold absI
  split <;> omega
def cnS (z : Int) (s : Sc) : Int := if lo s ≤ z ∧ z ≤ hi s then 1 else 0
def Pg.cn (z : Int) : Pg → Int
  | .nil => 0
  | .sc s r => cnS z s + r.cn z
  | .rp n b r => n * b.cn z + r.cn z
theorem Pg.cn_app (z : Int) : ∀ a b : Pg, (a.app b).cn z = a.cn z + b.cn z
  | .nil, b => (Int.zero_add _).symm
  | .sc s r, b => by
    show cnS z s + (r.app b).cn z = cnS z s + r.cn z + b.cn z
    rw [Pg.cn_app z r b, Int.add_assoc]
  | .rp n x r, b => by
    show n * x.cn z + (r.app b).cn z = n * x.cn z + r.cn z + b.cn z
    rw [Pg.cn_app z r b, Int.add_assoc]
theorem cnS_01 (z : Int) (s : Sc) : cnS z s = 0 ∨ cnS z s = 1 := by
  unfold cnS
  split
  · exact .inr rfl
  · exact .inl rfl
theorem Pg.cn_bd {B : Int} (z : Int) : ∀ {g : Pg}, g.Ok B → 0 ≤ g.cn z ∧ g.cn z ≤ g.cnt
  | .nil, _ => ⟨Int.le_refl _, Int.le_refl _⟩
  | .sc s r, h => by
    have a := Pg.cn_bd z h.2
    have b := slen_pos s
    rcases cnS_01 z s with c | c
    · show 0 ≤ cnS z s + r.cn z ∧ cnS z s + r.cn z ≤ slen s + r.cnt
      omega
    · show 0 ≤ cnS z s + r.cn z ∧ cnS z s + r.cn z ≤ slen s + r.cnt
      omega
  | .rp n b r, h => by
    have a := Pg.cn_bd z h.2.2.2.2
    have c := Pg.cn_bd z h.2.2.2.1
    have n2 := h.1
    have p := Int.mul_nonneg (show 0 ≤ n by omega) c.1
    have q := Int.mul_le_mul_of_nonneg_left c.2 (show 0 ≤ n by omega)
    show 0 ≤ n * b.cn z + r.cn z ∧ n * b.cn z + r.cn z ≤ n * b.cnt + r.cnt
    omega
/-- which access reads it for the time with a number -/
def Pg.ixr (z : Int) : Pg → Int → Int
  | .nil, _ => 0
  | .sc s r, k => if k < cnS z s then absI (z - s.1) else slen s + r.ixr z (k - cnS z s)
  | .rp n b r, k => if k < n * b.cn z then k / b.cn z * b.cnt + b.ixr z (k % b.cn z) else n * b.cnt + r.ixr z (k - n * b.cn z)
/-- the places of a number in a list -/
def occ (z : Int) : List Int → Nat → List Nat
  | [], _ => []
  | x :: xs, o => if x = z then o :: occ z xs (o + 1) else occ z xs (o + 1)
theorem occ_app (z : Int) : ∀ (a b : List Int) (o : Nat), occ z (a ++ b) o = occ z a o ++ occ z b (o + a.length)
  | [], b, o => rfl
  | x :: a, b, o => by
    have e : o + 1 + a.length = o + (a.length + 1) := by omega
    show (if x = z then o :: occ z (a ++ b) (o + 1) else occ z (a ++ b) (o + 1)) = (if x = z then o :: occ z a (o + 1) else occ z a (o + 1)) ++ occ z b (o + (a.length + 1))
    rw [occ_app z a b (o + 1), e]
    split <;> rfl
theorem occ_shift (z : Int) : ∀ (a : List Int) (o : Nat), occ z a o = (occ z a 0).map (· + o)
  | [], o => rfl
  | x :: a, o => by
    show (if x = z then o :: occ z a (o + 1) else occ z a (o + 1)) = (if x = z then 0 :: occ z a (0 + 1) else occ z a (0 + 1)).map (· + o)
    rw [occ_shift z a (o + 1), occ_shift z a (0 + 1)]
    have e : ((occ z a 0).map (· + (0 + 1))).map (· + o) = (occ z a 0).map (· + (o + 1)) := by
      rw [List.map_map]
      congr 1
      funext i
      show i + (0 + 1) + o = i + (o + 1)
      omega
    split
    · rw [List.map_cons, e, Nat.zero_add]
    · rw [e]
theorem occ_none {z : Int} : ∀ {a : List Int} {o : Nat}, (∀ x ∈ a, x ≠ z) → occ z a o = []
  | [], o, _ => rfl
  | x :: a, o, h => by
    show (if x = z then o :: occ z a (o + 1) else occ z a (o + 1)) = []
    rw [if_neg (h x (List.mem_cons_self ..)), occ_none fun y hy => h y (List.mem_cons_of_mem _ hy)]
theorem occ_range {z : Int} {f : Nat → Int} {j : Nat} (u : ∀ i, f i = z → i = j) (hj : f j = z) : ∀ n : Nat, occ z ((List.range n).map f) 0 = if j < n then [j] else []
  | 0 => rfl
  | n + 1 => by
    rw [List.range_succ, List.map_append, occ_app, occ_range u hj n, List.length_map, List.length_range, Nat.zero_add]
    show _ ++ (if f n = z then n :: [] else []) = _
    by_cases c : n = j
    · subst c
      rw [if_pos hj, if_neg (Nat.lt_irrefl _), if_pos (Nat.lt_succ_self _)]
      rfl
    · rw [if_neg fun e => c (u n e), List.append_nil]
      by_cases d : j < n
      · rw [if_pos d, if_pos (by omega)]
      · rw [if_neg d, if_neg (by omega)]
theorem occ_rdS (z : Int) (s : Sc) : occ z (rdS s) 0 = if lo s ≤ z ∧ z ≤ hi s then [(z - s.1).natAbs] else [] := by
  unfold rdS
  have sl := slen_pos s
  by_cases c : lo s ≤ z ∧ z ≤ hi s
  · rw [if_pos c]
    unfold lo hi at c
    have u : ∀ i : Nat, adr s (i : Int) = z → i = (z - s.1).natAbs := fun i h => by
      unfold adr at h
      split at h <;> omega
    have hj : adr s (((z - s.1).natAbs : Nat) : Int) = z := by
      unfold adr
      split <;> omega
    rw [occ_range (f := fun (j : Nat) => adr s (j : Int)) u hj, if_pos]
    unfold slen
    omega
  · rw [if_neg c]
    refine occ_none fun x hx e => c ?_
    obtain ⟨i, hi0, h⟩ := List.mem_map.mp hx
    have hi' := List.mem_range.mp hi0
    subst e
    subst h
    show lo s ≤ adr s (i : Int) ∧ adr s (i : Int) ≤ hi s
    unfold adr lo hi
    unfold slen at hi'
    split <;> omega
theorem occ_rdS_len (z : Int) (s : Sc) : ((occ z (rdS s) 0).length : Int) = cnS z s := by
  rw [occ_rdS]
  unfold cnS
  split <;> rfl
theorem occ_flat_len (z : Int) (l : List Int) : ∀ n : Nat, (occ z (List.replicate n l).flatten 0).length = n * (occ z l 0).length
  | 0 => by rw [Nat.zero_mul]; rfl
  | n + 1 => by
    rw [List.replicate_succ, List.flatten_cons, occ_app, List.length_append, occ_shift z _ (0 + l.length), List.length_map, occ_flat_len z l n, Nat.succ_mul, Nat.add_comm]
theorem occ_flat (z : Int) (l : List Int) : ∀ (n k : Nat), k < n * (occ z l 0).length → (occ z (List.replicate n l).flatten 0)[k]? = ((occ z l 0)[k % (occ z l 0).length]?).map (· + k / (occ z l 0).length * l.length)
  | 0, k, h => by omega
  | n + 1, k, h => by
    rw [List.replicate_succ, List.flatten_cons, occ_app, occ_shift z _ (0 + l.length), Nat.zero_add]
    have c0 : 0 < (occ z l 0).length := by
      rcases Nat.eq_zero_or_pos (occ z l 0).length with e | e
      · rw [e, Nat.mul_zero] at h
        omega
      · exact e
    by_cases c : k < (occ z l 0).length
    · rw [List.getElem?_append_left c, Nat.mod_eq_of_lt c, Nat.div_eq_of_lt c, Nat.zero_mul]
      show _ = Option.map id _
      rw [Option.map_id]
      rfl
    · rw [List.getElem?_append_right (by omega), List.getElem?_map, occ_flat z l n (k - (occ z l 0).length) (by rw [Nat.succ_mul] at h; omega), Option.map_map]
      have e1 : k % (occ z l 0).length = (k - (occ z l 0).length) % (occ z l 0).length := Nat.mod_eq_sub_mod (by omega)
      have e2 : k / (occ z l 0).length = (k - (occ z l 0).length) / (occ z l 0).length + 1 := Nat.div_eq_sub_div c0 (by omega)
      rw [e1, e2, Nat.succ_mul]
      congr 1
      funext i
      show i + _ + _ = i + (_ + _)
      omega
theorem occ_cn {B : Int} (z : Int) : ∀ {g : Pg}, g.Ok B → ((occ z g.rd 0).length : Int) = g.cn z
  | .nil, _ => rfl
  | .sc s r, h => by
    show ((occ z (rdS s ++ r.rd) 0).length : Int) = cnS z s + r.cn z
    rw [occ_app, List.length_append, occ_shift z r.rd, List.length_map, Int.natCast_add, occ_rdS_len, occ_cn z h.2]
  | .rp n b r, h => by
    have n2 := h.1
    show ((occ z ((List.replicate n.toNat b.rd).flatten ++ r.rd) 0).length : Int) = n * b.cn z + r.cn z
    rw [occ_app, List.length_append, occ_shift z r.rd, List.length_map, Int.natCast_add, occ_flat_len, Int.natCast_mul, occ_cn z h.2.2.2.2, occ_cn z h.2.2.2.1, Int.toNat_of_nonneg (by omega)]
theorem Pg.ixr_occ {B : Int} (z : Int) : ∀ {g : Pg} {k : Int}, g.Ok B → 0 ≤ k → k < g.cn z → 0 ≤ g.ixr z k ∧ (occ z g.rd 0)[k.toNat]? = some (g.ixr z k).toNat
  | .nil, k, _, h0, h1 => by
    have h1 : k < 0 := h1
    omega
  | .sc s r, k, h, h0, h1 => by
    have h1 : k < cnS z s + r.cn z := h1
    have sl := slen_pos s
    have l := rdS_len s
    show 0 ≤ (if k < cnS z s then absI (z - s.1) else slen s + r.ixr z (k - cnS z s)) ∧ (occ z (rdS s ++ r.rd) 0)[k.toNat]? = some (if k < cnS z s then absI (z - s.1) else slen s + r.ixr z (k - cnS z s)).toNat
    have ol := occ_rdS_len z s
    rw [occ_app, occ_shift z r.rd]
    by_cases c : k < cnS z s
    · rw [if_pos c, List.getElem?_append_left (by omega), occ_rdS]
      rcases cnS_01 z s with e | e
      · omega
      · have k0 : k = 0 := by omega
        subst k0
        unfold cnS at e
        split at e
        · rename_i t
          rw [if_pos t]
          refine ⟨by rw [absI_nat]; omega, ?_⟩
          rw [absI_nat, Int.toNat_natCast]
          rfl
        · omega
    · obtain ⟨a, b⟩ := Pg.ixr_occ z (k := k - cnS z s) h.2 (by omega) (by omega)
      rw [if_neg c, List.getElem?_append_right (by omega), List.getElem?_map, show k.toNat - (occ z (rdS s) 0).length = (k - cnS z s).toNat by omega, b]
      refine ⟨by omega, ?_⟩
      show some ((r.ixr z (k - cnS z s)).toNat + (0 + (rdS s).length)) = some _
      congr 1
      omega
  | .rp n b r, k, h, h0, h1 => by
    have h1 : k < n * b.cn z + r.cn z := h1
    have n2 := h.1
    have cb := Pg.cn_bd z h.2.2.2.1
    have ob := occ_cn z h.2.2.2.1
    have lb := prd_len h.2.2.2.1
    show 0 ≤ (if k < n * b.cn z then k / b.cn z * b.cnt + b.ixr z (k % b.cn z) else n * b.cnt + r.ixr z (k - n * b.cn z)) ∧ (occ z ((List.replicate n.toNat b.rd).flatten ++ r.rd) 0)[k.toNat]? = some (if k < n * b.cn z then k / b.cn z * b.cnt + b.ixr z (k % b.cn z) else n * b.cnt + r.ixr z (k - n * b.cn z)).toNat
    have nn : ((n.toNat : Nat) : Int) = n := Int.toNat_of_nonneg (by omega)
    have fl : ((n.toNat * (occ z b.rd 0).length : Nat) : Int) = n * b.cn z := by rw [Int.natCast_mul, ob, nn]
    have rl : (((List.replicate n.toNat b.rd).flatten.length : Nat) : Int) = n * b.cnt := by rw [flat_len, Int.natCast_mul, lb, nn]
    have nc : 0 ≤ n * b.cnt := by omega
    rw [occ_app, occ_shift z r.rd]
    by_cases c : k < n * b.cn z
    · have cp : 0 < b.cn z := by
        rcases Int.lt_or_eq_of_le cb.1 with e | e
        · exact e
        · rw [← e, Int.mul_zero] at c
          omega
      have m0 := Int.emod_nonneg k (show b.cn z ≠ 0 by omega)
      have m1 := Int.emod_lt_of_pos k cp
      have d0 := Int.ediv_nonneg h0 (show 0 ≤ b.cn z by omega)
      obtain ⟨a1, a2⟩ := Pg.ixr_occ z (k := k % b.cn z) h.2.2.2.1 m0 m1
      have p0 := Int.mul_nonneg d0 (show 0 ≤ b.cnt by omega)
      rw [if_pos c, List.getElem?_append_left (by rw [occ_flat_len]; omega), occ_flat z b.rd _ _ (by omega)]
      have e1 : k.toNat % (occ z b.rd 0).length = (k % b.cn z).toNat := by
        rw [← ob, ← Int.toNat_of_nonneg h0, ← Int.natCast_emod, Int.toNat_natCast, Int.toNat_natCast]
      have e2 : ((k.toNat / (occ z b.rd 0).length * b.rd.length : Nat) : Int) = k / b.cn z * b.cnt := by
        rw [Int.natCast_mul, Int.natCast_ediv, ob, lb, Int.toNat_of_nonneg h0]
      rw [e1, a2]
      refine ⟨by omega, ?_⟩
      show some ((b.ixr z (k % b.cn z)).toNat + k.toNat / (occ z b.rd 0).length * b.rd.length) = some _
      congr 1
      omega
    · obtain ⟨a, b'⟩ := Pg.ixr_occ z (k := k - n * b.cn z) h.2.2.2.2 (by omega) (by omega)
      have ol := occ_flat_len z b.rd n.toNat
      rw [if_neg c, List.getElem?_append_right (by omega), List.getElem?_map, show k.toNat - (occ z (List.replicate n.toNat b.rd).flatten 0).length = (k - n * b.cn z).toNat by omega, b']
      refine ⟨by omega, ?_⟩
      show some ((r.ixr z (k - n * b.cn z)).toNat + (0 + (List.replicate n.toNat b.rd).flatten.length)) = some _
      congr 1
      omega
/-! ### promises -/
def spCkIx : Sp := fun vs H Q _ => ∃ i n : Int, vs = [.int i, .int n] ∧ 0 ≤ i ∧ i < n ∧ RetV .non H Q
def spCountOf (d : Nat) : Sp := fun vs H Q _ => ∃ (v : V) (g : Pg) (B z : Int), vs = [v, .int z] ∧ IsPg H v g ∧ g.dep < d ∧ d ≤ 100 ∧ BB B ∧ g.Ok B ∧ g.scs.length ≤ 2 ^ 18 ∧ RetV (.int (g.cn z)) H Q
def spIxRead (d : Nat) : Sp := fun vs H Q _ => ∃ (v : V) (g : Pg) (B z k : Int), vs = [v, .int z, .int k] ∧ IsPg H v g ∧ g.dep < d ∧ d ≤ 20 ∧ BB B ∧ g.Ok B ∧ g.scs.length ≤ 2 ^ 18 ∧ 0 ≤ k ∧ k < g.cn z ∧ RetV (.int (g.ixr z k)) H Q
def spIxPart (d : Nat) : Sp := fun vs H Q _ => ∃ (v : V) (B z k : Int), BB B ∧ 0 ≤ k ∧ vs = [v, .int z, .int k] ∧ ((∃ s, IsSc H v s ∧ k < cnS z s ∧ RetV (.int (absI (z - s.1))) H Q) ∨
  (∃ t n u bs b, v = .ref t ∧ H t = some (.tup [.int n, .ref u]) ∧ H u = some (.tup bs) ∧ Its H b bs ∧ b.dep < d ∧ d ≤ 20 ∧ (Pg.rp n b .nil).Ok B ∧ b.scs.length ≤ 2 ^ 18 ∧ k < n * b.cn z ∧ RetV (.int (k / b.cn z * b.cnt + b.ixr z (k % b.cn z))) H Q))
def spCountReads (C : Addr) : Sp := fun vs H Q _ => ∃ (x : Addr) (g : Pg) (z : Int), vs = [.ref x, .int z] ∧ PgAt C H x g ∧ Med g ∧ 0 ≤ z ∧ RetV (.int (g.cn z)) H Q
def spNthRead (C : Addr) : Sp := fun vs H Q _ => ∃ (x : Addr) (g : Pg) (z k : Int), vs = [.ref x, .int z, .int k] ∧ PgAt C H x g ∧ Med g ∧ 0 ≤ z ∧ 0 ≤ k ∧ k < g.cn z ∧ RetV (.int (g.ixr z k)) H Q
theorem Pg.ixr_sc {z : Int} {s : Sc} {r : Pg} {k : Int} (h : k < cnS z s) : (Pg.sc s r).ixr z k = absI (z - s.1) := if_pos h
theorem Pg.ixr_rp {z n : Int} {b r : Pg} {k : Int} (h : k < n * b.cn z) : (Pg.rp n b r).ixr z k = k / b.cn z * b.cnt + b.ixr z (k % b.cn z) := if_pos h
theorem Pg.ixr_app {B : Int} {z : Int} : ∀ {a c : Pg} {k : Int}, a.Ok B → a.cn z ≤ k → (a.app c).ixr z k = a.cnt + c.ixr z (k - a.cn z)
  | .nil, c, k, _, _ => by
    show c.ixr z k = 0 + c.ixr z (k - 0)
    rw [Int.zero_add, Int.sub_zero]
  | .sc s r, c, k, h, l => by
    have l : cnS z s + r.cn z ≤ k := l
    have b := (Pg.cn_bd z h.2).1
    show (if k < cnS z s then absI (z - s.1) else slen s + (r.app c).ixr z (k - cnS z s)) = slen s + r.cnt + c.ixr z (k - (cnS z s + r.cn z))
    rw [if_neg (by omega), Pg.ixr_app h.2 (by omega), Int.add_assoc, show k - cnS z s - r.cn z = k - (cnS z s + r.cn z) by omega]
  | .rp n x r, c, k, h, l => by
    have l : n * x.cn z + r.cn z ≤ k := l
    have b := (Pg.cn_bd z h.2.2.2.2).1
    show (if k < n * x.cn z then k / x.cn z * x.cnt + x.ixr z (k % x.cn z) else n * x.cnt + (r.app c).ixr z (k - n * x.cn z)) = n * x.cnt + r.cnt + c.ixr z (k - (n * x.cn z + r.cn z))
    rw [if_neg (by omega), Pg.ixr_app h.2.2.2.2 (by omega), Int.add_assoc, show k - n * x.cn z - r.cn z = k - (n * x.cn z + r.cn z) by omega]
end Kb

namespace Kb
open PySem PySem.Spec PyProof.Rows L2 TL
/-- a row of scans of addresses from low up to low + 5 -/
structure Row (low : Int) (m : Nat) (g : Pg) : Prop where
  ok : g.Ok (low + 5)
  dep : g.dep = 0
  few : g.scs.length = m
  cnt : g.cnt ≤ 6 * m
def spFew : Sp := fun vs H Q _ => ∃ (b : Addr) (many : Nat) (low : Int) (n : Nat), vs = [.ref b, .int many, .int low] ∧ Pd H b n ∧ n ≤ 2 ^ 50 ∧ many ≤ 100 ∧ 0 ≤ low ∧ low ≤ 10 ^ 20 ∧ ∀ p H' g, Nx H H' → Pd H' b (n + 2 * many) → IsQ Any H' p g → Row low many g → Q (.ref p) H'
def spWide : Sp := fun vs H Q _ => ∃ (b : Addr) (n : Nat), vs = [.ref b] ∧ Pd H b n ∧ n ≤ 2 ^ 49 ∧ ∀ p H' g, Nx H H' → Pd H' b (n + 100) → IsQ Any H' p g → Lim g → 1 ≤ g.cnt → g.cnt ≤ 10000 → Q (.ref p) H'

def pdLL (xs : List (List Int)) : PyData := .list (xs.map pdI)
theorem shaped_LL (xs : List (List Int)) : SeqAt.shaped (pdLL xs) = true := by
  have h : PyData.canLayAll0 (xs.map pdI) = true ∧ PyData.depthAll (xs.map pdI) ≤ 1 := by
    induction xs with
    | nil => exact ⟨rfl, Nat.zero_le _⟩
    | cons x r ih =>
      have s1 : PyData.canLayAll0 (x.map PyData.int) = true ∧ PyData.depthAll (x.map PyData.int) = 0 := by
        induction x with
        | nil => exact ⟨rfl, rfl⟩
        | cons a b ih2 =>
          refine ⟨?_, ?_⟩
          · show (true && PyData.canLayAll0 (b.map PyData.int)) = true
            rw [ih2.1]
            rfl
          · show max 0 (PyData.depthAll (b.map PyData.int)) = 0
            rw [ih2.2]
            rfl
      refine ⟨?_, ?_⟩
      · show (PyData.canLayAll0 (x.map PyData.int) && PyData.canLayAll0 (r.map pdI)) = true
        rw [s1.1, ih.1]
        rfl
      · show max (PyData.depthAll (x.map PyData.int) + 1) (PyData.depthAll (r.map pdI)) ≤ 1
        have := ih.2
        omega
  show (PyData.canLayAll0 (xs.map pdI) && decide (PyData.depthAll (xs.map pdI) + 1 ≤ 64)) = true
  rw [h.1, decide_eq_true (by have := h.2; omega)]
  rfl
theorem eqv_LL : ∀ xs ys : List (List Int), PyData.eqv (pdLL xs) (pdLL ys) = decide (xs = ys)
  | [], [] => rfl
  | [], _ :: _ => rfl
  | _ :: _, [] => rfl
  | x :: r, y :: q => by
    show (PyData.eqv (pdI x) (pdI y) && PyData.eqv (pdLL r) (pdLL q)) = _
    rw [eqv_I, eqv_LL r q, Bool.eq_iff_iff]
    simp
def IlAt (H : Hp) (D : Addr) (v : V) (ns : List Int) : Prop := ∃ p, v = .ref p ∧ p ≠ D ∧ H p = some (.lst (ns.map V.int))
theorem IlAt.mono {H H' : Hp} {D : Addr} (e : Ex H H') {v : V} {ns : List Int} (h : IlAt H D v ns) : IlAt H' D v ns := by
  obtain ⟨p, h1, h2, h3⟩ := h
  exact ⟨p, h1, h2, e _ _ h3⟩
theorem IlAt.mut {H : Hp} {D : Addr} {o : HO} {v : V} {ns : List Int} (h : IlAt H D v ns) : IlAt (upd H D o) D v ns := by
  obtain ⟨p, h1, h2, h3⟩ := h
  exact ⟨p, h1, h2, by rw [upd_ne h2]; exact h3⟩
theorem strok_txt {B : Int} {g : Pg} (ok : g.Ok B) : PyData.strOk (txt g) = true := by
  unfold PyData.strOk
  rw [all_tl]
  refine List.all_eq_true.mpr fun c hc => ?_
  have := txt_chars ok c hc
  exact decide_eq_true (by omega)
theorem shaped_X {B : Int} {a b : Pg} (oa : a.Ok B) (ob : b.Ok B) : SeqAt.shaped (.list [.str (txt a), .str (txt b)]) = true := by
  show ((PyData.strOk (txt a) && (PyData.strOk (txt b) && true)) && decide (max 0 (max 0 0) + 1 ≤ 64)) = true
  rw [strok_txt oa, strok_txt ob]
  rfl
theorem eqv_X {a b : Pg} : PyData.eqv (.list [.str (txt a), .str (txt b)]) (.list [.str (txt a), .str (txt b)]) = true := by
  show ((txt a == txt a) && ((txt b == txt b) && true)) = true
  rw [beq_self_eq_true, beq_self_eq_true]
  rfl

theorem bo_dict : bootBuiltins "dict" = some (.type "dict") := by decide +kernel
/-! ### a dict of lists, by the numbers from 0 on -/
def kvF : Nat → List Addr → List (Key × V)
  | _, [] => []
  | i, l :: ls => (.inl (i : Int), .ref l) :: kvF (i + 1) ls
theorem kvF_len : ∀ (i : Nat) (ls : List Addr), (kvF i ls).length = ls.length
  | _, [] => rfl
  | i, l :: ls => by
    show (kvF (i + 1) ls).length + 1 = ls.length + 1
    rw [kvF_len]
theorem kvF_snoc (l : Addr) : ∀ (i : Nat) (ls : List Addr), kvF i (ls ++ [l]) = kvF i ls ++ [(.inl ((i + ls.length : Nat) : Int), .ref l)]
  | i, [] => rfl
  | i, x :: ls => by
    show (Sum.inl (i : Int), V.ref x) :: kvF (i + 1) (ls ++ [l]) = _ :: (kvF (i + 1) ls ++ [(Sum.inl ((i + (ls.length + 1) : Nat) : Int), V.ref l)])
    rw [kvF_snoc l (i + 1) ls, show i + 1 + ls.length = i + (ls.length + 1) by omega]
theorem kvF_get {v : Key × V} : ∀ {i j : Nat} {ls : List Addr}, (kvF i ls)[j]? = some v → ∃ l, ls[j]? = some l ∧ v = (.inl ((i + j : Nat) : Int), .ref l)
  | i, j, [], h => by cases h
  | i, 0, l :: ls, h => by
    cases h
    exact ⟨l, rfl, rfl⟩
  | i, j + 1, l :: ls, h => by
    obtain ⟨l', h1, h2⟩ := kvF_get (i := i + 1) (j := j) (ls := ls) h
    exact ⟨l', h1, by rw [h2, show i + 1 + j = i + (j + 1) by omega]⟩
theorem kvF_val : ∀ {i j : Nat} {ls : List Addr} {l : Addr}, ls[j]? = some l → valV (kvF i ls) (.inl ((i + j : Nat) : Int)) = some (.ref l)
  | i, j, [], l, h => by cases h
  | i, 0, x :: ls, l, h => by
    cases h
    exact valV_pos (p := ((Sum.inl (i : Int) : Key), V.ref x)) rfl
  | i, j + 1, x :: ls, l, h => by
    have hl := kvF_val (i := i + 1) (j := j) (ls := ls) (l := l) h
    rw [show i + (j + 1) = i + 1 + j by omega]
    exact (valV_neg (p := ((Sum.inl (i : Int) : Key), V.ref x)) (fun e => by
      have := Sum.inl.inj e
      omega)).trans hl
theorem kvF_none : ∀ {i m : Nat} {ls : List Addr}, i + ls.length ≤ m → valV (kvF i ls) (.inl (m : Int)) = none
  | i, m, [], _ => rfl
  | i, m, x :: ls, h => by
    have h : i + (ls.length + 1) ≤ m := h
    exact (valV_neg (p := ((Sum.inl (i : Int) : Key), V.ref x)) (fun e => by
      have := Sum.inl.inj e
      omega)).trans (kvF_none (by omega))
theorem kvF_merge : ∀ (bs as : List Addr), mergeK (kvF 0 as) (kvF as.length bs) = kvF 0 (as ++ bs)
  | [], as => by
    rw [List.append_nil]
    rfl
  | b :: bs, as => by
    show mergeK (putK (kvF 0 as) (.inl (as.length : Int)) (.ref b)) (kvF (as.length + 1) bs) = _
    rw [putK_new (.ref b) (kvF_none (by omega))]
    have h := kvF_merge bs (as ++ [b])
    rw [kvF_snoc, List.length_append, List.append_assoc, Nat.zero_add] at h
    exact h
theorem kvF_made (ls : List Addr) : mergeK [] (kvF 0 ls) = kvF 0 ls := kvF_merge ls []
theorem rd_lt {W : Int} : ∀ {B : Int} {g : Pg}, g.Ok B → (∀ s ∈ g.scs, s.1 < W ∧ s.2 < W) → ∀ z ∈ g.rd, 0 ≤ z ∧ z < W
  | _, .nil, _, _, z, h => by cases h
  | B, .sc s r, h, l, z, m => by
    rcases List.mem_append.mp m with m | m
    · obtain ⟨j, hj, rfl⟩ := List.mem_map.mp m
      have hj := List.mem_range.mp hj
      have l1 := l s List.mem_cons_self
      have b := adr_bound (B := W - 1) (s := s) ⟨h.1.1, by omega, h.1.2.2.1, by omega⟩ (p := (j : Int)) (by omega) (by omega)
      exact ⟨b.1, by omega⟩
    · exact rd_lt h.2 (fun t ht => l t (List.mem_cons_of_mem _ ht)) z m
  | B, .rp n x r, h, l, z, m => by
    rcases List.mem_append.mp m with m | m
    · obtain ⟨q, hq, m⟩ := List.mem_flatten.mp m
      rw [(List.mem_replicate.mp hq).2] at m
      exact rd_lt h.2.2.2.1 (fun t ht => l t (List.mem_append_left _ ht)) z m
    · exact rd_lt h.2.2.2.2 (fun t ht => l t (List.mem_append_right _ ht)) z m
theorem occ_snoc (z x : Int) (a : List Int) : occ z (a ++ [x]) 0 = occ z a 0 ++ (if x = z then [a.length] else []) := by
  rw [occ_app, Nat.zero_add]
  rfl
theorem occ_take {z x : Int} {l : List Int} {i : Nat} (h : l[i]? = some x) : occ z (l.take (i + 1)) 0 = occ z (l.take i) 0 ++ (if x = z then [i] else []) := by
  have : i < l.length := (List.getElem?_eq_some_iff.mp h).1
  rw [List.take_add_one, h]
  show occ z (l.take i ++ [x]) 0 = _
  rw [occ_snoc, List.length_take, Nat.min_eq_left (by omega)]
theorem occ_le (z : Int) : ∀ (l : List Int) (o : Nat), (occ z l o).length ≤ l.length
  | [], _ => Nat.le_refl _
  | x :: l, o => by
    have := occ_le z l (o + 1)
    show (if x = z then o :: occ z l (o + 1) else occ z l (o + 1)).length ≤ l.length + 1
    split
    · rw [List.length_cons]
      omega
    · omega
theorem occ_lt (z : Int) : ∀ (l : List Int) (o : Nat), ∀ i ∈ occ z l o, i < o + l.length
  | [], _, i, h => by cases h
  | x :: l, o, i, h => by
    have ih := occ_lt z l (o + 1) i
    have h : i ∈ (if x = z then o :: occ z l (o + 1) else occ z l (o + 1)) := h
    show i < o + (l.length + 1)
    split at h
    · rcases List.mem_cons.mp h with e | e
      · omega
      · have := ih e
        omega
    · have := ih h
      omega
def natV (l : List Nat) : List Int := l.map fun (i : Nat) => (i : Int)
theorem Ex.lock {H H' : Hp} {d : Addr} {u : HO} {od : Obj} (h : H d = some u) (e : Ex (upd H d (.frz od u)) H') : Ex H (upd H' d u) := fun a o ha => by
  by_cases c : a = d
  · subst c
    rw [upd_same, ← ha, h]
  · rw [upd_ne c]
    exact e a o (by rw [upd_ne c]; exact ha)
theorem dget_kv {H : Hp} {d l : Addr} {ls : List Addr} {z : Int} (hd : H d = some (.dK (kvF 0 ls))) (h0 : 0 ≤ z) (h : ls[z.toNat]? = some l) : DGet H d (.int z) (some (.ref l)) := by
  have e := DGet.k (k := .inl z) hd
  have v := kvF_val (i := 0) h
  rw [Nat.zero_add, Int.toNat_of_nonneg h0] at v
  rw [v] at e
  exact e
section
variable {d : Addr} {o : Obj} {kvs : List (Key × V)} {g : TG}
/-- for k, v in d.items() -/
theorem for_items {tb : TS} {D : Ends} {σ : L2.St} {H : Hp} (Pv : Nat → L2.St → Hp → Prop) (h0 : Pv 0 σ H) (hl : ∀ i σ H, i ≤ kvs.length → Pv i σ H → H d = some (.frz o (.dK kvs)))
    (hs : ∀ i k v T σ H, kvs[i]? = some (k, v) → H T = none → Pv i σ H → g (.ref T) σ (upd H T (.tup [kV k, v])) fun σ2 H2 => tb { D with nx := Pv (i + 1), ct := Pv (i + 1), bk := D.nx } σ2 H2) (hd : ∀ σ H, Pv kvs.length σ H → D.nx σ H) :
    ∃ W : Nat → Nat → L2.St → Hp → Prop, (∃ m, W 0 m σ H) ∧ ∀ i m σ H, W i m σ H →
      ((Iti d o kvs).stop i H ∧ D.nx σ H) ∨ ((Iti d o kvs).go i H ∧ ∃ N : L2.St → Hp → Prop, (∀ σ' H', N σ' H' → ∃ m', m' < m ∧ W (i + 1) m' σ' H') ∧ ∀ x H', (Iti d o kvs).yld i H x H' → g x σ H' fun σ2 H2 => tb { D with nx := N, ct := N, bk := D.nx } σ2 H2) := by
  refine ⟨fun i m σ H => m = kvs.length - i ∧ i ≤ kvs.length ∧ Pv i σ H, ⟨kvs.length, by simp, Nat.zero_le _, h0⟩, ?_⟩
  rintro i m σ H ⟨rfl, hi, p⟩
  have q1 := hl i σ H hi p
  by_cases hlt : i < kvs.length
  · refine .inr ⟨⟨q1, hlt⟩, Pv (i + 1), fun σ' H' p' => ⟨kvs.length - (i + 1), by omega, rfl, hlt, p'⟩, fun v H' y => ?_⟩
    obtain ⟨T, k, x1, hx, rfl, nT, rfl⟩ := y
    exact hs i k x1 T σ H hx nT p
  · have e : i = kvs.length := by omega
    subst e
    exact .inl ⟨⟨q1, Nat.le_refl _⟩, hd σ H p⟩
end
theorem Pz.len {α β : Type} {R : α → β → Prop} {xs : List α} {ys : List β} (h : Paired R xs ys) : xs.length = ys.length := by
  induction h with
  | nil => rfl
  | cons _ _ ih => rw [List.length_cons, List.length_cons, ih]
theorem Pz.imp {α β : Type} {R S : α → β → Prop} (f : ∀ a b, R a b → S a b) {xs : List α} {ys : List β} (h : Paired R xs ys) : Paired S xs ys := by
  induction h with
  | nil => exact .nil
  | cons h _ ih => exact .cons (f _ _ h) ih
theorem Pz.snoc {α β : Type} {R : α → β → Prop} {x : α} {y : β} {xs : List α} {ys : List β} (h : Paired R xs ys) (r : R x y) : Paired R (xs ++ [x]) (ys ++ [y]) := by
  induction h with
  | nil => exact .cons r .nil
  | cons h _ ih => exact .cons h ih
end Kb

namespace Kb
open PySem PySem.Spec PyProof.Rows L2 StX TL
/-- (parts[:place] + head, tail + parts[place + 1:]) -/
theorem cut_tail {K : PySem.W.Frag} {H2 H4 : Hp} {t : Addr} {ws : List V} {x r px py : Pg} {m left : Int} {v vx vy : V} {y5 : Option V} {Q : VK} (ht : H2 t = some (.tup ws)) (ix : Its H2 x (ws.take x.len)) (ir : Its H2 r (ws.drop (x.len + 1))) (lall : ws.length = x.len + 1 + r.len) (e : Ex H2 H4) (ipx : IsPg H4 vx px) (ipy : IsPg H4 vy py) (l1 : px.len ≤ 2 ^ 16) (l2 : py.len ≤ 2 ^ 16) (l3 : x.len ≤ 2 ^ 16) (l4 : r.len ≤ 2 ^ 16)
    (q : ∀ t' H' va vb, H2 t' = none → Ex H2 H' → H' t' = some (.tup [va, vb]) → IsPg H' va (x.app px) → IsPg H' vb (py.app r) → Q (.ref t') H') :
    tTup (tCons (tOp (rCatA K) (tSl (rSlA K) (tVar 0) tNoPart (tPart (tVar 3))) (tVar 6)) (tCons (tOp (rCatA K) (tVar 7) (tSl (rSlA K) (tVar 0) (tPart (tOp (rI0 fun i j => V.int (i + j)) (tVar 3) (tC (V.int 1)))) tNoPart)) tNil)) [some (.ref t), some (.int m), some (.int left), some (.int (x.len : Nat)), some v, y5, some vx, some vy] H4 Q := by
  refine ⟨.ref t, rfl, .int (x.len : Nat), rfl, (x.len : Nat), rfl, t, ws, rfl, SqT.of (e _ _ ht), fun h => absurd h.2 (by rw [HT.sIx_nat]; omega), fun _ pa npa => ?_⟩
  rw [cut_at ws x.len (by omega)]
  have za := Ex.new (o := .tup (ws.take x.len)) npa
  refine ⟨vx, rfl, cat_pg ⟨pa, _, rfl, upd_same, ix.kp (e.trans za).kp⟩ (ipx.mono za) (by omega) fun va H5 e5 ia => ?_⟩
  have e25 := (e.trans za).trans e5
  refine ⟨vy, rfl, .ref t, rfl, .int (x.len : Nat), rfl, (x.len : Nat), 1, rfl, rfl, ((x.len + 1 : Nat) : Int), rfl, t, ws, rfl, SqT.of (e25 _ _ ht), fun h => absurd h.1 (by rw [HT.sIx_nat]; omega), fun _ pb npb => ?_⟩
  rw [cut_from ws (x.len + 1) (by omega)]
  have zb := Ex.new (o := .tup (ws.drop (x.len + 1))) npb
  refine cat_pg (ipy.mono ((za.trans e5).trans zb)) ⟨pb, _, rfl, upd_same, ir.kp (e25.trans zb).kp⟩ (by omega) fun vb H6 e6 ib => ⟨by show 2 ≤ sizeLine; decide, fun p3 np3 => ?_⟩
  have z3 := Ex.new (o := .tup [va, vb]) np3
  have ex := (e25.trans zb).trans e6
  exact q p3 _ va vb (ex.back np3) (ex.trans z3) upd_same (ia.mono ((zb.trans e6).trans z3)) (ib.mono z3)

/-! ### the different numbers of a list -/
def lstR : List Int → List Int
  | [] => []
  | x :: xs => x :: (lstR xs).filter fun z => !decide (z = x)
/-- in the order of the last ones, the latest first -/
def lstF (xs : List Int) : List Int := lstR xs.reverse
theorem mem_lstR {z : Int} : ∀ {xs : List Int}, z ∈ lstR xs ↔ z ∈ xs
  | [] => Iff.rfl
  | x :: xs => by
    show z ∈ x :: (lstR xs).filter _ ↔ _
    rw [List.mem_cons, List.mem_cons, List.mem_filter, mem_lstR]
    by_cases c : z = x
    · simp [c]
    · simp [c]
theorem lstR_nodup : ∀ xs : List Int, (lstR xs).Nodup
  | [] => .nil
  | x :: xs => by
    refine List.nodup_cons.mpr ⟨fun h => ?_, (lstR_nodup xs).filter _⟩
    have := (List.mem_filter.mp h).2
    simp at this
theorem lstR_app : ∀ a b : List Int, lstR (a ++ b) = lstR a ++ (lstR b).filter fun z => !decide (z ∈ a)
  | [], b => by
    show lstR b = [] ++ _
    rw [List.nil_append]
    exact (List.filter_eq_self.mpr fun z _ => by simp).symm
  | x :: a, b => by
    show x :: (lstR (a ++ b)).filter _ = x :: (lstR a).filter _ ++ (lstR b).filter _
    rw [lstR_app a b, List.filter_append, List.filter_filter]
    show x :: (_ ++ _) = x :: (_ ++ _)
    congr 2
    refine List.filter_congr fun z _ => ?_
    by_cases c : z = x <;> by_cases d : z ∈ a <;> simp [c, d]
theorem lstR_id : ∀ {xs : List Int}, xs.Nodup → lstR xs = xs
  | [], _ => rfl
  | x :: xs, h => by
    obtain ⟨h1, h2⟩ := List.nodup_cons.mp h
    show x :: (lstR xs).filter _ = x :: xs
    rw [lstR_id h2]
    congr 1
    refine List.filter_eq_self.mpr fun z hz => ?_
    have : z ≠ x := fun e => h1 (e ▸ hz)
    simp [this]
theorem mem_lstF {z : Int} {xs : List Int} : z ∈ lstF xs ↔ z ∈ xs := by
  unfold lstF
  rw [mem_lstR, List.mem_reverse]
theorem lstF_nodup (xs : List Int) : (lstF xs).Nodup := lstR_nodup _
theorem lstF_app (a b : List Int) : lstF (a ++ b) = lstF b ++ (lstF a).filter fun z => !decide (z ∈ b) := by
  unfold lstF
  rw [List.reverse_append, lstR_app]
  congr 1
  refine List.filter_congr fun z _ => ?_
  simp
theorem lstF_snoc (a : List Int) (x : Int) : lstF (a ++ [x]) = x :: (lstF a).filter fun z => !decide (z = x) := by
  rw [lstF_app]
  show x :: _ = _
  congr 1
  refine List.filter_congr fun z _ => ?_
  simp
theorem lstF_rep (b : List Int) : ∀ n : Nat, lstF (List.replicate (n + 1) b).flatten = lstF b
  | 0 => by
    show lstF (b ++ []) = _
    rw [List.append_nil]
  | n + 1 => by
    rw [List.replicate_succ', List.flatten_append]
    show lstF (_ ++ (b ++ [])) = _
    rw [List.append_nil, lstF_app]
    have : (lstF (List.replicate (n + 1) b).flatten).filter (fun z => !decide (z ∈ b)) = [] := by
      refine List.filter_eq_nil_iff.mpr fun z hz => ?_
      rw [lstF_rep b n] at hz
      have := mem_lstF.mp hz
      simp [this]
    rw [this, List.append_nil]
theorem lstF_len {xs l : List Int} (h : ∀ z ∈ xs, z ∈ l) : (lstF xs).length ≤ l.length :=
  (lstF_nodup xs).length_le_of_subset fun z hz => h z (mem_lstF.mp hz)
/-! ### the scans of numbers that are all different -/
theorem rd_rdS (s : Sc) : rd s = rdS s := by
  unfold rd rdS
  congr 1
  funext m
  unfold adr stp
  split <;> omega
theorem rd_nodup (s : Sc) : (rd s).Nodup := by
  refine List.nodup_iff_pairwise_ne.mpr ?_
  rw [List.pairwise_iff_getElem]
  intro i j hi hj hij e
  have a := List.getElem?_eq_getElem hi
  have b := List.getElem?_eq_getElem hj
  rw [rd_len] at hi hj
  rw [rd_get hi] at a
  rw [rd_get hj, ← e, ← a] at b
  have b := Option.some.inj b
  split at b <;> omega
theorem lstF_rdS (s : Sc) : lstF (rdS s) = rd (swp s) := by
  unfold lstF
  rw [← rd_rdS, ← rd_swp, lstR_id (rd_nodup _)]
theorem sc_cases (t : Sc) : (t.1 ≤ t.2 ∧ slen t = t.2 - t.1 + 1 ∧ lo t = t.1 ∧ hi t = t.2) ∨ (t.2 < t.1 ∧ slen t = t.1 - t.2 + 1 ∧ lo t = t.2 ∧ hi t = t.1) := by
  unfold slen lo hi
  by_cases c : t.1 ≤ t.2
  · refine .inl ⟨c, ?_, ?_, ?_⟩
    · rw [if_neg (by omega)]
    · rw [if_neg (by omega)]
    · split <;> omega
  · refine .inr ⟨by omega, ?_, ?_, ?_⟩
    · rw [if_pos (by omega)]
      omega
    · rw [if_pos (by omega)]
    · rw [if_neg (by omega)]
theorem absI_one {x : Int} (h : absI x = 1) : x = 1 ∨ x = -1 := by
  unfold absI at h
  split at h <;> omega
theorem rd_join {t s : Sc} (a : Apart t s) (h : absI (s.1 - t.2) = 1) : rd (t.1, s.2) = rd t ++ rd s := by
  have lt := rd_len t
  have ls := rd_len s
  have pt := slen_pos t
  have ps := slen_pos s
  have eh := absI_one h
  have et := sc_cases t
  have es := sc_cases s
  have ej := sc_cases (t.1, s.2)
  dsimp only at ej
  unfold Apart at a
  have len : slen (t.1, s.2) = slen t + slen s := by omega
  refine List.ext_getElem? fun j => ?_
  by_cases c : j < (slen t).toNat
  · rw [List.getElem?_append_left (by omega), rd_get c, rd_get (by omega)]
    dsimp only
    congr 1
    split <;> split <;> omega
  · rw [List.getElem?_append_right (by omega)]
    by_cases d : j < (slen t).toNat + (slen s).toNat
    · rw [rd_get (by omega), rd_get (by omega)]
      dsimp only
      rw [lt, show ((j - (slen t).toNat : Nat) : Int) = (j : Int) - slen t by omega]
      congr 1
      split <;> split <;> omega
    · rw [List.getElem?_eq_none (by have := rd_len (t.1, s.2); omega), List.getElem?_eq_none (by omega)]
theorem rdL_jstep {acc : List Sc} {s : Sc} (h : ∀ t ∈ acc, Apart t s) : rdL (jstep acc s) = rdL acc ++ rd s := by
  rcases eq_nil_or_snoc acc with rfl | ⟨pre, t, rfl⟩
  · rw [jstep_nil]
    show rd s ++ [] = [] ++ rd s
    rw [List.append_nil, List.nil_append]
  · rw [jstep_snoc]
    split
    · rename_i c
      rw [rdL_app, rdL_app]
      show rdL pre ++ (rd (t.1, s.2) ++ []) = rdL pre ++ (rd t ++ []) ++ rd s
      rw [rd_join (h t (List.mem_append_right _ List.mem_cons_self)) c, List.append_nil, List.append_nil, List.append_assoc]
    · rw [rdL_app]
      show _ ++ (rd s ++ []) = _
      rw [List.append_nil]
theorem rdL_fold : ∀ (ss acc : List Sc), (acc ++ ss).Pairwise Apart → rdL (ss.foldl jstep acc) = rdL acc ++ rdL ss
  | [], acc, _ => (List.append_nil _).symm
  | s :: ss, acc, h => by
    have h1 := apart_step h
    show rdL (ss.foldl jstep (jstep acc s)) = rdL acc ++ (rd s ++ rdL ss)
    rw [rdL_fold ss _ h1, rdL_jstep, List.append_assoc]
    intro t ht
    exact (List.pairwise_append.mp h).2.2 t ht s List.mem_cons_self
theorem rdL_jn {ss : List Sc} (h : ss.Pairwise Apart) : rdL (jn ss) = rdL ss := rdL_fold ss [] h
theorem rdL_dup : ∀ xs : List Int, rdL (dup xs) = xs
  | [] => rfl
  | x :: xs => by
    show rd (x, x) ++ rdL (dup xs) = x :: xs
    rw [rdL_dup xs, rd_rdS]
    unfold rdS
    rw [show slen (x, x) = 1 from by unfold slen; dsimp only; split <;> omega]
    show adr (x, x) 0 :: xs = x :: xs
    unfold adr
    rw [if_pos (Int.le_refl _), Int.add_zero]
theorem apart_dup {xs : List Int} (h : xs.Nodup) : (dup xs).Pairwise Apart := by
  unfold dup
  refine List.pairwise_map.mpr (List.Pairwise.imp (fun {a b} (n : a ≠ b) => ?_) (List.nodup_iff_pairwise_ne.mp h))
  unfold Apart lo hi
  dsimp only
  split <;> split <;> omega
/-- the tidy list of different numbers -/
def tdy (xs : List Int) : List Sc := jn (dup xs)
theorem rdL_tdy {xs : List Int} (h : xs.Nodup) : rdL (tdy xs) = xs := by
  unfold tdy
  rw [rdL_jn (apart_dup h), rdL_dup]
theorem tdy_apart {xs : List Int} (h : xs.Nodup) : (tdy xs).Pairwise Apart := apart_jn (apart_dup h)
theorem tdy_len (xs : List Int) : (tdy xs).length ≤ xs.length := Nat.le_trans (jn_len _) (Nat.le_of_eq (List.length_map _))
theorem tdy_rd (s : Sc) : tdy (rd s) = [s] := by
  have h := jn_rdL [s]
  rw [show rdL [s] = rd s from List.append_nil _] at h
  exact h
theorem tdy_good {xs : List Int} (h : xs.Nodup) (n : ∀ z ∈ xs, 0 ≤ z) (l : xs.length ≤ 1000) : Good (tdy xs) := by
  refine ⟨fun s hs => ?_, tdy_apart h, Nat.le_trans (tdy_len xs) l⟩
  have m : ∀ z, lo s ≤ z → z ≤ hi s → 0 ≤ z := fun z h1 h2 => n z (by rw [← rdL_tdy h]; exact mem_rdL.mpr ⟨s, hs, h1, h2⟩)
  have a := m (lo s) (Int.le_refl _) (lo_hi s)
  have b := sc_cases s
  unfold Nn
  omega
theorem ahead_tdy {a b : List Int} (ha : a.Nodup) (hb : b.Nodup) : ahead (tdy a) (tdy b) = tdy (a ++ b.filter fun z => !decide (z ∈ a)) := by
  unfold ahead
  rw [rdL_tdy ha, rdL_tdy hb]
  unfold tdy
  congr 3
  refine List.filter_congr fun z _ => ?_
  unfold outL
  rw [show rdL (jn (dup a)) = a from rdL_tdy ha]
/-- the place of a number -/
def ixo : List Int → Int → Option Nat
  | [], _ => none
  | y :: ys, x => if y = x then some 0 else (ixo ys x).map (· + 1)
theorem ixo_none {x : Int} : ∀ {l : List Int}, x ∉ l → ixo l x = none
  | [], _ => rfl
  | y :: ys, h => by
    show (if y = x then some 0 else (ixo ys x).map (· + 1)) = none
    rw [if_neg fun (e : y = x) => h (e ▸ List.mem_cons_self), ixo_none fun e => h (List.mem_cons_of_mem _ e)]
    rfl
theorem ixo_some {x : Int} : ∀ {l : List Int}, x ∈ l → ∃ j, ixo l x = some j ∧ l[j]? = some x ∧ ∀ m, m < j → l[m]? ≠ some x
  | [], h => by cases h
  | y :: ys, h => by
    by_cases c : y = x
    · exact ⟨0, if_pos c, by rw [← c]; rfl, fun m hm => absurd hm (Nat.not_lt_zero _)⟩
    · have h' : x ∈ ys := by
        rcases List.mem_cons.mp h with e | e
        · exact absurd e.symm c
        · exact e
      obtain ⟨j, h1, h2, h3⟩ := ixo_some h'
      refine ⟨j + 1, ?_, h2, fun m hm => ?_⟩
      · show (if y = x then some 0 else (ixo ys x).map (· + 1)) = _
        rw [if_neg c, h1]
        rfl
      · cases m with
        | zero => exact fun e => c (Option.some.inj e)
        | succ m => exact h3 m (by omega)
def plV : Option Nat → V
  | none => .non
  | some j => .int ((j : Nat) : Int)
theorem plc_tdy {xs : List Int} (h : xs.Nodup) (x : Int) : plc (tdy xs) 0 x = plV (ixo xs x) := by
  by_cases c : x ∈ xs
  · obtain ⟨j, h1, h2, _⟩ := ixo_some c
    rw [h1, plc_at 0 (j := j) (tdy_apart h) (by rw [rdL_tdy h]; exact h2), Int.zero_add]
    rfl
  · rw [ixo_none c, plc_no 0 (by rw [rdL_tdy h]; exact c)]
    rfl
/-- how far the same number is back, and its last place -/
def farV (p : List Int) (x : Int) : V := match ixo (lstF p) x with
  | none => .non
  | some j => .int ((j : Int) + 1)
def latV (p : List Int) (x : Int) : V := match (occ x p 0).getLast? with
  | none => .non
  | some j => .int (j : Int)
/-! ### promises -/
def spLasts (d : Nat) : Sp := fun vs H Q _ => ∃ (v : V) (g : Pg) (l : List Int), vs = [v] ∧ IsPg H v g ∧ g.dep < d ∧ (∃ B, g.Ok B) ∧ l.length ≤ 1000 ∧ (∀ z ∈ g.rd, z ∈ l) ∧ ∀ p H', H p = none → Ex H H' → Scs H' p (tdy (lstF g.rd)) → Q (.ref p) H'
def spLastBef (C : Addr) : Sp := fun vs H Q _ => ∃ (x : Addr) (g : Pg) (i z : Int), vs = [.ref x, .int i] ∧ PgAt C H x g ∧ Lim g ∧ 0 ≤ i ∧ g.rd[i.toNat]? = some z ∧ RetV (latV (g.rd.take i.toNat) z) H Q
def spDistAt (C : Addr) : Sp := fun vs H Q _ => ∃ (x : Addr) (g : Pg) (i z : Int) (l : List Int), vs = [.ref x, .int i] ∧ PgAt C H x g ∧ Lim g ∧ 0 ≤ i ∧ g.rd[i.toNat]? = some z ∧ l.length ≤ 1000 ∧ (∀ z ∈ g.rd, z ∈ l) ∧ RetV (farV (g.rd.take i.toNat) z) H Q
theorem rdL_snoc {ss : List Sc} {i : Nat} {s : Sc} (e : ss[i]? = some s) : rdL (ss.take (i + 1)) = rdL (ss.take i) ++ rd s := by
  rw [List.take_add_one, e, rdL_app]
  show _ ++ (rd s ++ []) = _
  rw [List.append_nil]
theorem cntS_snoc {ss zs : List Sc} {i : Nat} {s : Sc} (e : ss[i]? = some s) : cntS (ss.take (i + 1)) zs = cntS (ss.take i) zs + (zs.filter (ins (lo s) (hi s))).length := by
  unfold cntS
  rw [List.take_add_one, e, List.map_append, List.sum_append]
  rfl
def spAddrAt (C : Addr) : Sp := fun vs H Q _ => ∃ (x : Addr) (g : Pg) (i z : Int), vs = [.ref x, .int i] ∧ PgAt C H x g ∧ Med g ∧ 0 ≤ i ∧ g.rd[i.toNat]? = some z ∧ RetV (.int z) H Q
theorem lasts_sc (a : List Int) (s : Sc) : ahead [swp s] (tdy (lstF a)) = tdy (lstF (a ++ rdS s)) := by
  rw [← tdy_rd (swp s), ahead_tdy (rd_nodup _) (lstF_nodup _), lstF_app, lstF_rdS]
  congr 2
  refine List.filter_congr fun z _ => ?_
  rw [rd_swp, rd_rdS]
  simp
theorem lasts_rp (a b : List Int) {n : Nat} (h : 1 ≤ n) : ahead (tdy (lstF b)) (tdy (lstF a)) = tdy (lstF (a ++ (List.replicate n b).flatten)) := by
  obtain ⟨m, rfl⟩ : ∃ m, n = m + 1 := ⟨n - 1, by omega⟩
  rw [ahead_tdy (lstF_nodup _) (lstF_nodup _), lstF_app, lstF_rep]
  congr 2
  refine List.filter_congr fun z _ => ?_
  congr 2
  rw [mem_lstF]
  refine propext ⟨fun h => ?_, fun h => ?_⟩
  · exact List.mem_flatten.mpr ⟨b, List.mem_replicate.mpr ⟨by omega, rfl⟩, h⟩
  · obtain ⟨l, hl, m⟩ := List.mem_flatten.mp h
    rw [(List.mem_replicate.mp hl).2] at m
    exact m
end Kb

namespace Kb
open PySem PySem.Spec PyProof.Rows L2 StX TL
/-! ### lists of numbers and None -/
def pdO : Option Int → PyData
  | none => .none
  | some n => .int n
def vO : Option Int → V
  | none => .non
  | some n => .int n
def pdOs (os : List (Option Int)) : PyData := .list (os.map pdO)
theorem dp_O {K : PySem.W.Frag} {H : Hp} : ∀ os : List (Option Int), DpAll K H (os.map vO) (os.map pdO)
  | [] => .nil
  | none :: os => .cons .non (dp_O os)
  | some n :: os => .cons (.int n) (dp_O os)
theorem dp_Os {K : PySem.W.Frag} {H : Hp} {a : Addr} {os : List (Option Int)} (h : H a = some (.lst (os.map vO))) : Dp K H (.ref a) (pdOs os) := .lst (SqL.of h) (dp_O os)
theorem shaped_Os (os : List (Option Int)) : SeqAt.shaped (pdOs os) = true := by
  have h : PyData.canLayAll0 (os.map pdO) = true ∧ PyData.depthAll (os.map pdO) = 0 := by
    induction os with
    | nil => exact ⟨rfl, rfl⟩
    | cons s r ih =>
      have s1 : PyData.canLay0 (pdO s) = true ∧ PyData.depth (pdO s) = 0 := by
        cases s <;> exact ⟨rfl, rfl⟩
      refine ⟨?_, ?_⟩
      · show (PyData.canLay0 (pdO s) && PyData.canLayAll0 (r.map pdO)) = true
        rw [s1.1, ih.1]
        rfl
      · show max (PyData.depth (pdO s)) (PyData.depthAll (r.map pdO)) = 0
        rw [s1.2, ih.2]
        rfl
  show (PyData.canLayAll0 (os.map pdO) && decide (PyData.depthAll (os.map pdO) + 1 ≤ 64)) = true
  rw [h.1, h.2]
  rfl
theorem eqv_O : ∀ a b : Option Int, PyData.eqv (pdO a) (pdO b) = decide (a = b)
  | none, none => rfl
  | none, some _ => rfl
  | some _, none => rfl
  | some a, some b => by
    show (a == b) = _
    rw [Bool.eq_iff_iff]
    simp
theorem eqv_Os : ∀ ns ms : List (Option Int), PyData.eqv (pdOs ns) (pdOs ms) = decide (ns = ms)
  | [], [] => rfl
  | [], _ :: _ => rfl
  | _ :: _, [] => rfl
  | s :: r, t :: q => by
    show (PyData.eqv (pdO s) (pdO t) && PyData.eqv (pdOs r) (pdOs q)) = _
    rw [eqv_O, eqv_Os r q, Bool.eq_iff_iff]
    simp
theorem show_Os {os : List (Option Int)} (h : ∀ n, some n ∈ os → 0 ≤ n ∧ n < 10 ^ 500) (l : os.length ≤ 3000) : (pdOs os).showable = true ∧ (pdOs os).hasDict = false ∧ (pdOs os).depth ≤ 60 ∧ (pdOs os).shown.length ≤ sizeLine := by
  have big : (10 : Nat) ^ 500 < 2 ^ 1700 := by decide +kernel
  have l2 : ∀ z : Int, 0 ≤ z → z < 10 ^ 500 → decide (z.natAbs.log2 < 1920) = true := fun z a b => decide_eq_true (Nat.lt_trans (PySem.Flt.log2_lt_of (k := 1700) (by decide) (Nat.lt_of_le_of_lt (show z.natAbs ≤ 10 ^ 500 by omega) big)) (by decide))
  have s2 : ∀ z : Int, 0 ≤ z → z < 10 ^ 500 → (PyData.shown (.int z)).length ≤ 510 := fun z a b => by
    have := PyProof.Rows.toString_length_le (k := 500) a (by decide) b
    exact Nat.le_trans this (by decide)
  have key : ∀ l : List (Option Int), (∀ n, some n ∈ l → 0 ≤ n ∧ n < 10 ^ 500) → PyData.showableAll (l.map pdO) = true ∧ PyData.hasDictAll (l.map pdO) = false ∧ PyData.leavesShortAll 510 (l.map pdO) = true ∧ PyData.bulkAll (l.map pdO) ≤ 10 * l.length ∧ PyData.depthAll (l.map pdO) = 0 := by
    intro l
    induction l with
    | nil => intro _; exact ⟨rfl, rfl, rfl, Nat.zero_le _, rfl⟩
    | cons s r ih =>
      intro hl
      obtain ⟨i1, i2, i3, i4, i5⟩ := ih fun t ht => hl t (List.mem_cons_of_mem _ ht)
      cases s with
      | none =>
        refine ⟨?_, ?_, ?_, ?_, ?_⟩
        · show (true && PyData.showableAll (r.map pdO)) = true
          rw [i1]
          rfl
        · show (false || PyData.hasDictAll (r.map pdO)) = false
          rw [i2]
          rfl
        · show (decide ((PyData.shown .none).length ≤ 510) && PyData.leavesShortAll 510 (r.map pdO)) = true
          rw [i3, decide_eq_true (by decide)]
          rfl
        · simp only [List.map_cons, pdO, PyData.bulkAll, PyData.bulk, List.length_cons]
          omega
        · show max 0 (PyData.depthAll (r.map pdO)) = 0
          omega
      | some s =>
        obtain ⟨a1, a2⟩ := hl s List.mem_cons_self
        refine ⟨?_, ?_, ?_, ?_, ?_⟩
        · show (decide (s.natAbs.log2 < 1920) && PyData.showableAll (r.map pdO)) = true
          rw [l2 _ a1 a2, i1]
          rfl
        · show (false || PyData.hasDictAll (r.map pdO)) = false
          rw [i2]
          rfl
        · show (decide ((PyData.shown (.int s)).length ≤ 510) && PyData.leavesShortAll 510 (r.map pdO)) = true
          rw [decide_eq_true (s2 _ a1 a2), i3]
          rfl
        · simp only [List.map_cons, pdO, PyData.bulkAll, PyData.bulk, List.length_cons]
          omega
        · show max 0 (PyData.depthAll (r.map pdO)) = 0
          omega
  obtain ⟨i1, i2, i3, i4, i5⟩ := key os h
  refine ⟨i1, i2, ?_, ?_⟩
  · show PyData.depthAll (os.map pdO) + 1 ≤ 60
    omega
  · have z := PyData.shown_le_bulk 510 (by decide) (pdOs os) i3
    have e : (pdOs os).bulk ≤ 10 * os.length + 10 := by
      simp only [pdOs, PyData.bulk]
      omega
    have y := Nat.mul_le_mul_left (510 + 2) e
    rw [sizeLine_eq]
    omega
def farO (p : List Int) (x : Int) : Option Int := (ixo (lstF p) x).map fun (j : Nat) => (j : Int) + 1
def latO (p : List Int) (x : Int) : Option Int := (occ x p 0).getLast?.map fun (j : Nat) => (j : Int)
theorem far_O (p : List Int) (x : Int) : farV p x = vO (farO p x) := by
  unfold farV farO
  cases ixo (lstF p) x <;> rfl
theorem lat_O (p : List Int) (x : Int) : latV p x = vO (latO p x) := by
  unfold latV latO
  cases (occ x p 0).getLast? <;> rfl
theorem farO_bd {p : List Int} {x n : Int} (h : farO p x = some n) : 0 ≤ n ∧ n ≤ p.length := by
  unfold farO at h
  obtain ⟨j, hj, rfl⟩ := Option.map_eq_some_iff.mp h
  have m : x ∈ lstF p := by
    by_cases c : x ∈ lstF p
    · exact c
    · rw [ixo_none c] at hj
      cases hj
  obtain ⟨j', h1, h2, _⟩ := ixo_some m
  rw [hj] at h1
  cases h1
  have a := (List.getElem?_eq_some_iff.mp h2).1
  have b := lstF_len (xs := p) (l := p) fun z hz => hz
  omega
theorem latO_bd {p : List Int} {x n : Int} (h : latO p x = some n) : 0 ≤ n ∧ n ≤ p.length := by
  unfold latO at h
  obtain ⟨j, hj, rfl⟩ := Option.map_eq_some_iff.mp h
  have := occ_lt x p 0 j (List.mem_of_getLast? hj)
  omega
theorem ite_tC {b : Bool} {x y : Int} {σ : L2.St} {H : Hp} {Q : VK} (h : Q (V.int (if b = true then x else y)) H) : if b = true then tC (V.int x) σ H Q else tC (V.int y) σ H Q := by
  cases b
  · exact h
  · exact h
theorem atI_m1 {α : Type} {xs : List α} {v : α} (h : xs[xs.length - 1]? = some v) : atI xs (-1) = some v := by
  rcases List.eq_nil_or_concat xs with rfl | ⟨ys, b, rfl⟩
  · cases h
  · rw [List.concat_eq_append] at *
    rw [List.length_append, List.length_singleton, Nat.add_sub_cancel, List.getElem?_append_right (Nat.le_refl _), Nat.sub_self] at h
    cases h
    exact atI_last ys _
theorem SqL.nxx {K : PySem.W.Frag} {H H' : Hp} {a : Addr} {xs : List V} (e : Nx H H') (h : SqL K H a xs) : SqL K H' a xs := by
  rcases h with (h | ⟨o, h⟩) | h
  · exact .inl (.inl (e.at h))
  · exact .inl (.inr ⟨o, e.at h⟩)
  · exact .inr h
theorem cutV_map (ms : List Int) (lo hi : Option Int) : ∃ m9 : List Int, cutV (ms.map V.int) lo hi = m9.map V.int ∧ (∀ m ∈ m9, m ∈ ms) ∧ m9.length ≤ ms.length := by
  refine ⟨(ms.drop (HT.sIx (ms.map V.int).length 0 lo)).take (HT.sIx (ms.map V.int).length (ms.map V.int).length hi - HT.sIx (ms.map V.int).length 0 lo), ?_, fun m hm => List.mem_of_mem_drop (List.mem_of_mem_take hm), ?_⟩
  · unfold cutV
    rw [List.map_take, List.map_drop]
  · rw [List.length_take, List.length_drop]
    omega
def wv0 : Pg := .sc (0, 9) (.sc (5, 14) .nil)
theorem txt_wv : Str.ofString "0-9 5-14" = txt wv0 := by decide +kernel
theorem lim_wv : Lim wv0 := ⟨⟨⟨by decide, by decide +kernel, by decide, by decide +kernel⟩, ⟨by decide, by decide +kernel, by decide, by decide +kernel⟩, trivial⟩, by decide, by decide⟩
def spWide5 : Sp := fun vs H Q _ => ∃ (b : Addr) (n : Nat), vs = [.ref b] ∧ Pd H b n ∧ n ≤ 2 ^ 49 ∧ ∀ p H' g, Nx H H' → Pd H' b (n + 100) → IsQ Any H' p g → Lim g → 1 ≤ g.cnt → g.cnt ≤ 10000 → g.Ok 5 → Q (.ref p) H'
end Kb

namespace Kb
open PySem PySem.Spec PyProof.Rows L2 StX TL
def topS (i : Nat) : Stmt := PySem.Challenge.pw_scanmisses_k04_great_lists.main.body.getD i (.Pass ⟨0, 0, 0, 0⟩)
abbrev sis_integer : Stmt := topS 9
theorem scis_integer : FnScope ["value"] ["value"] (defScope sis_integer) := ⟨rfl, rfl, rfl, by decide +kernel, rfl, by decide +kernel, by decide +kernel⟩
abbrev sis_from_zero : Stmt := topS 10
theorem scis_from_zero : FnScope ["value"] ["value"] (defScope sis_from_zero) := ⟨rfl, rfl, rfl, by decide +kernel, rfl, by decide +kernel, by decide +kernel⟩
abbrev sis_scan : Stmt := topS 11
theorem scis_scan : FnScope ["value"] ["value"] (defScope sis_scan) := ⟨rfl, rfl, rfl, by decide +kernel, rfl, by decide +kernel, by decide +kernel⟩
abbrev sis_list : Stmt := topS 12
theorem scis_list : FnScope ["value", "scan", "spans", "first", "last", "one", "two"] ["value"] (defScope sis_list) := ⟨rfl, rfl, rfl, by decide +kernel, rfl, by decide +kernel, by decide +kernel⟩
abbrev scheck_list : Stmt := topS 13
theorem sccheck_list : FnScope ["scans"] ["scans"] (defScope scheck_list) := ⟨rfl, rfl, rfl, by decide +kernel, rfl, by decide +kernel, by decide +kernel⟩
abbrev scheck_scan : Stmt := topS 14
theorem sccheck_scan : FnScope ["scan"] ["scan"] (defScope scheck_scan) := ⟨rfl, rfl, rfl, by decide +kernel, rfl, by decide +kernel, by decide +kernel⟩
abbrev scheck_address : Stmt := topS 15
theorem sccheck_address : FnScope ["address"] ["address"] (defScope scheck_address) := ⟨rfl, rfl, rfl, by decide +kernel, rfl, by decide +kernel, by decide +kernel⟩
abbrev scheck_index : Stmt := topS 16
theorem sccheck_index : FnScope ["index", "count"] ["index", "count"] (defScope scheck_index) := ⟨rfl, rfl, rfl, by decide +kernel, rfl, by decide +kernel, by decide +kernel⟩
abbrev scheck_from : Stmt := topS 17
theorem sccheck_from : FnScope ["number", "least"] ["number", "least"] (defScope scheck_from) := ⟨rfl, rfl, rfl, by decide +kernel, rfl, by decide +kernel, by decide +kernel⟩
abbrev scheck_interval : Stmt := topS 18
theorem sccheck_interval : FnScope ["low", "high"] ["low", "high"] (defScope scheck_interval) := ⟨rfl, rfl, rfl, by decide +kernel, rfl, by decide +kernel, by decide +kernel⟩
abbrev sscan_length : Stmt := topS 20
theorem scscan_length : FnScope ["scan"] ["scan"] (defScope sscan_length) := ⟨rfl, rfl, rfl, by decide +kernel, rfl, by decide +kernel, by decide +kernel⟩
abbrev saddress_in : Stmt := topS 21
theorem scaddress_in : FnScope ["scan", "place", "first", "last"] ["scan", "place"] (defScope saddress_in) := ⟨rfl, rfl, rfl, by decide +kernel, rfl, by decide +kernel, by decide +kernel⟩
abbrev splace_in : Stmt := topS 22
theorem scplace_in : FnScope ["scan", "address", "first", "last"] ["scan", "address"] (defScope splace_in) := ⟨rfl, rfl, rfl, by decide +kernel, rfl, by decide +kernel, by decide +kernel⟩
abbrev sscan_head : Stmt := topS 23
theorem scscan_head : FnScope ["scan", "many"] ["scan", "many"] (defScope sscan_head) := ⟨rfl, rfl, rfl, by decide +kernel, rfl, by decide +kernel, by decide +kernel⟩
abbrev sfirst_reaching : Stmt := topS 24
theorem scfirst_reaching : FnScope ["spans", "address", "low", "high", "middle"] ["spans", "address"] (defScope sfirst_reaching) := ⟨rfl, rfl, rfl, by decide +kernel, rfl, by decide +kernel, by decide +kernel⟩
abbrev sscan_outside : Stmt := topS 25
theorem scscan_outside : FnScope ["scan", "spans", "least", "greatest", "left", "start", "at", "low", "high"] ["scan", "spans"] (defScope sscan_outside) := ⟨rfl, rfl, rfl, by decide +kernel, rfl, by decide +kernel, by decide +kernel⟩
abbrev sall_without : Stmt := topS 26
theorem scall_without : FnScope ["scans", "low", "high"] ["scans", "low", "high"] (defScope sall_without) := ⟨rfl, rfl, rfl, by decide +kernel, rfl, by decide +kernel, by decide +kernel⟩
abbrev sothers_of : Stmt := topS 27
theorem scothers_of : FnScope ["scans", "taken", "spans", "scan", "part"] ["scans", "taken"] (defScope sothers_of) := ⟨rfl, rfl, rfl, by decide +kernel, rfl, by decide +kernel, by decide +kernel⟩
abbrev sfirst_of : Stmt := topS 28
theorem scfirst_of : FnScope ["scans", "many", "taken", "left", "scan"] ["scans", "many"] (defScope sfirst_of) := ⟨rfl, rfl, rfl, by decide +kernel, rfl, by decide +kernel, by decide +kernel⟩
abbrev scount_all : Stmt := topS 29
theorem sccount_all : FnScope ["scans", "scan"] ["scans"] (defScope scount_all) := ⟨rfl, rfl, rfl, by decide +kernel, rfl, by decide +kernel, by decide +kernel⟩
abbrev sput_ahead : Stmt := topS 30
theorem scput_ahead : FnScope ["scans", "others"] ["scans", "others"] (defScope sput_ahead) := ⟨rfl, rfl, rfl, by decide +kernel, rfl, by decide +kernel, by decide +kernel⟩
abbrev sjoined : Stmt := topS 31
theorem scjoined : FnScope ["scans", "rows", "first", "last"] ["scans"] (defScope sjoined) := ⟨rfl, rfl, rfl, by decide +kernel, rfl, by decide +kernel, by decide +kernel⟩
abbrev stidy : Stmt := topS 33
theorem sctidy : FnScope ["scans"] ["scans"] (defScope stidy) := ⟨rfl, rfl, rfl, by decide +kernel, rfl, by decide +kernel, by decide +kernel⟩
abbrev scount_addresses : Stmt := topS 34
theorem sccount_addresses : FnScope ["scans"] ["scans"] (defScope scount_addresses) := ⟨rfl, rfl, rfl, by decide +kernel, rfl, by decide +kernel, by decide +kernel⟩
abbrev sturned : Stmt := topS 35
theorem scturned : FnScope ["scans", "first", "last"] ["scans"] (defScope sturned) := ⟨rfl, rfl, rfl, by decide +kernel, rfl, by decide +kernel, by decide +kernel⟩
abbrev splace_of : Stmt := topS 36
theorem scplace_of : FnScope ["scans", "address", "ahead", "scan", "place"] ["scans", "address"] (defScope splace_of) := ⟨rfl, rfl, rfl, by decide +kernel, rfl, by decide +kernel, by decide +kernel⟩
abbrev snth_address : Stmt := topS 37
theorem scnth_address : FnScope ["scans", "index", "left", "at"] ["scans", "index"] (defScope snth_address) := ⟨rfl, rfl, rfl, by decide +kernel, rfl, by decide +kernel, by decide +kernel⟩
abbrev sfirst_part : Stmt := topS 38
theorem scfirst_part : FnScope ["scans", "many"] ["scans", "many"] (defScope sfirst_part) := ⟨rfl, rfl, rfl, by decide +kernel, rfl, by decide +kernel, by decide +kernel⟩
abbrev son_top : Stmt := topS 39
theorem scon_top : FnScope ["scans", "scan"] ["scans", "scan"] (defScope son_top) := ⟨rfl, rfl, rfl, by decide +kernel, rfl, by decide +kernel, by decide +kernel⟩
abbrev swithout : Stmt := topS 40
theorem scwithout : FnScope ["scans", "low", "high"] ["scans", "low", "high"] (defScope swithout) := ⟨rfl, rfl, rfl, by decide +kernel, rfl, by decide +kernel, by decide +kernel⟩
abbrev s_law_bag : Stmt := topS 42
theorem sc_law_bag : FnScope ["cell"] ["cell"] (defScope s_law_bag) := ⟨rfl, rfl, rfl, by decide +kernel, rfl, by decide +kernel, by decide +kernel⟩
abbrev s_law_pick : Stmt := topS 43
theorem sc_law_pick : FnScope ["bag", "many", "told", "seed", "turn", "first", "second"] ["bag", "many"] (defScope s_law_pick) := ⟨rfl, rfl, rfl, by decide +kernel, rfl, by decide +kernel, by decide +kernel⟩
abbrev s_law_joined : Stmt := topS 45
theorem sc_law_joined : FnScope ["scans", "found", "first", "last"] ["scans"] (defScope s_law_joined) := ⟨rfl, rfl, rfl, by decide +kernel, rfl, by decide +kernel, by decide +kernel⟩
abbrev s_law_mixed : Stmt := topS 46
theorem sc_law_mixed : FnScope ["bag", "items", "left", "found"] ["bag", "items"] (defScope s_law_mixed) := ⟨rfl, rfl, rfl, by decide +kernel, rfl, by decide +kernel, by decide +kernel⟩
abbrev s_law_list : Stmt := topS 47
theorem sc_law_list : FnScope ["bag", "many", "wide", "marks", "found", "low", "high", "k"] ["bag", "many", "wide"] (defScope s_law_list) := ⟨rfl, rfl, rfl, by decide +kernel, rfl, by decide +kernel, by decide +kernel⟩
def spListW : Sp := fun vs H Q _ => ∃ (b : Addr) (many wide : Int), vs = [.ref b, .int many, .int wide] ∧ H b = some (bagO b) ∧ 1 ≤ many ∧ many ≤ 200 ∧ 1 ≤ wide ∧ wide ≤ 10 ^ 100 ∧
  ∀ p H' ss, H p = none → Ex H H' → Scs H' p ss → Good ss → (∀ s ∈ ss, s.1 < wide ∧ s.2 < wide) → ss.length ≤ 210 → Q (.ref p) H'
theorem ahead_one (ss : List Sc) (s : Sc) : ahead [s] ss = jn (s :: woL ss (lo s) (hi s)) := by
  rw [← jn_rdL (s :: woL ss (lo s) (hi s))]
  unfold ahead
  show jn (dup (rdL [s] ++ _)) = jn (dup (rd s ++ rdL (woL ss (lo s) (hi s))))
  rw [rdL_woL (lo_hi s), show rdL [s] = rd s from List.append_nil _]
  congr 4
  funext z
  unfold outL
  congr 1
  refine decide_eq_decide.mpr ?_
  rw [show rdL [s] = rd s from List.append_nil _]
  exact mem_rd
section
variable {P : Program} {w : World} {K : PySem.W.Frag} {mg : Str → Option Value} {base : Heap}
theorem ok_is_integer (B : Bt mg) {f : Addr} {fd : FuncData} (F : Fun K "is_integer" "is_integer" sis_integer f fd) : FnOk P w K mg base CX0 1 f fd ["value"] spIsInteger := by
  refine F.ok scis_integer (fun vs H Q E h => ?_) (fun cdv A outer s H vs Q E hr h => ?_)
  · obtain ⟨i, rfl, _⟩ := h
    rfl
  · obtain ⟨i, rfl, q⟩ := h
    refine ⟨_, (pss_one (ps_ret (pe_and (pe_callB call_isi (by rfl) B.isinstance bo_isinstance (pa_cons (pv 0) (pa_cons (pe_bltn (v := .ty "int") (by rfl) B.int bo_int rfl) pa_nil))) (pe_one (pe_not (pe_callB call_isi (by rfl) B.isinstance bo_isinstance (pa_cons (pv 0) (pa_cons (pe_bltn (v := .ty "bool") (by rfl) B.bool bo_bool rfl) pa_nil)))))))), ?_⟩
    exact ⟨.int i, rfl, .int i, .ty "int", _, _, true, rfl, .ty _, .base (.int i), kit_ty (by decide +kernel), true, rfl, iteT
      ⟨.int i, rfl, .int i, .ty "bool", _, _, false, rfl, .ty _, .base (.int i), kit_ty (by decide +kernel), false, rfl, q.go (Ex.refl _)⟩⟩
theorem ok_is_from_zero (Dis_integer : Df P w K mg base "is_integer" 1 ["value"] spIsInteger) {f : Addr} {fd : FuncData} (F : Fun K "is_from_zero" "is_from_zero" sis_from_zero f fd) : FnOk P w K mg base CX0 2 f fd ["value"] spFromZero := by
  refine F.ok scis_from_zero (fun vs H Q E h => ?_) (fun cdv A outer s H vs Q E hr h => ?_)
  · obtain ⟨i, rfl, _⟩ := h
    rfl
  · obtain ⟨i, rfl, h0, q⟩ := h
    refine ⟨_, (pss_one (ps_ret (pe_and (pe_df Dis_integer hr (pa_cons (pv 0) pa_nil)) (pe_one (pe_cmpR op_ge (pv 0) pe_int (nomark _)))))), ?_⟩
    refine ⟨.int i, rfl, i, rfl, fun H1 e1 => ⟨true, rfl, iteT ⟨.int i, rfl, i, 0, rfl, rfl, ?_⟩⟩⟩
    show Q (.bl (decide (0 ≤ i))) H1
    rw [decide_eq_true h0]
    exact q.go e1
theorem ok_is_scan (B : Bt mg) (Dis_from_zero : Df P w K mg base "is_from_zero" 2 ["value"] spFromZero) {f : Addr} {fd : FuncData} (F : Fun K "is_scan" "is_scan" sis_scan f fd) : FnOk P w K mg base CX0 3 f fd ["value"] spIsScan := by
  refine F.ok scis_scan (fun vs H Q E h => ?_) (fun cdv A outer s H vs Q E hr h => ?_)
  · obtain ⟨v, s, rfl, _⟩ := h
    rfl
  · obtain ⟨v, ⟨x, y⟩, rfl, ⟨t, rfl, ht⟩, ⟨hx, hy⟩, q⟩ := h
    refine ⟨_, (pss_one (ps_ret (pe_and (pe_callB call_isi (by rfl) B.isinstance bo_isinstance (pa_cons (pv 0) (pa_cons (pe_bltn (v := .ty "tuple") (by rfl) B.tuple bo_tuple rfl) pa_nil))) (pe_and (pe_cmpR op_eq (pe_callB call_len_seq (by rfl) B.len bo_len (pa_cons (pv 0) pa_nil)) pe_int (nomark _)) (pe_and (pe_df Dis_from_zero hr (pa_cons (pe_ix ix_tup (pv 0) pe_int (fun _ _ => rfl)) pa_nil)) (pe_one (pe_df Dis_from_zero hr (pa_cons (pe_ix ix_tup (pv 0) pe_int (fun _ _ => rfl)) pa_nil)))))))), ?_⟩
    refine ⟨.ref t, rfl, .ref t, .ty "tuple", _, _, true, rfl, .ty _, .base (.tup ht), kit_ty (by decide +kernel), true, rfl, iteT ?_⟩
    refine ⟨.ref t, rfl, t, _, rfl, .inr (SqT.of ht), rfl, true, rfl, iteT ?_⟩
    refine ⟨.ref t, rfl, t, _, 0, _, rfl, rfl, SqT.of ht, rfl, x, rfl, hx, fun H1 e1 => ⟨true, rfl, iteT ?_⟩⟩
    exact ⟨.ref t, rfl, t, _, 1, _, rfl, rfl, SqT.of (e1 _ _ ht), rfl, y, rfl, hy, fun H2 e2 => q.go (e1.trans e2)⟩
theorem ok_is_list (B : Bt mg) (Dis_scan : Df P w K mg base "is_scan" 3 ["value"] spIsScan) {f : Addr} {fd : FuncData} (F : Fun K "is_list" "is_list" sis_list f fd) : FnOk P w K mg base CX0 4 f fd ["value"] spIsList := by
  refine F.ok scis_list (fun vs H Q E h => ?_) (fun cdv A outer s H vs Q E hr h => ?_)
  · obtain ⟨a, ss, rfl, _⟩ := h
    rfl
  · obtain ⟨a, ss, rfl, ⟨vs, ha, pa⟩, G, q⟩ := h
    refine ⟨_, (pss_cons (ps_if (pt_not (pt_val (pe_callB call_isi (by rfl) B.isinstance bo_isinstance (pa_cons (pv 0) (pa_cons (pe_bltn (v := .ty "list") (by rfl) B.list bo_list rfl) pa_nil))))) (pss_one (ps_ret pe_bl)) pss_nil)
      (pss_cons (ps_for PassesOwn.never rfl (pi_list (pv 0)) (pg_name (i := 1) scis_list.nd rfl (by first | exact Or.inl rfl | exact Or.inr rfl)) (pss_one (ps_if (pt_not (pt_val (pe_df Dis_scan hr (pa_cons (pv 1) pa_nil)))) (pss_one (ps_ret pe_bl)) pss_nil)))
      (pss_cons (ps_set (i := 2) scis_list.nd rfl (by first | exact Or.inl rfl | exact Or.inr rfl) (pe_callB cr_sortedPO (by rfl) B.sorted bo_sorted (pa_cons (pe_lc (own := [("first", 3), ("last", 4)]) (g := (gTup K 2 (gCons (gName 3) (gCons (gName 4) gNil)))) (te := (tTup (tCons (tCB _ (tCons (tVar 3) (tCons (tVar 4) tNil))) (tCons (tCB _ (tCons (tVar 3) (tCons (tVar 4) tNil))) tNil)))) rfl scis_list.nd (pi_list (pv 0)) (blkOk_by (N := ["value", "scan", "spans", "first", "last", "one", "two"]) (sc := defScope sis_list) (by decide +kernel)) (by exact fun _ _ _ _ _ => (pg_tup rfl (pgs_cons (pg_name (i := 3) scis_list.nd rfl (by first | exact Or.inl rfl | exact Or.inr rfl)) (pgs_cons (pg_name (i := 4) scis_list.nd rfl (by first | exact Or.inl rfl | exact Or.inr rfl)) pgs_nil)))) (by exact fun _ _ _ _ _ => pts_nil) (by exact fun _ _ _ _ _ => (pe_tup (pa_cons (pe_callB (call_min2 rfl) (by rfl) B.min bo_min (pa_cons (pv 3) (pa_cons (pv 4) pa_nil))) (pa_cons (pe_callB (call_max2 rfl) (by rfl) B.max bo_max (pa_cons (pv 3) (pa_cons (pv 4) pa_nil))) pa_nil))))) pa_nil)))
      (pss_one (ps_ret (pe_callB (cr_all rfl) (by rfl) B.all bo_all (pa_cons (pe_lc (own := [("one", 5), ("two", 6)]) (g := (gTup K 2 (gCons (gName 5) (gCons (gName 6) gNil)))) (te := (tOp _ (tOp (rIxT K) (tVar 5) _) (tOp (rIxT K) (tVar 6) _))) rfl scis_list.nd (pi_zip (by rfl) B.zip (pa_cons (pv 2) (pa_cons (pe_slice sl_list (pv 2) (po_some pe_int) po_none) pa_nil))) (blkOk_by (N := ["value", "scan", "spans", "first", "last", "one", "two"]) (sc := defScope sis_list) (by decide +kernel)) (by exact fun _ _ _ _ _ => (pg_tup rfl (pgs_cons (pg_name (i := 5) scis_list.nd rfl (by first | exact Or.inl rfl | exact Or.inr rfl)) (pgs_cons (pg_name (i := 6) scis_list.nd rfl (by first | exact Or.inl rfl | exact Or.inr rfl)) pgs_nil)))) (by exact fun _ _ _ _ _ => pts_nil) (by exact fun _ _ _ _ _ => (pe_cmpR op_lt (pe_ix ix_tup (pv 5) pe_int (fun _ _ => rfl)) (pe_ix ix_tup (pv 6) pe_int (fun _ _ => rfl)) (nomark _)))) pa_nil))))))), ?_⟩
    have lv : vs.length = ss.length := Pa.len pa
    -- not a list?
    refine ⟨.ref a, rfl, .ref a, .ty "list", _, _, true, rfl, .ty _, .base (.lst ha), kit_ty (by decide +kernel), true, rfl, iteF ?_⟩
    -- each one a scan
    refine ⟨.ref a, rfl, a, rfl, ⟨_, SqL.of ha⟩, for_list (xs := vs) (fun i σ H1 => ∃ y, σ = [some (.ref a), y, none, none, none, none, none] ∧ Ex H H1) ⟨none, rfl, Ex.refl _⟩ (fun i σ H1 _ p => ?_) (fun i x σ H1 hx p => ?_) (fun σ H1 p => ?_)⟩
    · obtain ⟨y, _, e1⟩ := p
      exact SqL.of (e1 _ _ ha)
    · obtain ⟨y, rfl, e1⟩ := p
      obtain ⟨s1, m1, i1⟩ := Pa.mem pa x (List.mem_of_getElem? hx)
      exact ⟨x, rfl, x, s1, rfl, i1.mono e1, G.nn _ m1, fun H2 e2 => ⟨true, rfl, iteF ⟨some x, rfl, e1.trans e2⟩⟩⟩
    -- the spans
    obtain ⟨y0, rfl, e1⟩ := p
    refine ⟨.ref a, rfl, a, rfl, ⟨_, SqL.of (e1 _ _ ha)⟩, fun D hD => lc_list (xs := vs) (fun i H2 => Ex H1 H2 ∧ ∃ us, H2 D = some (.lst us) ∧ Paired (IsSc H2) us ((ss.take i).map spn)) ?_ (fun i H2 _ p => ?_) (fun i x H2 hx p => ?_) (fun H2 p => ?_)⟩
    · exact ⟨Ex.new hD, [], upd_same, .nil⟩
    · exact SqL.of (p.1 _ _ (e1 _ _ ha))
    · obtain ⟨e2, us, hus, pus⟩ := p
      obtain ⟨⟨x1, x2⟩, gs, t, rfl, ht⟩ := Pa.get pa hx
      have lu : us.length = i := by
        have z := Pa.len pus
        rw [List.length_map, List.length_take] at z
        have y := (List.getElem?_eq_some_iff.mp gs).1
        omega
      refine ⟨t, _, rfl, SqT.of (e2 _ _ (e1 _ _ ht)), rfl, _, _, rfl, _, _, rfl, rfl, rfl, ?_⟩
      refine ⟨.int x1, rfl, .int x2, rfl, x1, x2, rfl, .int x1, rfl, .int x2, rfl, x1, x2, rfl, by show 2 ≤ sizeLine; decide, fun p np => ?_⟩
      have pD : p ≠ D := fun z => by
        rw [z, hus] at np
        cases np
      refine ⟨us, (upd_ne (Ne.symm pD)).trans hus, small1000 (by have := G.few; have := (List.getElem?_eq_some_iff.mp gs).1; omega), (e2.add np).mut hD, _, upd_same, ?_⟩
      have k1 := Pa.snoc (s := spn (x1, x2)) (Pa.mono (Ex.new np) pus) ⟨p, rfl, upd_same⟩
      rw [List.take_add_one, gs, List.map_append]
      exact Pa.lset ((upd_ne (Ne.symm pD)).trans hus) k1
    obtain ⟨e2, us, hus, pus⟩ := p
    rw [lv, List.take_length] at pus
    refine ⟨D, us, kOf H2, rfl, SqL.of hus, fun x hx => ?_, fun zs p s1 s2 np => ?_⟩
    · obtain ⟨s1, _, i1⟩ := Pa.mem pus x hx
      have ek := kOf_eq i1
      rw [ek]
      exact i1
    obtain ⟨ts, pt, per, ord⟩ := Pa.sorted pus s1 s2
    have lz := Pa.len pt
    have e3 : Ex H2 (upd H2 p (.lst zs)) := Ex.new np
    -- all(..)
    refine ⟨.ref p, rfl, .ref p, rfl, 1, rfl, p, zs, rfl, SqL.of upd_same, fun c nc => ?_⟩
    have hp : (upd (upd H2 p (.lst zs)) c (.lst (cutV zs (some 1) none))) p = some (.lst zs) := (Ex.new nc) _ _ upd_same
    refine ⟨p, c, zs, _, rfl, SqL.of hp, SqL.of upd_same, fun D2 hD2 => ?_⟩
    have ec : cutV zs (some 1) none = zs.drop 1 := by
      unfold cutV
      rw [show HT.sIx zs.length 0 (some 1) = min 1 zs.length from HT.sIx_nat zs.length 0 1, HT.sIx_none]
      cases zs with
      | nil => rfl
      | cons z r =>
        rw [List.length_cons, show min 1 (r.length + 1) = 1 by omega]
        exact List.take_of_length_le (by rw [List.length_drop, List.length_cons]; exact Nat.le_refl _)
    rw [ec] at hp hD2 ⊢
    generalize hg : upd (upd H2 p (.lst zs)) c (.lst (zs.drop 1)) = H3 at hp hD2 ⊢
    have hc : H3 c = some (.lst (zs.drop 1)) := by rw [← hg]; exact upd_same
    have e4 : Ex H2 H3 := by
      rw [← hg]
      exact e3.add nc
    have pt3 := Pa.mono e4 (Pa.lset (us' := zs) (H := H2) (D := D) hus .nil |> fun _ => pt)
    refine lc_zip (n := zs.length - 1) (xs := zs) (ys := zs.drop 1) (by rw [List.length_drop]; omega) (fun i H4 => Ex H3 H4 ∧ H4 D2 = some (.lst ((List.replicate i true).map V.bl))) ⟨Ex.new hD2, upd_same⟩ (fun i H4 _ p4 => ⟨SqL.of (p4.1 _ _ hp), SqL.of (p4.1 _ _ hc)⟩) (fun i x y T H4 hi hx hy nT p4 => ?_) (fun H4 p4 => ?_)
    · obtain ⟨e5, hL⟩ := p4
      obtain ⟨⟨x1, x2⟩, gx, tx, rfl, htx⟩ := Pa.get pt3 hx
      rw [List.getElem?_drop, Nat.add_comm 1 i] at hy
      obtain ⟨⟨y1, y2⟩, gy, ty, rfl, hty⟩ := Pa.get pt3 hy
      have hlt : x2 < y1 := G.next per ord gx gy
      have e6 : Ex H4 (upd H4 T (.tup [.ref tx, .ref ty])) := Ex.new nT
      refine ⟨T, _, rfl, SqT.of upd_same, rfl, _, _, rfl, _, _, rfl, rfl, rfl, ?_⟩
      refine ⟨.ref tx, rfl, tx, _, 1, _, rfl, rfl, SqT.of (e6 _ _ (e5 _ _ htx)), rfl, .ref ty, rfl, ty, _, 0, _, rfl, rfl, SqT.of (e6 _ _ (e5 _ _ hty)), rfl, x2, y1, rfl, rfl, _, e6 _ _ hL, ?_, ?_, ?_⟩
      · rw [List.length_map, List.length_replicate]
        have := G.few
        have z : zs.length = ss.length := by rw [lz, per.length_eq, List.length_map]
        exact small1000 (by omega)
      · exact (e5.add nT).mut hD2
      · rw [upd_same]
        show some (HO.lst (List.map V.bl (List.replicate i true) ++ [V.bl (decide (x2 < y1))])) = _
        rw [decide_eq_true hlt, List.replicate_succ', List.map_append]
        rfl
    · obtain ⟨e5, hL⟩ := p4
      refine ⟨D2, List.replicate (zs.length - 1) true, rfl, SqL.of hL, ?_⟩
      rw [show (List.replicate (zs.length - 1) true).all id = true by simp]
      exact q.go (((e1.trans e2).trans e4).trans e5)
theorem ok_check_list (Dis_list : Df P w K mg base "is_list" 4 ["value"] spIsList) {f : Addr} {fd : FuncData} (F : Fun K "check_list" "check_list" scheck_list f fd) : FnOk P w K mg base CX0 5 f fd ["scans"] spCheckList := by
  refine F.ok sccheck_list (fun vs H Q E h => ?_) (fun cdv A outer s H vs Q E hr h => ?_)
  · obtain ⟨a, ss, rfl, _⟩ := h
    rfl
  · obtain ⟨a, ss, rfl, hS, G, q⟩ := h
    refine ⟨_, (pss_one (ps_if (pt_not (pt_val (pe_df Dis_list hr (pa_cons (pv 0) pa_nil)))) (pss_one ps_never) pss_nil)), ?_⟩
    exact ⟨.ref a, rfl, a, ss, rfl, hS, G, fun H1 e1 => ⟨true, rfl, iteF (q.go e1)⟩⟩
theorem ok_check_scan (Dis_scan : Df P w K mg base "is_scan" 3 ["value"] spIsScan) {f : Addr} {fd : FuncData} (F : Fun K "check_scan" "check_scan" scheck_scan f fd) : FnOk P w K mg base CX0 4 f fd ["scan"] spCheckScan := by
  refine F.ok sccheck_scan (fun vs H Q E h => ?_) (fun cdv A outer s H vs Q E hr h => ?_)
  · obtain ⟨v, s, rfl, _⟩ := h
    rfl
  · obtain ⟨v, s, rfl, i1, n1, q⟩ := h
    refine ⟨_, (pss_one (ps_if (pt_not (pt_val (pe_df Dis_scan hr (pa_cons (pv 0) pa_nil)))) (pss_one ps_never) pss_nil)), ?_⟩
    exact ⟨v, rfl, v, s, rfl, i1, n1, fun H1 e1 => ⟨true, rfl, iteF (q.go e1)⟩⟩
theorem ok_check_address (Dis_from_zero : Df P w K mg base "is_from_zero" 2 ["value"] spFromZero) {f : Addr} {fd : FuncData} (F : Fun K "check_address" "check_address" scheck_address f fd) : FnOk P w K mg base CX0 3 f fd ["address"] spCheckAddress := by
  refine F.ok sccheck_address (fun vs H Q E h => ?_) (fun cdv A outer s H vs Q E hr h => ?_)
  · obtain ⟨i, rfl, _⟩ := h
    rfl
  · obtain ⟨i, rfl, h0, q⟩ := h
    refine ⟨_, (pss_one (ps_if (pt_not (pt_val (pe_df Dis_from_zero hr (pa_cons (pv 0) pa_nil)))) (pss_one ps_never) pss_nil)), ?_⟩
    exact ⟨.int i, rfl, i, rfl, h0, fun H1 e1 => ⟨true, rfl, iteF (q.go e1)⟩⟩
theorem ok_check_index (Dis_from_zero : Df P w K mg base "is_from_zero" 2 ["value"] spFromZero) {f : Addr} {fd : FuncData} (F : Fun K "check_index" "check_index" scheck_index f fd) : FnOk P w K mg base CX0 3 f fd ["index", "count"] spCheckIndex := by
  refine F.ok sccheck_index (fun vs H Q E h => ?_) (fun cdv A outer s H vs Q E hr h => ?_)
  · obtain ⟨i, n, rfl, _⟩ := h
    rfl
  · obtain ⟨i, n, rfl, h0, h1, q⟩ := h
    refine ⟨_, (pss_one (ps_if (pw_or (pt_not (pt_val (pe_df Dis_from_zero hr (pa_cons (pv 0) pa_nil)))) (pw_or1 (pt_cmpR op_ge (pv 0) (pv 1) (nomark _)))).pt (pss_one ps_never) pss_nil)), ?_⟩
    refine ⟨.int i, rfl, i, rfl, h0, fun H1 e1 => ⟨true, rfl, iteF ?_⟩⟩
    refine ⟨.int i, rfl, .int n, rfl, i, n, rfl, rfl, _, rfl, ?_⟩
    rw [decide_eq_false (show ¬ n ≤ i by omega)]
    exact iteF (q.go e1)
theorem ok_check_from (Dis_integer : Df P w K mg base "is_integer" 1 ["value"] spIsInteger) {f : Addr} {fd : FuncData} (F : Fun K "check_from" "check_from" scheck_from f fd) : FnOk P w K mg base CX0 3 f fd ["number", "least"] spCheckFrom := by
  refine F.ok sccheck_from (fun vs H Q E h => ?_) (fun cdv A outer s H vs Q E hr h => ?_)
  · obtain ⟨i, l, rfl, _⟩ := h
    rfl
  · obtain ⟨i, l, rfl, h0, q⟩ := h
    refine ⟨_, (pss_one (ps_if (pw_or (pt_not (pt_val (pe_df Dis_integer hr (pa_cons (pv 0) pa_nil)))) (pw_or1 (pt_cmpR op_lt (pv 0) (pv 1) (nomark _)))).pt (pss_one ps_never) pss_nil)), ?_⟩
    refine ⟨.int i, rfl, i, rfl, fun H1 e1 => ⟨true, rfl, iteF ?_⟩⟩
    refine ⟨.int i, rfl, .int l, rfl, i, l, rfl, rfl, _, rfl, ?_⟩
    rw [decide_eq_false (show ¬ i < l by omega)]
    exact iteF (q.go e1)
theorem ok_check_interval (Dis_from_zero : Df P w K mg base "is_from_zero" 2 ["value"] spFromZero) {f : Addr} {fd : FuncData} (F : Fun K "check_interval" "check_interval" scheck_interval f fd) : FnOk P w K mg base CX0 3 f fd ["low", "high"] spCheckInterval := by
  refine F.ok sccheck_interval (fun vs H Q E h => ?_) (fun cdv A outer s H vs Q E hr h => ?_)
  · obtain ⟨i, j, rfl, _⟩ := h
    rfl
  · obtain ⟨i, j, rfl, h0, h1, q⟩ := h
    refine ⟨_, (pss_one (ps_if (pw_or (pt_not (pt_val (pe_df Dis_from_zero hr (pa_cons (pv 0) pa_nil)))) (pw_or (pt_not (pt_val (pe_df Dis_from_zero hr (pa_cons (pv 1) pa_nil)))) (pw_or1 (pt_cmpR op_gt (pv 0) (pv 1) (nomark _))))).pt (pss_one ps_never) pss_nil)), ?_⟩
    refine ⟨.int i, rfl, i, rfl, h0, fun H1 e1 => ⟨true, rfl, iteF ?_⟩⟩
    refine ⟨.int j, rfl, j, rfl, by omega, fun H2 e2 => ⟨true, rfl, iteF ?_⟩⟩
    refine ⟨.int i, rfl, .int j, rfl, i, j, rfl, rfl, _, rfl, ?_⟩
    rw [decide_eq_false (show ¬ j < i by omega)]
    exact iteF (q.go (e1.trans e2))
theorem ok_scan_length (B : Bt mg) {f : Addr} {fd : FuncData} (F : Fun K "scan_length" "scan_length" sscan_length f fd) : FnOk P w K mg base CX0 1 f fd ["scan"] spScanLength := by
  refine F.ok scscan_length (fun vs H Q E h => ?_) (fun cdv A outer s H vs Q E hr h => ?_)
  · obtain ⟨v, s, rfl, _⟩ := h
    rfl
  · obtain ⟨v, ⟨x, y⟩, rfl, ⟨t, rfl, ht⟩, q⟩ := h
    refine ⟨_, (pss_one (ps_ret (pe_op op_add (pe_callB call_abs (by rfl) B.abs bo_abs (pa_cons (pe_op op_sub (pe_ix ix_tup (pv 0) pe_int (fun _ _ => rfl)) (pe_ix ix_tup (pv 0) pe_int (fun _ _ => rfl))) pa_nil)) pe_int))), ?_⟩
    exact ⟨.ref t, rfl, t, _, 1, _, rfl, rfl, SqT.of ht, rfl, .ref t, rfl, t, _, 0, _, rfl, rfl, SqT.of ht, rfl, y, x, rfl, rfl, y - x, rfl, _, 1, rfl, rfl, q.go (Ex.refl _)⟩
theorem ok_address_in {f : Addr} {fd : FuncData} (F : Fun K "address_in" "address_in" saddress_in f fd) : FnOk P w K mg base CX0 1 f fd ["scan", "place"] spAddressIn := by
  refine F.ok scaddress_in (fun vs H Q E h => ?_) (fun cdv A outer s H vs Q E hr h => ?_)
  · obtain ⟨v, s, p, rfl, _⟩ := h
    rfl
  · obtain ⟨v, ⟨x, y⟩, p, rfl, ⟨t, rfl, ht⟩, q⟩ := h
    refine ⟨_, (pss_cons (ps_asg (pv 0) (pg_tup rfl (pgs_cons (pg_name (i := 2) scaddress_in.nd rfl (by first | exact Or.inl rfl | exact Or.inr rfl)) (pgs_cons (pg_name (i := 3) scaddress_in.nd rfl (by first | exact Or.inl rfl | exact Or.inr rfl)) pgs_nil))))
      (pss_one (ps_ret (pe_ifExp (pt_cmpR op_le (pv 2) (pv 3) (nomark _)) (pe_op op_add (pv 2) (pv 1)) (pe_op op_sub (pv 2) (pv 1)))))), ?_⟩
    refine ⟨.ref t, rfl, t, _, rfl, SqT.of ht, rfl, _, _, rfl, _, _, rfl, rfl, .int x, rfl, .int y, rfl, x, y, rfl, rfl, _, rfl, ite2 (fun e => ?_) (fun e => ?_)⟩
    · have e' : x ≤ y := of_decide_eq_true e
      have z := q.go (Ex.refl H)
      rw [if_pos e'] at z
      exact ⟨.int x, rfl, .int p, rfl, x, p, rfl, rfl, z⟩
    · have e' : ¬ x ≤ y := fun z => e (decide_eq_true z)
      have z := q.go (Ex.refl H)
      rw [if_neg e'] at z
      exact ⟨.int x, rfl, .int p, rfl, x, p, rfl, rfl, z⟩
theorem ok_place_in (B : Bt mg) {f : Addr} {fd : FuncData} (F : Fun K "place_in" "place_in" splace_in f fd) : FnOk P w K mg base CX0 1 f fd ["scan", "address"] spPlaceIn := by
  refine F.ok scplace_in (fun vs H Q E h => ?_) (fun cdv A outer s H vs Q E hr h => ?_)
  · obtain ⟨v, s, p, rfl, _⟩ := h
    rfl
  · obtain ⟨v, ⟨x, y⟩, p, rfl, ⟨t, rfl, ht⟩, q⟩ := h
    have z := q.go (Ex.refl H)
    refine ⟨_, (pss_cons (ps_asg (pv 0) (pg_tup rfl (pgs_cons (pg_name (i := 2) scplace_in.nd rfl (by first | exact Or.inl rfl | exact Or.inr rfl)) (pgs_cons (pg_name (i := 3) scplace_in.nd rfl (by first | exact Or.inl rfl | exact Or.inr rfl)) pgs_nil))))
      (pss_cons (ps_if (pt_chain op_le op_le (pe_callB (call_min2 rfl) (by rfl) B.min bo_min (pa_cons (pv 2) (pa_cons (pv 3) pa_nil))) (pv 1) (pe_callB (call_max2 rfl) (by rfl) B.max bo_max (pa_cons (pv 2) (pa_cons (pv 3) pa_nil)))) (pss_one (ps_ret (pe_callB call_abs (by rfl) B.abs bo_abs (pa_cons (pe_op op_sub (pv 1) (pv 2)) pa_nil)))) pss_nil)
      (pss_one (ps_ret pe_non)))), ?_⟩
    refine ⟨.ref t, rfl, t, _, rfl, SqT.of ht, rfl, _, _, rfl, _, _, rfl, rfl, .int x, rfl, .int y, rfl, x, y, rfl, .int p, rfl, _, p, rfl, rfl, _, rfl, ite2 (fun e => ?_) (fun e => ?_)⟩
    · have e1 : lo (x, y) ≤ p := of_decide_eq_true e
      refine ⟨.int x, rfl, .int y, rfl, x, y, rfl, p, _, rfl, rfl, _, rfl, ite2 (fun e => ?_) (fun e => ?_)⟩
      · have e2 : p ≤ hi (x, y) := of_decide_eq_true e
        rw [if_pos ⟨e1, e2⟩] at z
        exact ⟨.int p, rfl, .int x, rfl, p, x, rfl, rfl, p - x, rfl, z⟩
      · have e2 : ¬ p ≤ hi (x, y) := fun z => e (decide_eq_true z)
        rw [if_neg fun z => e2 z.2] at z
        exact z
    · have e1 : ¬ lo (x, y) ≤ p := fun z => e (decide_eq_true z)
      rw [if_neg fun z => e1 z.1] at z
      exact ⟨false, rfl, iteF z⟩
theorem ok_scan_head (B : Bt mg) (Dscan_length : Df P w K mg base "scan_length" 1 ["scan"] spScanLength) (Daddress_in : Df P w K mg base "address_in" 1 ["scan", "place"] spAddressIn) {f : Addr} {fd : FuncData} (F : Fun K "scan_head" "scan_head" sscan_head f fd) :
    FnOk P w K mg base CX0 2 f fd ["scan", "many"] spScanHead := by
  refine F.ok scscan_head (fun vs H Q E h => ?_) (fun cdv A outer s H vs Q E hr h => ?_)
  · obtain ⟨v, s, m, rfl, _⟩ := h
    rfl
  · obtain ⟨v, ⟨x, y⟩, m, rfl, ⟨t, rfl, ht⟩, q⟩ := h
    refine ⟨_, (pss_one (ps_ret (pe_tup (pa_cons (pe_ix ix_tup (pv 0) pe_int (fun _ _ => rfl)) (pa_cons (pe_df Daddress_in hr (pa_cons (pv 0) (pa_cons (pe_op op_sub (pe_callB (call_min2 rfl) (by rfl) B.min bo_min (pa_cons (pv 1) (pa_cons (pe_df Dscan_length hr (pa_cons (pv 0) pa_nil)) pa_nil))) pe_int) pa_nil))) pa_nil))))), ?_⟩
    refine ⟨.ref t, rfl, t, _, 0, _, rfl, rfl, SqT.of ht, rfl, .ref t, rfl, .int m, rfl, .ref t, rfl, .ref t, (x, y), rfl, ⟨t, rfl, ht⟩, fun H1 e1 => ?_⟩
    refine ⟨_, _, rfl, _, 1, rfl, rfl, .ref t, (x, y), _, rfl, ⟨t, rfl, e1 _ _ ht⟩, fun H2 e2 => ?_⟩
    exact ⟨by show 2 ≤ sizeLine; decide, fun p np => q p _ ((e1.trans e2).back np) ((e1.trans e2).add np) upd_same⟩
theorem ok_first_reaching (B : Bt mg) {f : Addr} {fd : FuncData} (F : Fun K "first_reaching" "first_reaching" sfirst_reaching f fd) : FnOk P w K mg base CX0 1 f fd ["spans", "address"] spReach := by
  refine F.ok scfirst_reaching (fun vs H Q E h => ?_) (fun cdv A outer s H vs Q E hr h => ?_)
  · obtain ⟨p, zs, a, rfl, _⟩ := h
    rfl
  · obtain ⟨p, zs, a, rfl, ⟨vs, hp, pz⟩, few, Az, q⟩ := h
    refine ⟨_, (pss_cons (ps_par (i := 2) (j := 3) rfl scfirst_reaching.nd rfl rfl (by decide) rfl rfl (pa_cons pe_int (pa_cons (pe_callB call_len_seq (by rfl) B.len bo_len (pa_cons (pv 0) pa_nil)) pa_nil)) (by rfl))
      (pss_cons (ps_while PassesOwn.never (pt_cmpR op_lt (pv 2) (pv 3) (nomark _)) (pss_cons (ps_set (i := 4) scfirst_reaching.nd rfl (by first | exact Or.inl rfl | exact Or.inr rfl) (pe_op op_fdiv (pe_op op_add (pv 2) (pv 3)) pe_int))
      (pss_one (ps_if (pt_cmpR op_lt (pe_ix ix_tup (pe_ix ix_list (pv 0) (pv 4) (fun _ _ => rfl)) pe_int (fun _ _ => rfl)) (pv 1) (nomark _)) (pss_one (ps_set (i := 2) scfirst_reaching.nd rfl (by first | exact Or.inl rfl | exact Or.inr rfl) (pe_op op_add (pv 4) pe_int))) (pss_one (ps_set (i := 3) scfirst_reaching.nd rfl (by first | exact Or.inl rfl | exact Or.inr rfl) (pv 4)))))))
      (pss_one (ps_ret (pv 2))))), ?_⟩
    have lv : vs.length = zs.length := Pa.len pz
    refine ⟨.ref p, rfl, p, _, rfl, .inl (SqL.of hp), _, _, rfl, ?_⟩
    rw [lv]
    refine ⟨fun m σ H1 => ∃ (x y : Nat) (y4 : Option V), m = y - x ∧ σ = [some (.ref p), some (.int a), some (.int x), some (.int y), y4] ∧ Ex H H1 ∧ x ≤ y ∧ y ≤ zs.length ∧ (∀ (i : Nat) (t : Sc), zs[i]? = some t → i < x → t.2 < a) ∧ (∀ (i : Nat) (t : Sc), zs[i]? = some t → y ≤ i → a ≤ t.2),
      ⟨_, 0, zs.length, none, rfl, rfl, Ex.refl _, Nat.zero_le _, Nat.le_refl _, fun i t _ h => (by omega), fun i t hi h => by have := (List.getElem?_eq_some_iff.mp hi).1; omega⟩, fun m σ H1 hW => ?_⟩
    obtain ⟨x, y, y4, rfl, rfl, e1, xy, yl, bl, ab⟩ := hW
    refine ⟨.int x, rfl, .int y, rfl, _, _, rfl, rfl, _, rfl, ite2 (fun e => ?_) (fun e => ?_)⟩
    · have e' : (x : Int) < y := of_decide_eq_true e
      refine ⟨fun σ' H' => ∃ (x' y' : Nat) (y4 : Option V), y' - x' < y - x ∧ σ' = [some (.ref p), some (.int a), some (.int x'), some (.int y'), y4] ∧ Ex H H' ∧ x' ≤ y' ∧ y' ≤ zs.length ∧ (∀ (i : Nat) (t : Sc), zs[i]? = some t → i < x' → t.2 < a) ∧ (∀ (i : Nat) (t : Sc), zs[i]? = some t → y' ≤ i → a ≤ t.2), fun σ' H' hN => ?_, ?_⟩
      · obtain ⟨x', y', y4, c, r⟩ := hN
        exact ⟨y' - x', c, x', y', y4, rfl, r⟩
      obtain ⟨k, hk⟩ : ∃ k : Nat, k = (x + y) / 2 := ⟨_, rfl⟩
      have ek : ((x : Int) + y) / 2 = (k : Int) := by omega
      have kl : k < zs.length := by omega
      obtain ⟨v, gv, t, rfl, ht⟩ := Pa.get2 pz (List.getElem?_eq_getElem kl)
      refine ⟨.int x, rfl, .int y, rfl, _, _, rfl, rfl, _, _, rfl, rfl, ⟨by decide, by decide⟩, ?_⟩
      simp only [ek]
      refine ⟨.ref p, rfl, .int k, rfl, p, vs, k, .ref t, rfl, rfl, SqL.of (e1 _ _ hp), atI_nat gv, t, _, 1, _, rfl, rfl, SqT.of (e1 _ _ ht), rfl, .int a, rfl, _, _, rfl, rfl, _, rfl, ite2 (fun c => ?_) (fun c => ?_)⟩
      · have c' : zs[k].2 < a := of_decide_eq_true c
        refine ⟨.int k, rfl, _, _, rfl, rfl, k + 1, y, _, ?_, rfl, e1, by omega, yl, fun i u hu hi => ?_, ab⟩
        · omega
        · by_cases z : i = k
          · subst z
            rw [List.getElem?_eq_getElem kl] at hu
            cases hu
            exact c'
          · have a1 := Az.next hu (List.getElem?_eq_getElem kl) (by omega)
            have a2 := Az.leAt (List.getElem?_eq_getElem kl)
            omega
      · have c' : ¬ zs[k].2 < a := fun z => c (decide_eq_true z)
        refine ⟨.int k, rfl, x, k, _, ?_, rfl, e1, by omega, by omega, bl, fun i u hu hi => ?_⟩
        · omega
        · by_cases z : i = k
          · subst z
            rw [List.getElem?_eq_getElem kl] at hu
            cases hu
            omega
          · have a1 := Az.next (List.getElem?_eq_getElem kl) hu (by omega)
            have a2 := Az.leAt hu
            omega
    · have e' : ¬ (x : Int) < y := fun z => e (decide_eq_true z)
      have : x = y := by omega
      subst this
      exact ⟨_, rfl, q x yl bl ab H1 e1⟩
theorem ok_scan_outside (B : Bt mg) (B2 : mg "reversed" = none) (Dfirst_reaching : Df P w K mg base "first_reaching" 1 ["spans", "address"] spReach) {f : Addr} {fd : FuncData} (F : Fun K "scan_outside" "scan_outside" sscan_outside f fd) : FnOk P w K mg base CX0 2 f fd ["scan", "spans"] spOutside := by
  refine F.ok scscan_outside (fun vs H Q E h => ?_) (fun cdv A outer s H vs Q E hr h => ?_)
  · obtain ⟨v, p, s, zs, rfl, _⟩ := h
    rfl
  · obtain ⟨v, p, ⟨x, y⟩, zs, rfl, ⟨t, rfl, ht⟩, hZ, few, Az, q⟩ := h
    refine ⟨_, (pss_cons (ps_par (i := 2) (j := 3) rfl scscan_outside.nd rfl rfl (by decide) rfl rfl (pa_cons (pe_callB (cr_minT rfl) (by rfl) B.min bo_min (pa_cons (pv 0) pa_nil)) (pa_cons (pe_callB (cr_maxT rfl) (by rfl) B.max bo_max (pa_cons (pv 0) pa_nil)) pa_nil)) (by rfl))
      (pss_cons (ps_set (i := 4) scscan_outside.nd rfl (by first | exact Or.inl rfl | exact Or.inr rfl) (pe_lst pa_nil))
      (pss_cons (ps_set (i := 5) scscan_outside.nd rfl (by first | exact Or.inl rfl | exact Or.inr rfl) (pv 2))
      (pss_cons (ps_set (i := 6) scscan_outside.nd rfl (by first | exact Or.inl rfl | exact Or.inr rfl) (pe_df Dfirst_reaching hr (pa_cons (pv 1) (pa_cons (pv 2) pa_nil))))
      (pss_cons (ps_while PassesOwn.never (pw_and (pt_cmpR op_lt (pv 6) (pe_callB call_len_seq (by rfl) B.len bo_len (pa_cons (pv 1) pa_nil)) (nomark _)) (pw_and1 (pt_cmpR op_le (pe_ix ix_tup (pe_ix ix_list (pv 1) (pv 6) (fun _ _ => rfl)) pe_int (fun _ _ => rfl)) (pv 3) (nomark _)))).pt (pss_cons (ps_if (pt_cmpR op_lt (pv 5) (pe_ix ix_tup (pe_ix ix_list (pv 1) (pv 6) (fun _ _ => rfl)) pe_int (fun _ _ => rfl)) (nomark _)) (pss_one (ps_expr (pe_bm PySem.F.plainAttrs_list PySem.F.slot_list_append PySem.F.type_list_append mt_append (pv 4) (pa_cons (pe_tup (pa_cons (pv 5) (pa_cons (pe_op op_sub (pe_ix ix_tup (pe_ix ix_list (pv 1) (pv 6) (fun _ _ => rfl)) pe_int (fun _ _ => rfl)) pe_int) pa_nil))) pa_nil)))) pss_nil)
      (pss_cons (ps_set (i := 5) scscan_outside.nd rfl (by first | exact Or.inl rfl | exact Or.inr rfl) (pe_op op_add (pe_ix ix_tup (pe_ix ix_list (pv 1) (pv 6) (fun _ _ => rfl)) pe_int (fun _ _ => rfl)) pe_int))
      (pss_one (ps_aug (i := 6) scscan_outside.nd rfl (by first | exact Or.inl rfl | exact Or.inr rfl) pe_int ip_add)))))
      (pss_cons (ps_if (pt_cmpR op_le (pv 5) (pv 3) (nomark _)) (pss_one (ps_expr (pe_bm PySem.F.plainAttrs_list PySem.F.slot_list_append PySem.F.type_list_append mt_append (pv 4) (pa_cons (pe_tup (pa_cons (pv 5) (pa_cons (pv 3) pa_nil))) pa_nil)))) pss_nil)
      (pss_cons (ps_if (pt_cmpR op_le (pe_ix ix_tup (pv 0) pe_int (fun _ _ => rfl)) (pe_ix ix_tup (pv 0) pe_int (fun _ _ => rfl)) (nomark _)) (pss_one (ps_ret (pv 4))) pss_nil)
      (pss_one (ps_ret (pe_lc (own := [("low", 7), ("high", 8)]) (g := (gTup K 2 (gCons (gName 7) (gCons (gName 8) gNil)))) (te := (tTup (tCons (tVar 8) (tCons (tVar 7) tNil)))) rfl scscan_outside.nd (pi_reversed (by rfl) (Br.reversed ⟨B2⟩) (pa_cons (pv 4) pa_nil)) (blkOk_by (N := ["scan", "spans", "least", "greatest", "left", "start", "at", "low", "high"]) (sc := defScope sscan_outside) (by decide +kernel)) (by exact fun _ _ _ _ _ => (pg_tup rfl (pgs_cons (pg_name (i := 7) scscan_outside.nd rfl (by first | exact Or.inl rfl | exact Or.inr rfl)) (pgs_cons (pg_name (i := 8) scscan_outside.nd rfl (by first | exact Or.inl rfl | exact Or.inr rfl)) pgs_nil)))) (by exact fun _ _ _ _ _ => pts_nil) (by exact fun _ _ _ _ _ => (pe_tup (pa_cons (pv 8) (pa_cons (pv 7) pa_nil)))))))))))))), ?_⟩
    refine ⟨.ref t, rfl, t, x, y, rfl, ht, .ref t, rfl, t, x, y, rfl, ht, _, _, rfl, ?_⟩
    rw [show (if y < x then y else x) = lo (x, y) from rfl, show (if y > x then y else x) = hi (x, y) from rfl]
    have lg := lo_hi (x, y)
    refine ⟨Nat.zero_le _, fun L nL => ⟨.int (lo (x, y)), rfl, .ref p, rfl, .int (lo (x, y)), rfl, p, zs, lo (x, y), rfl, hZ.mono (Ex.new nL), Nat.le_trans few (by decide), Az, fun k kl bl ab H1 e1 => ?_⟩⟩
    have hL1 := e1 _ _ (upd_same (H := H) (a := L) (o := .lst []))
    have e01 : Ex H H1 := (Ex.new nL).trans e1
    obtain ⟨vs, hp, pz⟩ := hZ
    have lv : vs.length = zs.length := Pa.len pz
    refine ⟨fun m σ H2 => ∃ (k : Nat) (st : Int) (us : List V) (rows : List Sc), m = zs.length - k ∧ k ≤ zs.length ∧ σ = [some (.ref t), some (.ref p), some (.int (lo (x, y))), some (.int (hi (x, y))), some (.ref L), some (.int st), some (.int k), none, none] ∧ Ex H H2 ∧ H2 L = some (.lst us) ∧ Paired (IsSc H2) us rows ∧ OI zs (lo (x, y)) (hi (x, y)) k st rows,
      ⟨_, k, lo (x, y), [], [], rfl, kl, rfl, e01, hL1, .nil, OI.start bl ab⟩, fun m σ H2 hW => ?_⟩
    obtain ⟨k, st, us, rows, rfl, kl, rfl, e2, hus, pus, I⟩ := hW
    have lus : us.length ≤ 1001 := by
      have z := Pa.len pus
      have z2 := I.few
      have z3 := List.length_filter_le (ins (lo (x, y)) (hi (x, y))) (zs.take k)
      rw [List.length_take] at z3
      split at z2 <;> omega
    refine ⟨.int k, rfl, .ref p, rfl, p, _, rfl, .inl (SqL.of (e2 _ _ hp)), _, _, rfl, rfl, _, rfl, ?_⟩
    rw [lv]
    by_cases cc : ∃ c1 : k < zs.length, zs[k].1 ≤ hi (x, y)
    · obtain ⟨c1, c2⟩ := cc
      rw [decide_eq_true (show (k : Int) < (zs.length : Int) by omega)]
      obtain ⟨v, gv, tk, rfl, htk⟩ := Pa.get2 pz (List.getElem?_eq_getElem c1)
      have gk := List.getElem?_eq_getElem c1
      have tk2 := e2 _ _ htk
      refine iteT ⟨.ref p, rfl, .int k, rfl, p, vs, k, .ref tk, rfl, rfl, SqL.of (e2 _ _ hp), atI_nat gv, tk, _, 0, _, rfl, rfl, SqT.of tk2, rfl, .int (hi (x, y)), rfl, _, _, rfl, rfl, _, rfl, ?_⟩
      rw [decide_eq_true c2]
      refine iteT ⟨fun σ' H' => ∃ (st : Int) (us : List V) (rows : List Sc), σ' = [some (.ref t), some (.ref p), some (.int (lo (x, y))), some (.int (hi (x, y))), some (.ref L), some (.int st), some (.int ((k + 1 : Nat) : Int)), none, none] ∧ Ex H H' ∧ H' L = some (.lst us) ∧ Paired (IsSc H') us rows ∧ OI zs (lo (x, y)) (hi (x, y)) (k + 1) st rows, fun σ' H' hN => ?_, ?_⟩
      · obtain ⟨st, us, rows, r⟩ := hN
        exact ⟨zs.length - (k + 1), by omega, k + 1, st, us, rows, rfl, by omega, r⟩
      have stp := I.step Az gk lg c2
      refine ⟨.int st, rfl, .ref p, rfl, .int k, rfl, p, vs, k, .ref tk, rfl, rfl, SqL.of (e2 _ _ hp), atI_nat gv, tk, _, 0, _, rfl, rfl, SqT.of tk2, rfl, _, _, rfl, rfl, _, rfl, ite2 (fun c => ?_) (fun c => ?_)⟩
      · have c' : st < zs[k].1 := of_decide_eq_true c
        rw [if_pos c'] at stp
        refine ⟨.ref L, rfl, .inl ⟨rfl, _, .inl (.inl hus)⟩, .int st, rfl, .ref p, rfl, .int k, rfl, p, vs, k, .ref tk, rfl, rfl, SqL.of (e2 _ _ hp), atI_nat gv, tk, _, 0, _, rfl, rfl, SqT.of tk2, rfl, _, _, rfl, rfl, by show 2 ≤ sizeLine; decide, fun r nr => ?_⟩
        have Lr : L ≠ r := ne_of_none hus nr
        have er := Ex.new (o := .tup [V.int st, V.int (zs[k].1 - 1)]) nr
        refine ⟨L, us, .ref r, rfl, rfl, er _ _ hus, small20 (by omega), ?_⟩
        have ee : Ex H (upd (upd H2 r (.tup [V.int st, V.int (zs[k].1 - 1)])) L (.lst (us ++ [V.ref r]))) := (e2.trans er).mut nL
        refine ⟨.ref p, rfl, .int k, rfl, p, vs, k, .ref tk, rfl, rfl, SqL.of (ee _ _ hp), atI_nat gv, tk, _, 1, _, rfl, rfl, SqT.of (ee _ _ htk), rfl, _, _, rfl, rfl, .int k, rfl, _, _, rfl, rfl, _, us ++ [.ref r], _, rfl, ee, upd_same, ?_, stp⟩
        exact Pa.lset (er _ _ hus) (Pa.snoc (Pa.mono er pus) ⟨r, rfl, upd_same⟩)
      · have c' : ¬ st < zs[k].1 := fun z => c (decide_eq_true z)
        rw [if_neg c'] at stp
        exact ⟨.ref p, rfl, .int k, rfl, p, vs, k, .ref tk, rfl, rfl, SqL.of (e2 _ _ hp), atI_nat gv, tk, _, 1, _, rfl, rfl, SqT.of tk2, rfl, _, _, rfl, rfl, .int k, rfl, _, _, rfl, rfl, _, us, _, rfl, e2, hus, pus, stp⟩
    by_cases c1 : k < zs.length
    case' pos =>
      rw [decide_eq_true (show (k : Int) < (zs.length : Int) by omega)]
      obtain ⟨v, gv, tk, rfl, htk⟩ := Pa.get2 pz (List.getElem?_eq_getElem c1)
      have gk := List.getElem?_eq_getElem c1
      have tk2 := e2 _ _ htk
      refine iteT ⟨.ref p, rfl, .int k, rfl, p, vs, k, .ref tk, rfl, rfl, SqL.of (e2 _ _ hp), atI_nat gv, tk, _, 0, _, rfl, rfl, SqT.of tk2, rfl, .int (hi (x, y)), rfl, _, _, rfl, rfl, _, rfl, ?_⟩
      have c2 : ¬ zs[k].1 ≤ hi (x, y) := fun c2 => cc ⟨c1, c2⟩
      rw [decide_eq_false c2]
      refine iteF ?_
      have hk : ∀ u, zs[k]? = some u → hi (x, y) < u.1 := fun u hu => by
        rw [gk] at hu
        cases hu
        omega
      clear gv htk gk tk2 c2
    case' neg =>
      rw [decide_eq_false (show ¬ (k : Int) < (zs.length : Int) by omega)]
      refine iteF ?_
      have hk : ∀ u, zs[k]? = some u → hi (x, y) < u.1 := fun u hu => by
        have := (List.getElem?_eq_some_iff.mp hu).1
        omega
    all_goals
      have al := I.all Az hk
      obtain ⟨_, fw⟩ := I.stop Az hk lg
      refine ⟨.int st, rfl, .int (hi (x, y)), rfl, _, _, rfl, rfl, _, rfl, ite2 (fun c => ?_) (fun c => ?_)⟩
      case' refine_1 =>
        have c' : st ≤ hi (x, y) := of_decide_eq_true c
        rw [if_pos c'] at al fw
        refine ⟨.ref L, rfl, .inl ⟨rfl, _, .inl (.inl hus)⟩, .int st, rfl, .int (hi (x, y)), rfl, by show 2 ≤ sizeLine; decide, fun r nr => ?_⟩
        have er := Ex.new (o := .tup [V.int st, V.int (hi (x, y))]) nr
        refine ⟨L, us, .ref r, rfl, rfl, er _ _ hus, small20 (by omega), ?_⟩
        have f9 : ∃ us', (upd (upd H2 r (.tup [V.int st, V.int (hi (x, y))])) L (.lst (us ++ [V.ref r]))) L = some (.lst us') ∧ Paired (IsSc (upd (upd H2 r (.tup [V.int st, V.int (hi (x, y))])) L (.lst (us ++ [V.ref r])))) us' (rows ++ [(st, hi (x, y))]) := ⟨_, upd_same, Pa.lset (er _ _ hus) (Pa.snoc (Pa.mono er pus) ⟨r, rfl, upd_same⟩)⟩
        have ee : Ex H (upd (upd H2 r (.tup [V.int st, V.int (hi (x, y))])) L (.lst (us ++ [V.ref r]))) := (e2.trans er).mut nL
        generalize upd (upd H2 r (.tup [V.int st, V.int (hi (x, y))])) L (.lst (us ++ [V.ref r])) = H3 at f9 ee ⊢
        generalize rows ++ [(st, hi (x, y))] = rs at f9 al fw
      case' refine_2 =>
        have c' : ¬ st ≤ hi (x, y) := fun z => c (decide_eq_true z)
        rw [if_neg c'] at al fw
        have f9 : ∃ us', H2 L = some (.lst us') ∧ Paired (IsSc H2) us' rows := ⟨us, hus, pus⟩
        have ee := e2
        generalize H2 = H3 at f9 ee ⊢
        generalize rows = rs at f9 al fw
      all_goals
        obtain ⟨us3, hu3, pu3⟩ := f9
        have ht3 := ee _ _ ht
        refine ⟨.ref t, rfl, t, _, 0, _, rfl, rfl, SqT.of ht3, rfl, .ref t, rfl, t, _, 1, _, rfl, rfl, SqT.of ht3, rfl, _, _, rfl, rfl, _, rfl, ite2 (fun e => ?_) (fun e => ?_)⟩
        · have e' : x ≤ y := of_decide_eq_true e
          rw [if_pos e'] at al
          exact ⟨_, rfl, q L H3 rs nL ee ⟨us3, hu3, pu3⟩ al fw⟩
        · have e' : ¬ x ≤ y := fun z => e (decide_eq_true z)
          rw [if_neg e'] at al
          have lu3 : us3.length = rs.length := Pa.len pu3
          have cl := List.length_filter_le (ins (lo (x, y)) (hi (x, y))) zs
          refine ⟨.ref L, rfl, L, us3, rfl, SqL.of hu3, fun D2 hD2 => ?_⟩
          refine lc_rev (xs := us3) (fun i H4 => Ex H3 H4 ∧ ∃ ws, H4 D2 = some (.lst ws) ∧ Paired (IsSc H4) ws ((rs.reverse.take i).map swp)) ⟨Ex.new hD2, [], upd_same, .nil⟩ (fun i H4 _ p => SqL.of (p.1 _ _ hu3)) (fun i v H4 hx p => ?_) (fun H4 p => ?_)
          · obtain ⟨e3, ws, hws, pws⟩ := p
            obtain ⟨⟨a1, a2⟩, gs, t, rfl, ht⟩ := Pa.get (Pa.rev pu3) hx
            have li : i < us3.length := by
              have z := (List.getElem?_eq_some_iff.mp hx).1
              rwa [List.length_reverse] at z
            have lws : ws.length ≤ i := by
              have z := Pa.len pws
              rw [List.length_map, List.length_take] at z
              omega
            refine ⟨t, _, rfl, SqT.of (e3 _ _ ht), rfl, _, _, rfl, _, _, rfl, rfl, rfl, ?_⟩
            refine ⟨.int a2, rfl, .int a1, rfl, by show 2 ≤ sizeLine; decide, fun p np => ?_⟩
            have pD : D2 ≠ p := ne_of_none hws np
            refine ⟨ws, (upd_ne pD).trans hws, small20 (by omega), (e3.add np).mut hD2, _, upd_same, ?_⟩
            rw [List.take_add_one, gs, List.map_append]
            exact Pa.lset ((upd_ne pD).trans hws) (Pa.snoc (s := swp (a1, a2)) (Pa.mono (Ex.new np) pws) ⟨p, rfl, upd_same⟩)
          · obtain ⟨e3, ws, hws, pws⟩ := p
            rw [List.take_of_length_le (by rw [List.length_reverse, lu3]; exact Nat.le_refl _)] at pws
            exact q D2 H4 _ (ee.back hD2) (ee.trans e3) ⟨ws, hws, pws⟩ al (by rw [List.length_map, List.length_reverse]; exact fw)
theorem ok_others_of (B : Bt mg) (Dscan_outside : Df P w K mg base "scan_outside" 2 ["scan", "spans"] spOutside) {f : Addr} {fd : FuncData} (F : Fun K "others_of" "others_of" sothers_of f fd) : FnOk P w K mg base CX0 3 f fd ["scans", "taken"] spOthers := by
  refine F.ok scothers_of (fun vs H Q E h => ?_) (fun cdv A outer s H vs Q E hr h => ?_)
  · obtain ⟨a, t, ss, ts, rfl, _⟩ := h
    rfl
  · obtain ⟨a, t, ss, ts, rfl, hS, hT, few, tew, dis, q⟩ := h
    refine ⟨_, (pss_cons (ps_set (i := 2) scothers_of.nd rfl (by first | exact Or.inl rfl | exact Or.inr rfl) (pe_callB cr_sortedPO (by rfl) B.sorted bo_sorted (pa_cons (pe_lc (own := [("scan", 3)]) (g := (gName 3)) (te := (tTup (tCons (tCB _ (tCons (tVar 3) tNil)) (tCons (tCB _ (tCons (tVar 3) tNil)) tNil)))) rfl scothers_of.nd (pi_list (pv 1)) (blkOk_by (N := ["scans", "taken", "spans", "scan", "part"]) (sc := defScope sothers_of) (by decide +kernel)) (by exact fun _ _ _ _ _ => (pg_name (i := 3) scothers_of.nd rfl (by first | exact Or.inl rfl | exact Or.inr rfl))) (by exact fun _ _ _ _ _ => pts_nil) (by exact fun _ _ _ _ _ => (pe_tup (pa_cons (pe_callB (cr_minT rfl) (by rfl) B.min bo_min (pa_cons (pv 3) pa_nil)) (pa_cons (pe_callB (cr_maxT rfl) (by rfl) B.max bo_max (pa_cons (pv 3) pa_nil)) pa_nil))))) pa_nil)))
      (pss_one (ps_ret (pe_lc2 (own := [("scan", 3), ("part", 4)]) (vs1 := [4]) (g := (gName 3)) (g1 := (gName 4)) (wi1 := (iList K (tCall _ [] E0 (tCons (tVar 3) (tCons (tVar 2) tNil))))) (te := (tVar 4)) rfl scothers_of.nd (pi_list (pv 0)) (blkOk_by (N := ["scans", "taken", "spans", "scan", "part"]) (sc := defScope sothers_of) (by decide +kernel)) (by decide) (by exact fun _ _ _ _ _ => (pg_name (i := 3) scothers_of.nd rfl (by first | exact Or.inl rfl | exact Or.inr rfl))) (by exact fun _ _ _ _ _ => pts_nil) (by exact fun _ _ _ _ _ => (pi_list (pe_df Dscan_outside hr (pa_cons (pv 3) (pa_cons (pv 2) pa_nil))))) (by exact fun _ _ _ _ _ => (pg_name (i := 4) scothers_of.nd rfl (by first | exact Or.inl rfl | exact Or.inr rfl))) (by exact fun _ _ _ _ _ => pts_nil) (by exact fun _ _ _ _ _ => (pv 4)))))), ?_⟩
    obtain ⟨vs, ht, pt⟩ := hT
    have lv : vs.length = ts.length := Pa.len pt
    refine ⟨.ref t, rfl, t, rfl, ⟨_, SqL.of ht⟩, fun D hD => lc_list (xs := vs) (fun i H2 => Ex H H2 ∧ ∃ us, H2 D = some (.lst us) ∧ Paired (IsSc H2) us ((ts.take i).map spn)) ?_ (fun i H2 _ p => ?_) (fun i x H2 hx p => ?_) (fun H2 p => ?_)⟩
    · exact ⟨Ex.new hD, [], upd_same, .nil⟩
    · exact SqL.of (p.1 _ _ ht)
    · obtain ⟨e2, us, hus, pus⟩ := p
      obtain ⟨⟨x1, x2⟩, gs, tp, rfl, htp⟩ := Pa.get pt hx
      have lu : us.length = i := by
        have z := Pa.len pus
        rw [List.length_map, List.length_take] at z
        have y := (List.getElem?_eq_some_iff.mp gs).1
        omega
      refine ⟨rfl, .ref tp, rfl, tp, x1, x2, rfl, e2 _ _ htp, .ref tp, rfl, tp, x1, x2, rfl, e2 _ _ htp, by show 2 ≤ sizeLine; decide, fun p np => ?_⟩
      have pD : p ≠ D := fun z => by
        rw [z, hus] at np
        cases np
      refine ⟨us, (upd_ne (Ne.symm pD)).trans hus, small1000 (by have := (List.getElem?_eq_some_iff.mp gs).1; omega), (e2.add np).mut hD, _, upd_same, ?_⟩
      have k1 := Pa.snoc (s := spn (x1, x2)) (Pa.mono (Ex.new np) pus) ⟨p, rfl, upd_same⟩
      rw [List.take_add_one, gs, List.map_append]
      exact Pa.lset ((upd_ne (Ne.symm pD)).trans hus) k1
    obtain ⟨e2, us, hus, pus⟩ := p
    rw [lv, List.take_length] at pus
    refine ⟨D, us, kOf H2, rfl, SqL.of hus, fun x hx => ?_, fun zv p s1 s2 np => ?_⟩
    · obtain ⟨s1, _, i1⟩ := Pa.mem pus x hx
      have ek := kOf_eq i1
      rw [ek]
      exact i1
    obtain ⟨zs, pz, per, ord⟩ := Pa.sorted pus s1 s2
    have Az := asc_of dis per ord
    have lz : zs.length = ts.length := by rw [per.length_eq, List.length_map]
    have lzv := Pa.len pz
    have e3 : Ex H2 (upd H2 p (.lst zv)) := Ex.new np
    have hZ : Scs (upd H2 p (.lst zv)) p zs := ⟨zv, upd_same, Pa.mono e3 pz⟩
    have e03 := e2.trans e3
    generalize upd H2 p (.lst zv) = H3 at hZ e03 ⊢
    have fe : (rdL ss).filter (outL ts) = (rdL ss).filter (out zs) := by
      rw [show outL ts = out zs from funext fun z => (out_eq per z).symm]
    obtain ⟨vs, ha, pa⟩ := hS
    have lv : vs.length = ss.length := Pa.len pa
    have cb : ∀ i, i ≤ ss.length → cntS (ss.take i) zs ≤ i * ts.length := fun i hi => by
      have := cntS_le (ss.take i) zs
      rw [List.length_take, Nat.min_eq_left hi, lz] at this
      exact this
    refine ⟨.ref a, rfl, a, rfl, ⟨_, SqL.of (e03 _ _ ha)⟩, fun D hD => two_list (xs := vs) (fun i H2 => Ex H3 H2 ∧ ∃ us rows, H2 D = some (.lst us) ∧ Paired (IsSc H2) us rows ∧ rdL rows = (rdL (ss.take i)).filter (out zs) ∧ rows.length ≤ i + cntS (ss.take i) zs) ⟨Ex.new hD, [], [], upd_same, .nil, rfl, Nat.zero_le _⟩ (fun i H2 _ p => SqL.of (p.1 _ _ (e03 _ _ ha))) (fun i v H2 hx p => ?_) (fun H2 p => ?_)⟩
    · obtain ⟨e2, us, rows, hus, pus, er, fr⟩ := p
      obtain ⟨s1, gs, i1⟩ := Pa.get pa hx
      have li : i < ss.length := (List.getElem?_eq_some_iff.mp gs).1
      have rs := rdL_snoc gs
      have cs := cntS_snoc (zs := zs) gs
      have cbi := cb i (by omega)
      have lu : us.length ≤ i + i * ts.length := by
        have z := Pa.len pus
        omega
      have big : i * ts.length ≤ 999 * 1000 := Nat.mul_le_mul (by omega) tew
      refine ⟨rfl, v, rfl, .ref p, rfl, v, p, s1, zs, rfl, i1.mono (e03.trans e2), hZ.mono e2, by omega, Az, fun p4 H4 ys np4 e4 hp4 ry fy => ?_⟩
      obtain ⟨yv, hyv, pyv⟩ := hp4
      have ly := Pa.len pyv
      have cl := List.length_filter_le (ins (lo s1) (hi s1)) zs
      have pD : p4 ≠ D := fun z => by
        rw [z, hus] at np4
        cases np4
      refine ⟨p4, rfl, ⟨_, SqL.of hyv⟩, in_list (ys := yv) (fun j H5 => Ex H3 H5 ∧ H5 p4 = some (.lst yv) ∧ Paired (IsSc H5) yv ys ∧ ∃ zv, H5 D = some (.lst zv) ∧ zv.length = us.length + j ∧ Paired (IsSc H5) zv (rows ++ ys.take j)) ?_ (fun j H5 _ z => SqL.of z.2.1) (fun j x H5 hx z => ?_) (fun H5 z => ?_)⟩
      · refine ⟨e2.trans e4, hyv, pyv, us, e4 _ _ hus, rfl, ?_⟩
        rw [List.take_zero, List.append_nil]
        exact Pa.mono e4 pus
      · obtain ⟨e5, hy5, py5, wv, hwv, lw, pw⟩ := z
        obtain ⟨s2, gs2, i2⟩ := Pa.get py5 hx
        have lj : j < yv.length := (List.getElem?_eq_some_iff.mp hx).1
        refine ⟨rfl, x, rfl, wv, hwv, small20 (by omega), e5.mut hD, (upd_ne pD).trans hy5, Pa.lset hwv py5, wv ++ [x], upd_same, ?_, ?_⟩
        · rw [List.length_append, List.length_singleton, lw]
          omega
        · have z := Pa.lset (us' := wv ++ [x]) hwv (Pa.snoc pw i2)
          rw [List.append_assoc] at z
          rw [List.take_add_one, gs2]
          exact z
      · obtain ⟨e5, hy5, py5, wv, hwv, lw, pw⟩ := z
        rw [Pa.len pyv, List.take_length] at pw
        refine ⟨e5, wv, rows ++ ys, hwv, pw, ?_, ?_⟩
        · rw [rdL_app, er, ry, rs, List.filter_append]
        · rw [List.length_append, cs]
          omega
    · obtain ⟨e2, us, rows, hus, pus, er, fr⟩ := p
      rw [lv, List.take_length] at er fr
      refine q D H2 rows (e03.back hD) (e03.trans e2) ⟨us, hus, pus⟩ (by rw [fe]; exact er) ?_ fun d => ?_
      · have := cntS_le ss zs
        rw [lz] at this
        rw [Nat.mul_add, Nat.mul_one]
        omega
      · have := cntS_apart d (zs := zs) Az.le
        omega
theorem ok_all_without (Dothers_of : Df P w K mg base "others_of" 3 ["scans", "taken"] spOthers) {f : Addr} {fd : FuncData} (F : Fun K "all_without" "all_without" sall_without f fd) : FnOk P w K mg base CX0 4 f fd ["scans", "low", "high"] spAllOut := by
  refine F.ok scall_without (fun vs H Q E h => ?_) (fun cdv A outer s H vs Q E hr h => ?_)
  · obtain ⟨a, ss, l, h, rfl, _⟩ := h
    rfl
  · obtain ⟨a, ss, l, h, rfl, hS, few, hl, q⟩ := h
    refine ⟨_, (pss_one (ps_ret (pe_df Dothers_of hr (pa_cons (pv 0) (pa_cons (pe_lst (pa_cons (pe_tup (pa_cons (pv 1) (pa_cons (pv 2) pa_nil))) pa_nil)) pa_nil))))), ?_⟩
    refine ⟨.ref a, rfl, .int l, rfl, .int h, rfl, by show 2 ≤ sizeLine; decide, fun p1 np1 => ⟨by show 1 ≤ sizeLine; decide, fun p2 np2 => ?_⟩⟩
    have x1 := Ex.new (o := .tup [V.int l, V.int h]) np1
    have x2 := Ex.new (o := .lst [V.ref p1]) np2
    refine ⟨a, p2, ss, [(l, h)], rfl, hS.mono (x1.trans x2), ⟨_, upd_same, .cons ⟨p1, rfl, x2 _ _ upd_same⟩ .nil⟩, few, by show 1 ≤ 1000; decide, Apart.one _, fun p H' rows np e hp er fr fr2 => ?_⟩
    refine q p H' rows ((x1.trans x2).back np) ((x1.trans x2).trans e) hp ?_ (by rw [Nat.mul_comm]; exact fr) fr2
    rw [er]
    congr 1
    funext z
    unfold outL
    congr 1
    refine decide_eq_decide.mpr ?_
    rw [mem_rdL]
    unfold lo hi
    constructor
    · rintro ⟨u, hu, a, b⟩
      rw [List.mem_singleton] at hu
      subst hu
      revert a b
      show (if h < l then h else l) ≤ z → z ≤ (if h > l then h else l) → _
      split <;> split <;> intros <;> omega
    · rintro ⟨a, b⟩
      refine ⟨(l, h), List.mem_singleton.mpr rfl, ?_⟩
      show (if h < l then h else l) ≤ z ∧ z ≤ (if h > l then h else l)
      split <;> split <;> omega
theorem ok_first_of (Dscan_head : Df P w K mg base "scan_head" 2 ["scan", "many"] spScanHead) (Dscan_length : Df P w K mg base "scan_length" 1 ["scan"] spScanLength) {f : Addr} {fd : FuncData} (F : Fun K "first_of" "first_of" sfirst_of f fd) : FnOk P w K mg base CX0 3 f fd ["scans", "many"] spFirstOf := by
  refine F.ok scfirst_of (fun vs H Q E h => ?_) (fun cdv A outer s H vs Q E hr h => ?_)
  · obtain ⟨a, ss, m, rfl, _⟩ := h
    rfl
  · obtain ⟨a, ss, m, rfl, ⟨vs, ha, pa⟩, few, q⟩ := h
    refine ⟨_, (pss_cons (ps_set (i := 2) scfirst_of.nd rfl (by first | exact Or.inl rfl | exact Or.inr rfl) (pe_lst pa_nil))
      (pss_cons (ps_set (i := 3) scfirst_of.nd rfl (by first | exact Or.inl rfl | exact Or.inr rfl) (pv 1))
      (pss_cons (ps_for PassesOwn.never rfl (pi_list (pv 0)) (pg_name (i := 4) scfirst_of.nd rfl (by first | exact Or.inl rfl | exact Or.inr rfl)) (pss_cons (ps_if (pt_cmpR op_gt (pv 3) pe_int (nomark _)) (pss_one (ps_expr (pe_bm PySem.F.plainAttrs_list PySem.F.slot_list_append PySem.F.type_list_append mt_append (pv 2) (pa_cons (pe_df Dscan_head hr (pa_cons (pv 4) (pa_cons (pv 3) pa_nil))) pa_nil)))) pss_nil)
      (pss_one (ps_set (i := 3) scfirst_of.nd rfl (by first | exact Or.inl rfl | exact Or.inr rfl) (pe_op op_sub (pv 3) (pe_df Dscan_length hr (pa_cons (pv 4) pa_nil)))))))
      (pss_one (ps_ret (pv 2)))))), ?_⟩
    have lv : vs.length = ss.length := Pa.len pa
    refine ⟨Nat.zero_le _, fun p np => ⟨_, rfl, ?_⟩⟩
    have e12 := Ex.refl H
    have np0 := np
    refine ⟨.ref a, rfl, a, rfl, ⟨_, SqL.of ((e12.add np) _ _ ha)⟩, for_list (xs := vs) (fun i σ H3 => ∃ y5 us, σ = [some (.ref a), some (.int m), some (.ref p), some (.int (m - psum (ss.take i))), y5] ∧ Ex H H3 ∧ H3 p = some (.lst us) ∧ Paired (IsSc H3) us (fpart (ss.take i) m))
      ⟨none, [], ?_, e12.add np, upd_same, .nil⟩ (fun i σ H3 _ z => ?_) (fun i v σ H3 hx z => ?_) (fun σ H3 z => ?_)⟩
    · show _ = [some (V.ref a), some (V.int m), some (V.ref p), some (V.int (m - 0)), none]
      rw [Int.sub_zero]
      rfl
    · obtain ⟨_, _, _, e3, _⟩ := z
      exact SqL.of (e3 _ _ ha)
    · obtain ⟨y5, us, rfl, e3, hus, pus⟩ := z
      obtain ⟨s1, gs, i1⟩ := Pa.get pa hx
      have li : i < ss.length := (List.getElem?_eq_some_iff.mp gs).1
      have fs := fpart_snoc (m := m) gs
      have lu : us.length ≤ i := by
        have z := Pa.len pus
        have z2 := fpart_len (ss.take i) m
        rw [List.length_take] at z2
        omega
      have pz := psum_snoc gs
      refine ⟨_, rfl, _, 0, rfl, rfl, _, rfl, ite2 (fun e => ?_) (fun e => ?_)⟩
      · have e' : 0 < m - psum (ss.take i) := of_decide_eq_true e
        rw [if_pos e'] at fs
        refine ⟨.ref p, rfl, .inl ⟨rfl, _, .inl (.inl hus)⟩, v, rfl, _, rfl, v, s1, _, rfl, i1.mono e3, fun c H4 nc e4 hc => ?_⟩
        have pc : p ≠ c := ne_of_none hus nc
        refine ⟨p, us, .ref c, rfl, rfl, e4 _ _ hus, small1000 (by have := few; omega), ?_⟩
        refine ⟨_, rfl, v, rfl, v, s1, rfl, (i1.mono (e3.trans e4)).lset (e4 _ _ hus), fun H5 e5 => ⟨_, _, rfl, rfl, some v, us ++ [.ref c], ?_, ((e3.trans e4).mut np0).trans e5, e5 _ _ upd_same, ?_⟩⟩
        · rw [pz, show m - (psum (ss.take i) + slen s1) = m - psum (ss.take i) - slen s1 by omega]
          rfl
        · rw [fs]
          exact Pa.mono e5 (Pa.lset (e4 _ _ hus) (Pa.snoc (Pa.mono e4 pus) ⟨c, rfl, hc⟩))
      · have e' : ¬ 0 < m - psum (ss.take i) := fun z => e (decide_eq_true z)
        rw [if_neg e', List.append_nil] at fs
        refine ⟨_, rfl, v, rfl, v, s1, rfl, i1.mono e3, fun H5 e5 => ⟨_, _, rfl, rfl, some v, us, ?_, e3.trans e5, e5 _ _ hus, ?_⟩⟩
        · rw [pz, show m - (psum (ss.take i) + slen s1) = m - psum (ss.take i) - slen s1 by omega]
          rfl
        · rw [fs]
          exact Pa.mono e5 pus
    · obtain ⟨y5, us, rfl, e3, hus, pus⟩ := z
      rw [lv, List.take_length] at pus
      exact ⟨_, rfl, q p _ np e3 ⟨us, hus, pus⟩⟩
theorem ok_count_all (B : Bt mg) (Dscan_length : Df P w K mg base "scan_length" 1 ["scan"] spScanLength) {f : Addr} {fd : FuncData} (F : Fun K "count_all" "count_all" scount_all f fd) :
    FnOk P w K mg base CX0 2 f fd ["scans"] spCount := by
  refine F.ok sccount_all (fun vs H Q E h => ?_) (fun cdv A outer s H vs Q E hr h => ?_)
  · obtain ⟨a, ss, rfl, _⟩ := h
    rfl
  · obtain ⟨a, ss, rfl, ⟨vs, ha, pa⟩, G, q⟩ := h
    refine ⟨_, (pss_one (ps_ret (pe_callB (cr_sum rfl) (by rfl) B.sum bo_sum (pa_cons (pe_lc (own := [("scan", 1)]) (g := (gName 1)) (te := (tCall _ [] E0 (tCons (tVar 1) tNil))) rfl sccount_all.nd (pi_list (pv 0)) (blkOk_by (N := ["scans", "scan"]) (sc := defScope scount_all) (by decide +kernel)) (by exact fun _ _ _ _ _ => (pg_name (i := 1) sccount_all.nd rfl (by first | exact Or.inl rfl | exact Or.inr rfl))) (by exact fun _ _ _ _ _ => pts_nil) (by exact fun _ _ _ _ _ => (pe_df Dscan_length hr (pa_cons (pv 1) pa_nil)))) pa_nil)))), ?_⟩
    have lv : vs.length = ss.length := Pa.len pa
    refine ⟨.ref a, rfl, a, rfl, ⟨_, SqL.of ha⟩, fun D hD => lc_list (xs := vs) (fun i H2 => Ex H H2 ∧ H2 D = some (.lst (((ss.take i).map slen).map V.int))) ⟨Ex.new hD, upd_same⟩ (fun i H2 _ p => SqL.of (p.1 _ _ ha)) (fun i x H2 hx p => ?_) (fun H2 p => ?_)⟩
    · obtain ⟨e2, hus⟩ := p
      obtain ⟨s1, gs, i1⟩ := Pa.get pa hx
      have hi : i < ss.length := (List.getElem?_eq_some_iff.mp gs).1
      refine ⟨rfl, x, rfl, x, s1, rfl, i1.mono e2, fun H3 e3 => ⟨_, e3 _ _ hus, ?_, (e2.trans e3).mut hD, ?_⟩⟩
      · rw [List.length_map, List.length_map, List.length_take]
        exact small1000 (by have := G.few; omega)
      · rw [upd_same, List.take_add_one, gs, List.map_append, List.map_append]
        rfl
    · obtain ⟨e2, hus⟩ := p
      rw [lv, List.take_length] at hus
      refine ⟨D, ss.map slen, rfl, SqL.of hus, ?_⟩
      have es : ∀ l : List Sc, (l.map slen).sum = psum l := fun l => by
        induction l with
        | nil => rfl
        | cons s r ih =>
          rw [List.map_cons, List.sum_cons, ih]
          rfl
      rw [es]
      exact q.go e2
theorem ok_joined (B : Bt mg) {f : Addr} {fd : FuncData} (F : Fun K "joined" "joined" sjoined f fd) : FnOk P w K mg base CX0 1 f fd ["scans"] spJoined := by
  refine F.ok scjoined (fun vs H Q E h => ?_) (fun cdv A outer s H vs Q E hr h => ?_)
  · obtain ⟨a, ss, rfl, _⟩ := h
    rfl
  · obtain ⟨a, ss, rfl, ⟨vs, ha, pa⟩, few, q⟩ := h
    refine ⟨_, (pss_cons (ps_set (i := 1) scjoined.nd rfl (by first | exact Or.inl rfl | exact Or.inr rfl) (pe_lst pa_nil))
      (pss_cons (ps_for PassesOwn.never rfl (pi_list (pv 0)) (pg_tup rfl (pgs_cons (pg_name (i := 2) scjoined.nd rfl (by first | exact Or.inl rfl | exact Or.inr rfl)) (pgs_cons (pg_name (i := 3) scjoined.nd rfl (by first | exact Or.inl rfl | exact Or.inr rfl)) pgs_nil))) (pss_one (ps_if (pw_and (pt_truth (pv 1) (by intro _; rfl)) (pw_and1 (pt_cmpR op_eq (pe_callB call_abs (by rfl) B.abs bo_abs (pa_cons (pe_op op_sub (pv 2) (pe_ix ix_tup (pe_ix ix_list (pv 1) (pe_un un_neg pe_int) (fun _ _ => rfl)) pe_int (fun _ _ => rfl))) pa_nil)) pe_int (nomark _)))).pt (pss_one (ps_asg (pe_tup (pa_cons (pe_ix ix_tup (pe_ix ix_list (pv 1) (pe_un un_neg pe_int) (fun _ _ => rfl)) pe_int (fun _ _ => rfl)) (pa_cons (pv 3) pa_nil))) (pg_sub (pv 1) (pe_un un_neg pe_int) set_list))) (pss_one (ps_expr (pe_bm PySem.F.plainAttrs_list PySem.F.slot_list_append PySem.F.type_list_append mt_append (pv 1) (pa_cons (pe_tup (pa_cons (pv 2) (pa_cons (pv 3) pa_nil))) pa_nil)))))))
      (pss_one (ps_ret (pv 1))))), ?_⟩
    have lv : vs.length = ss.length := Pa.len pa
    refine ⟨Nat.zero_le _, fun p np => ?_⟩
    refine ⟨.ref a, rfl, a, rfl, ⟨_, SqL.of (Ex.new np _ _ ha)⟩, for_list (xs := vs) (JW H a p ss) ⟨none, none, [], rfl, Ex.new np, upd_same, .nil⟩ (fun i σ H1 _ pv => ?_) (fun i v0 σ H1 hx pv => ?_) (fun σ H1 pv => ?_)⟩
    · obtain ⟨_, _, _, _, e1, _⟩ := pv
      exact SqL.of (e1 _ _ ha)
    · obtain ⟨y2, y3, us, rfl, e1, hp, pu⟩ := pv
      obtain ⟨⟨x, y⟩, gs, t0, rfl, ht0⟩ := Pa.get pa hx
      have hi : i < ss.length := (List.getElem?_eq_some_iff.mp gs).1
      have lu : us.length ≤ i := by
        have z := Pa.len pu
        have z2 := jn_len (ss.take i)
        rw [List.length_take] at z2
        omega
      refine ⟨t0, _, rfl, SqT.of (e1 _ _ ht0), rfl, _, _, rfl, _, _, rfl, rfl, ?_⟩
      refine ⟨.ref p, rfl, !us.isEmpty, .inl ⟨us, SqL.of hp, rfl⟩, ?_⟩
      rcases eq_nil_or_snoc us with eu | ⟨pre, v, eu⟩
      · subst eu
        have ej : jn (ss.take i) = [] := by
          cases hj : jn (ss.take i) with
          | nil => rfl
          | cons c r =>
            rw [hj] at pu
            cases pu
        refine iteF (iteF ⟨.ref p, rfl, .inl ⟨rfl, _, .inl (.inl hp)⟩, .int x, rfl, .int y, rfl, by show 2 ≤ sizeLine; decide, fun q nq => ⟨p, [], .ref q, rfl, rfl, (upd_ne (ne_of_none hp nq)).trans hp, by decide, ?_⟩⟩)
        exact jw_app np gs e1 hp pu nq (by rw [ej]; rfl) ⟨_, _, rfl⟩
      · subst eu
        obtain ⟨pre', t, ej, pp, tv, rfl, htv⟩ := Pa.concat pu
        have emp : (!(pre ++ [V.ref tv]).isEmpty) = true := by simp
        rw [emp]
        refine iteT ⟨.int x, rfl, .ref p, rfl, 1, rfl, p, _, -1, .ref tv, rfl, rfl, SqL.of hp, atI_last _ _, tv, _, 1, _, rfl, rfl, SqT.of htv, rfl, x, t.2, rfl, rfl, x - t.2, rfl, rfl, _, rfl, ite2 (fun e => ?_) (fun e => ?_)⟩
        · have hc : absI (x - t.2) = 1 := V.int.inj (of_decide_eq_true e)
          refine ⟨.ref p, rfl, 1, rfl, p, _, -1, .ref tv, rfl, rfl, SqL.of hp, atI_last _ _, tv, _, 0, _, rfl, rfl, SqT.of htv, rfl, .int y, rfl, by show 2 ≤ sizeLine; decide, fun q nq => ?_⟩
          exact ⟨.ref p, rfl, 1, rfl, p, _, -1, pre.length, rfl, rfl, (upd_ne (ne_of_none hp nq)).trans hp, ix_last _ _, jw_set np gs e1 hp pp nq ej hc ⟨_, _, rfl⟩⟩
        · have hc : ¬ absI (x - t.2) = 1 := fun z => e (decide_eq_true (congrArg V.int z))
          refine ⟨.ref p, rfl, .inl ⟨rfl, _, .inl (.inl hp)⟩, .int x, rfl, .int y, rfl, by show 2 ≤ sizeLine; decide, fun q nq => ⟨p, _, .ref q, rfl, rfl, (upd_ne (ne_of_none hp nq)).trans hp, small20 (by omega), ?_⟩⟩
          exact jw_app np gs e1 hp pu nq (by rw [ej, jstep_snoc, if_neg hc]) ⟨_, _, rfl⟩
    · obtain ⟨y2, y3, us, rfl, e1, hp, pu⟩ := pv
      rw [lv, List.take_length] at pu
      exact ⟨_, rfl, q p _ np e1 ⟨us, hp, pu⟩⟩
theorem ok_put_ahead (Dothers_of : Df P w K mg base "others_of" 3 ["scans", "taken"] spOthers) (Djoined : Df P w K mg base "joined" 1 ["scans"] spJoined) {f : Addr} {fd : FuncData} (F : Fun K "put_ahead" "put_ahead" sput_ahead f fd) : FnOk P w K mg base CX0 4 f fd ["scans", "others"] spAhead := by
  refine F.ok scput_ahead (fun vs H Q E h => ?_) (fun cdv A outer s H vs Q E hr h => ?_)
  · obtain ⟨t, a, ts, ss, rfl, _⟩ := h
    rfl
  · obtain ⟨t, a, ts, ss, rfl, hT, hS, tew, few, dis, q⟩ := h
    refine ⟨_, (pss_one (ps_ret (pe_df Djoined hr (pa_cons (pe_op op_cat (pv 0) (pe_df Dothers_of hr (pa_cons (pv 1) (pa_cons (pv 0) pa_nil)))) pa_nil)))), ?_⟩
    refine ⟨.ref t, rfl, .ref a, rfl, .ref t, rfl, a, t, ss, ts, rfl, hS, hT, few, tew, dis, fun p H1 rows np e1 hp er fr fr2 => ?_⟩
    obtain ⟨vs, ht, pt⟩ := hT.mono e1
    obtain ⟨us, hus, pus⟩ := hp
    have big : ss.length * (ts.length + 1) ≤ 1000 * 1001 := Nat.mul_le_mul few (by omega)
    have lus : us.length ≤ 1000 * 1001 := by
      have z := Pa.len pus
      omega
    have lvs := Pa.len pt
    refine ⟨t, p, vs, us, rfl, rfl, ht, hus, Nat.le_of_lt (small20 (by omega)), fun r nr => ?_⟩
    have xr := Ex.new (o := .lst (vs ++ us)) nr
    have ej : jn (ts ++ rows) = ahead ts ss := by
      unfold ahead
      rw [← er, ← rdL_app, jn_rdL]
    refine ⟨r, ts ++ rows, rfl, ⟨_, upd_same, Pa.app (Pa.mono xr pt) (Pa.mono xr pus)⟩, by rw [List.length_append]; omega, fun b H4 nb e4 hb => ?_⟩
    rw [ej] at hb
    refine q b H4 (e1.back (xr.back nb)) ((e1.trans xr).trans e4) hb fun d => ?_
    rw [← ej]
    have := jn_len (ts ++ rows)
    rw [List.length_append] at this
    have := fr2 d
    omega
theorem ok_tidy (Dcheck_list : Df P w K mg base "check_list" 5 ["scans"] spCheckList) (Djoined : Df P w K mg base "joined" 1 ["scans"] spJoined) {f : Addr} {fd : FuncData} (F : Fun K "tidy" "tidy" stidy f fd) : FnOk P w K mg base CX0 6 f fd ["scans"] spTidy := by
  refine F.ok sctidy (fun vs H Q E h => ?_) (fun cdv A outer s H vs Q E hr h => ?_)
  · obtain ⟨a, ss, rfl, _⟩ := h
    rfl
  · obtain ⟨a, ss, rfl, hS, G, q⟩ := h
    refine ⟨_, (pss_cons (ps_expr (pe_df Dcheck_list hr (pa_cons (pv 0) pa_nil)))
      (pss_one (ps_ret (pe_df Djoined hr (pa_cons (pv 0) pa_nil))))), ?_⟩
    exact ⟨.ref a, rfl, a, ss, rfl, hS, G, fun H1 e1 => ⟨.ref a, rfl, a, ss, rfl, hS.mono e1, Nat.le_trans G.few (by decide), fun p H2 np e2 hp => q p H2 (e1.back np) (e1.trans e2) hp⟩⟩
theorem ok_count (B : Bt mg) (Dcheck_list : Df P w K mg base "check_list" 5 ["scans"] spCheckList) (Dcount_all : Df P w K mg base "count_all" 2 ["scans"] spCount) {f : Addr} {fd : FuncData} (F : Fun K "count_addresses" "count_addresses" scount_addresses f fd) :
    FnOk P w K mg base CX0 6 f fd ["scans"] spCount := by
  refine F.ok sccount_addresses (fun vs H Q E h => ?_) (fun cdv A outer s H vs Q E hr h => ?_)
  · obtain ⟨a, ss, rfl, _⟩ := h
    rfl
  · obtain ⟨a, ss, rfl, ⟨vs, ha, pa⟩, G, q⟩ := h
    refine ⟨_, (pss_cons (ps_expr (pe_df Dcheck_list hr (pa_cons (pv 0) pa_nil)))
      (pss_one (ps_ret (pe_df Dcount_all hr (pa_cons (pv 0) pa_nil))))), ?_⟩
    refine ⟨.ref a, rfl, a, ss, rfl, ⟨vs, ha, pa⟩, G, fun H1 e1 => ?_⟩
    refine ⟨.ref a, rfl, a, ss, rfl, ⟨vs, e1 _ _ ha, Pa.mono e1 pa⟩, G, fun H2 e2 => q.go (e1.trans e2)⟩
theorem ok_turned (B2 : mg "reversed" = none) (Dcheck_list : Df P w K mg base "check_list" 5 ["scans"] spCheckList) (Djoined : Df P w K mg base "joined" 1 ["scans"] spJoined) {f : Addr} {fd : FuncData} (F : Fun K "turned" "turned" sturned f fd) : FnOk P w K mg base CX0 6 f fd ["scans"] spTurned := by
  refine F.ok scturned (fun vs H Q E h => ?_) (fun cdv A outer s H vs Q E hr h => ?_)
  · obtain ⟨a, ss, rfl, _⟩ := h
    rfl
  · obtain ⟨a, ss, rfl, ⟨vs, ha, pa⟩, G, q⟩ := h
    have B : Br mg := ⟨B2⟩
    refine ⟨_, (pss_cons (ps_expr (pe_df Dcheck_list hr (pa_cons (pv 0) pa_nil)))
      (pss_one (ps_ret (pe_df Djoined hr (pa_cons (pe_lc (own := [("first", 1), ("last", 2)]) (g := (gTup K 2 (gCons (gName 1) (gCons (gName 2) gNil)))) (te := (tTup (tCons (tVar 2) (tCons (tVar 1) tNil)))) rfl scturned.nd (pi_reversed (by rfl) (Br.reversed ⟨B2⟩) (pa_cons (pv 0) pa_nil)) (blkOk_by (N := ["scans", "first", "last"]) (sc := defScope sturned) (by decide +kernel)) (by exact fun _ _ _ _ _ => (pg_tup rfl (pgs_cons (pg_name (i := 1) scturned.nd rfl (by first | exact Or.inl rfl | exact Or.inr rfl)) (pgs_cons (pg_name (i := 2) scturned.nd rfl (by first | exact Or.inl rfl | exact Or.inr rfl)) pgs_nil)))) (by exact fun _ _ _ _ _ => pts_nil) (by exact fun _ _ _ _ _ => (pe_tup (pa_cons (pv 2) (pa_cons (pv 1) pa_nil))))) pa_nil))))), ?_⟩
    have lv : vs.length = ss.length := Pa.len pa
    refine ⟨.ref a, rfl, a, ss, rfl, ⟨vs, ha, pa⟩, G, fun H1 e1 => ?_⟩
    refine ⟨.ref a, rfl, a, vs, rfl, SqL.of (e1 _ _ ha), fun D hD => ?_⟩
    refine lc_rev (xs := vs) (fun i H2 => Ex H1 H2 ∧ ∃ us, H2 D = some (.lst us) ∧ Paired (IsSc H2) us ((ss.reverse.take i).map swp)) ⟨Ex.new hD, [], upd_same, .nil⟩ (fun i H2 _ p => SqL.of (p.1 _ _ (e1 _ _ ha))) (fun i x H2 hx p => ?_) (fun H2 p => ?_)
    · obtain ⟨e2, us, hus, pus⟩ := p
      obtain ⟨⟨x1, x2⟩, gs, t, rfl, ht⟩ := Pa.get (Pa.rev pa) hx
      have hi : i < ss.length := by
        have z := (List.getElem?_eq_some_iff.mp gs).1
        rwa [List.length_reverse] at z
      have lu : us.length = i := by
        have z := Pa.len pus
        rw [List.length_map, List.length_take, List.length_reverse] at z
        omega
      refine ⟨t, _, rfl, SqT.of (e2 _ _ (e1 _ _ ht)), rfl, _, _, rfl, _, _, rfl, rfl, rfl, ?_⟩
      refine ⟨.int x2, rfl, .int x1, rfl, by show 2 ≤ sizeLine; decide, fun p np => ?_⟩
      have pD : D ≠ p := ne_of_none hus np
      refine ⟨us, (upd_ne pD).trans hus, small1000 (by have := G.few; omega), (e2.add np).mut hD, _, upd_same, ?_⟩
      rw [List.take_add_one, gs, List.map_append]
      exact Pa.lset ((upd_ne pD).trans hus) (Pa.snoc (s := swp (x1, x2)) (Pa.mono (Ex.new np) pus) ⟨p, rfl, upd_same⟩)
    · obtain ⟨e2, us, hus, pus⟩ := p
      rw [List.take_of_length_le (by rw [List.length_reverse, lv]; exact Nat.le_refl _)] at pus
      refine ⟨D, ss.reverse.map swp, rfl, ⟨us, hus, pus⟩, by rw [List.length_map, List.length_reverse]; exact Nat.le_trans G.few (by decide), fun p H3 np e3 hp => q p H3 ((e1.trans e2).back np) ((e1.trans e2).trans e3) hp⟩
theorem ok_place_of (B : Bt mg) (Dcheck_list : Df P w K mg base "check_list" 5 ["scans"] spCheckList) (Dcheck_address : Df P w K mg base "check_address" 3 ["address"] spCheckAddress) (Dplace_in : Df P w K mg base "place_in" 1 ["scan", "address"] spPlaceIn)
    (Dscan_length : Df P w K mg base "scan_length" 1 ["scan"] spScanLength) {f : Addr} {fd : FuncData} (F : Fun K "place_of" "place_of" splace_of f fd) : FnOk P w K mg base CX0 6 f fd ["scans", "address"] spPlaceOf := by
  refine F.ok scplace_of (fun vs H Q E h => ?_) (fun cdv A outer s H vs Q E hr h => ?_)
  · obtain ⟨a, ss, x, rfl, _⟩ := h
    rfl
  · obtain ⟨a, ss, x, rfl, ⟨vs, ha, pa⟩, G, h0, q⟩ := h
    refine ⟨_, (pss_cons (ps_expr (pe_df Dcheck_list hr (pa_cons (pv 0) pa_nil)))
      (pss_cons (ps_expr (pe_df Dcheck_address hr (pa_cons (pv 1) pa_nil)))
      (pss_cons (ps_set (i := 2) scplace_of.nd rfl (by first | exact Or.inl rfl | exact Or.inr rfl) pe_int)
      (pss_cons (ps_for PassesOwn.never rfl (pi_list (pv 0)) (pg_name (i := 3) scplace_of.nd rfl (by first | exact Or.inl rfl | exact Or.inr rfl)) (pss_cons (ps_set (i := 4) scplace_of.nd rfl (by first | exact Or.inl rfl | exact Or.inr rfl) (pe_df Dplace_in hr (pa_cons (pv 3) (pa_cons (pv 1) pa_nil))))
      (pss_cons (ps_if (pt_cmpR op_notN (pv 4) pe_non (nomark _)) (pss_one (ps_ret (pe_op op_add (pv 2) (pv 4)))) pss_nil)
      (pss_one (ps_set (i := 2) scplace_of.nd rfl (by first | exact Or.inl rfl | exact Or.inr rfl) (pe_op op_add (pv 2) (pe_df Dscan_length hr (pa_cons (pv 3) pa_nil))))))))
      (pss_one (ps_ret pe_non)))))), ?_⟩
    have lv : vs.length = ss.length := Pa.len pa
    refine ⟨.ref a, rfl, a, ss, rfl, ⟨vs, ha, pa⟩, G, fun H1 e1 => ?_⟩
    refine ⟨.int x, rfl, x, rfl, h0, fun H2 e2 => ?_⟩
    have e12 := e1.trans e2
    refine ⟨.ref a, rfl, a, rfl, ⟨_, SqL.of (e12 _ _ ha)⟩, for_list (xs := vs) (fun i σ H3 => ∃ y3 y4, σ = [some (.ref a), some (.int x), some (.int (psum (ss.take i))), y3, y4] ∧ Ex H H3 ∧ plc (ss.drop i) (psum (ss.take i)) x = plc ss 0 x)
      ⟨none, none, rfl, e12, rfl⟩ (fun i σ H3 _ p => ?_) (fun i v σ H3 hx p => ?_) (fun σ H3 p => ?_)⟩
    · obtain ⟨_, _, _, e3, _⟩ := p
      exact SqL.of (e3 _ _ ha)
    · obtain ⟨y3, y4, rfl, e3, ep⟩ := p
      obtain ⟨s1, gs, i1⟩ := Pa.get pa hx
      rw [drop_at gs] at ep
      have ep' : (if lo s1 ≤ x ∧ x ≤ hi s1 then V.int (psum (ss.take i) + absI (x - s1.1)) else plc (ss.drop (i + 1)) (psum (ss.take i) + slen s1) x) = plc ss 0 x := ep
      refine ⟨v, rfl, .int x, rfl, v, s1, x, rfl, i1.mono e3, fun H4 e4 => ?_⟩
      by_cases hc : lo s1 ≤ x ∧ x ≤ hi s1
      · rw [if_pos hc] at ep' ⊢
        refine ⟨_, rfl, rfl, true, rfl, iteT ⟨_, rfl, _, rfl, _, _, rfl, rfl, ?_⟩⟩
        have z := q.go (e3.trans e4)
        rw [← ep'] at z
        exact z
      · rw [if_neg hc] at ep' ⊢
        refine ⟨_, rfl, rfl, false, rfl, iteF ⟨_, rfl, v, rfl, v, s1, rfl, (i1.mono e3).mono e4, fun H5 e5 => ⟨_, _, rfl, rfl, some v, some .non, ?_, (e3.trans e4).trans e5, ?_⟩⟩⟩
        · rw [psum_snoc gs]
          rfl
        · rw [psum_snoc gs]
          exact ep'
    · obtain ⟨y3, y4, rfl, e3, ep⟩ := p
      rw [lv, List.drop_length] at ep
      have z := q.go e3
      rw [← ep] at z
      exact z
theorem ok_nth (B : Bt mg) (Dcheck_index : Df P w K mg base "check_index" 3 ["index", "count"] spCheckIndex) (Dcount_addresses : Df P w K mg base "count_addresses" 6 ["scans"] spCount) (Daddress_in : Df P w K mg base "address_in" 1 ["scan", "place"] spAddressIn)
    (Dscan_length : Df P w K mg base "scan_length" 1 ["scan"] spScanLength) {f : Addr} {fd : FuncData} (F : Fun K "nth_address" "nth_address" snth_address f fd) : FnOk P w K mg base CX0 7 f fd ["scans", "index"] spNth := by
  refine F.ok scnth_address (fun vs H Q E h => ?_) (fun cdv A outer s H vs Q E hr h => ?_)
  · obtain ⟨a, ss, k, x, rfl, _⟩ := h
    rfl
  · obtain ⟨a, ss, k, x, rfl, ⟨vs, ha, pa⟩, G, hk, q⟩ := h
    refine ⟨_, (pss_cons (ps_expr (pe_df Dcheck_index hr (pa_cons (pv 1) (pa_cons (pe_df Dcount_addresses hr (pa_cons (pv 0) pa_nil)) pa_nil))))
      (pss_cons (ps_set (i := 2) scnth_address.nd rfl (by first | exact Or.inl rfl | exact Or.inr rfl) (pv 1))
      (pss_cons (ps_set (i := 3) scnth_address.nd rfl (by first | exact Or.inl rfl | exact Or.inr rfl) pe_int)
      (pss_cons (ps_while PassesOwn.never (pt_cmpR op_ge (pv 2) (pe_df Dscan_length hr (pa_cons (pe_ix ix_list (pv 0) (pv 3) (fun _ _ => rfl)) pa_nil)) (nomark _)) (pss_cons (ps_set (i := 2) scnth_address.nd rfl (by first | exact Or.inl rfl | exact Or.inr rfl) (pe_op op_sub (pv 2) (pe_df Dscan_length hr (pa_cons (pe_ix ix_list (pv 0) (pv 3) (fun _ _ => rfl)) pa_nil))))
      (pss_one (ps_set (i := 3) scnth_address.nd rfl (by first | exact Or.inl rfl | exact Or.inr rfl) (pe_op op_add (pv 3) pe_int)))))
      (pss_one (ps_ret (pe_df Daddress_in hr (pa_cons (pe_ix ix_list (pv 0) (pv 3) (fun _ _ => rfl)) (pa_cons (pv 2) pa_nil))))))))), ?_⟩
    have lv : vs.length = ss.length := Pa.len pa
    have hkl : (k : Int) < psum ss := by
      rw [← rdL_len]
      have := (List.getElem?_eq_some_iff.mp hk).1
      omega
    refine ⟨.int k, rfl, .ref a, rfl, a, ss, rfl, ⟨vs, ha, pa⟩, G, fun H1 e1 => ?_⟩
    refine ⟨k, psum ss, rfl, by omega, hkl, fun H2 e2 => ?_⟩
    refine ⟨.int k, rfl, ?_⟩
    have nz : ∀ {j l : Nat}, (rdL (ss.drop j))[l]? = some x → j < ss.length := fun {j l} h => by
      by_cases z : j < ss.length
      · exact z
      · rw [List.drop_eq_nil_of_le (by omega)] at h
        simp [rdL] at h
    refine ⟨fun m σ H3 => ∃ j l : Nat, m = ss.length - j ∧ σ = [some (.ref a), some (.int k), some (.int l), some (.int j)] ∧ Ex H H3 ∧ (rdL (ss.drop j))[l]? = some x, ⟨_, 0, k, rfl, rfl, e1.trans e2, hk⟩, fun m σ H3 hW => ?_⟩
    obtain ⟨j, l, rfl, rfl, e3, hl⟩ := hW
    have hj := nz hl
    obtain ⟨v, gv, i1⟩ := Pa.get2 pa (List.getElem?_eq_getElem hj)
    rw [drop_at (List.getElem?_eq_getElem hj)] at hl
    have hl' : (rd ss[j] ++ rdL (ss.drop (j + 1)))[l]? = some x := hl
    have sp := slen_pos ss[j]
    refine ⟨_, rfl, .ref a, rfl, .int j, rfl, a, vs, j, v, rfl, rfl, SqL.of (e3 _ _ ha), atI_nat gv, v, _, rfl, i1.mono e3, fun H4 e4 => ⟨_, _, rfl, rfl, _, rfl, ite2 (fun e => ?_) (fun e => ?_)⟩⟩
    · have e' : slen ss[j] ≤ (l : Int) := of_decide_eq_true e
      rw [List.getElem?_append_right (by rw [rd_len]; omega), rd_len] at hl'
      have hj2 := nz hl'
      refine ⟨fun σ' H' => ∃ l' : Nat, σ' = [some (.ref a), some (.int k), some (.int l'), some (.int ((j + 1 : Nat) : Int))] ∧ Ex H H' ∧ (rdL (ss.drop (j + 1)))[l']? = some x, fun σ' H' hN => ?_, ?_⟩
      · obtain ⟨l', r1, r2, r3⟩ := hN
        exact ⟨ss.length - (j + 1), by omega, j + 1, l', rfl, r1, r2, r3⟩
      · refine ⟨_, rfl, .ref a, rfl, .int j, rfl, a, vs, j, v, rfl, rfl, SqL.of (e4 _ _ (e3 _ _ ha)), atI_nat gv, v, _, rfl, (i1.mono e3).mono e4, fun H5 e5 => ⟨_, _, rfl, rfl, _, rfl, _, _, rfl, rfl, l - (slen ss[j]).toNat, ?_, (e3.trans e4).trans e5, hl'⟩⟩
        have z : (l : Int) - slen ss[j] = ((l - (slen ss[j]).toNat : Nat) : Int) := by omega
        rw [← z]
        rfl
    · have e' : ¬ slen ss[j] ≤ (l : Int) := fun z => e (decide_eq_true z)
      rw [List.getElem?_append_left (by rw [rd_len]; omega), rd_get (by omega)] at hl'
      have ex := Option.some.inj hl'
      refine ⟨.ref a, rfl, .int j, rfl, a, vs, j, v, rfl, rfl, SqL.of (e4 _ _ (e3 _ _ ha)), atI_nat gv, _, rfl, v, _, _, rfl, (i1.mono e3).mono e4, fun H5 e5 => ?_⟩
      rw [ex]
      exact q.go ((e3.trans e4).trans e5)
theorem ok_first_part (Dcheck_list : Df P w K mg base "check_list" 5 ["scans"] spCheckList) (Dcheck_from : Df P w K mg base "check_from" 3 ["number", "least"] spCheckFrom) (Dfirst_of : Df P w K mg base "first_of" 3 ["scans", "many"] spFirstOf) (Djoined : Df P w K mg base "joined" 1 ["scans"] spJoined)
    {f : Addr} {fd : FuncData} (F : Fun K "first_part" "first_part" sfirst_part f fd) : FnOk P w K mg base CX0 6 f fd ["scans", "many"] spFirst := by
  refine F.ok scfirst_part (fun vs H Q E h => ?_) (fun cdv A outer s H vs Q E hr h => ?_)
  · obtain ⟨a, ss, m, rfl, _⟩ := h
    rfl
  · obtain ⟨a, ss, m, rfl, hS, G, h0, q⟩ := h
    refine ⟨_, (pss_cons (ps_expr (pe_df Dcheck_list hr (pa_cons (pv 0) pa_nil)))
      (pss_cons (ps_expr (pe_df Dcheck_from hr (pa_cons (pv 1) (pa_cons pe_int pa_nil))))
      (pss_one (ps_ret (pe_df Djoined hr (pa_cons (pe_df Dfirst_of hr (pa_cons (pv 0) (pa_cons (pv 1) pa_nil))) pa_nil)))))), ?_⟩
    refine ⟨.ref a, rfl, a, ss, rfl, hS, G, fun H1 e1 => ?_⟩
    refine ⟨.int m, rfl, m, 0, rfl, h0, fun H2 e2 => ?_⟩
    have e12 := e1.trans e2
    refine ⟨.ref a, rfl, .int m, rfl, a, ss, m, rfl, hS.mono e12, G.few, fun p H3 np e3 hp => ?_⟩
    refine ⟨p, _, rfl, hp, ?_, fun r H4 nr e4 hr => q r H4 ((e12.trans e3).back nr) ((e12.trans e3).trans e4) hr⟩
    exact Nat.le_trans (fpart_len _ _) (Nat.le_trans G.few (by decide))
theorem ok_on_top (Dcheck_list : Df P w K mg base "check_list" 5 ["scans"] spCheckList) (Dcheck_scan : Df P w K mg base "check_scan" 4 ["scan"] spCheckScan) (Dput_ahead : Df P w K mg base "put_ahead" 4 ["scans", "others"] spAhead)
    {f : Addr} {fd : FuncData} (F : Fun K "on_top" "on_top" son_top f fd) : FnOk P w K mg base CX0 6 f fd ["scans", "scan"] spTop := by
  refine F.ok scon_top (fun vs H Q E h => ?_) (fun cdv A outer s H vs Q E hr h => ?_)
  · obtain ⟨a, ss, v, s, rfl, _⟩ := h
    rfl
  · obtain ⟨a, ss, v, s, rfl, hS, G, i1, n1, q⟩ := h
    refine ⟨_, (pss_cons (ps_expr (pe_df Dcheck_list hr (pa_cons (pv 0) pa_nil)))
      (pss_cons (ps_expr (pe_df Dcheck_scan hr (pa_cons (pv 1) pa_nil)))
      (pss_one (ps_ret (pe_df Dput_ahead hr (pa_cons (pe_lst (pa_cons (pv 1) pa_nil)) (pa_cons (pv 0) pa_nil))))))), ?_⟩
    refine ⟨.ref a, rfl, a, ss, rfl, hS, G, fun H1 e1 => ?_⟩
    refine ⟨v, rfl, v, s, rfl, i1.mono e1, n1, fun H2 e2 => ?_⟩
    have e12 := e1.trans e2
    refine ⟨v, rfl, by show 1 ≤ sizeLine; decide, fun L nL => ?_⟩
    have xL := Ex.new (o := .lst [v]) nL
    refine ⟨.ref a, rfl, L, a, [s], ss, rfl, ⟨_, upd_same, .cons (i1.mono (e12.trans xL)) .nil⟩, hS.mono (e12.trans xL), by show 1 ≤ 1000; decide, G.few, Apart.one _, fun p H3 np e3 hp _ => ?_⟩
    rw [ahead_one] at hp
    exact q p H3 (e12.back (xL.back np)) ((e12.trans xL).trans e3) hp
theorem ok_without (Dcheck_list : Df P w K mg base "check_list" 5 ["scans"] spCheckList) (Dcheck_interval : Df P w K mg base "check_interval" 3 ["low", "high"] spCheckInterval) (Dall_without : Df P w K mg base "all_without" 4 ["scans", "low", "high"] spAllOut)
    (Djoined : Df P w K mg base "joined" 1 ["scans"] spJoined) {f : Addr} {fd : FuncData} (F : Fun K "without" "without" swithout f fd) : FnOk P w K mg base CX0 6 f fd ["scans", "low", "high"] spWithout := by
  refine F.ok scwithout (fun vs H Q E h => ?_) (fun cdv A outer s H vs Q E hr h => ?_)
  · obtain ⟨a, ss, l, h, rfl, _⟩ := h
    rfl
  · obtain ⟨a, ss, l, h, rfl, hS, G, h0, h1, q⟩ := h
    refine ⟨_, (pss_cons (ps_expr (pe_df Dcheck_list hr (pa_cons (pv 0) pa_nil)))
      (pss_cons (ps_expr (pe_df Dcheck_interval hr (pa_cons (pv 1) (pa_cons (pv 2) pa_nil))))
      (pss_one (ps_ret (pe_df Djoined hr (pa_cons (pe_df Dall_without hr (pa_cons (pv 0) (pa_cons (pv 1) (pa_cons (pv 2) pa_nil)))) pa_nil)))))), ?_⟩
    refine ⟨.ref a, rfl, a, ss, rfl, hS, G, fun H1 e1 => ?_⟩
    refine ⟨.int l, rfl, .int h, rfl, l, h, rfl, h0, h1, fun H2 e2 => ?_⟩
    have e12 := e1.trans e2
    refine ⟨.ref a, rfl, .int l, rfl, .int h, rfl, a, ss, l, h, rfl, hS.mono e12, G.few, h1, fun p H3 rows np e3 hp er fr _ => ?_⟩
    have ej : jn rows = jn (woL ss l h) := by
      rw [← jn_rdL rows, er, ← rdL_woL h1, jn_rdL]
    refine ⟨p, rows, rfl, hp, by have := G.few; omega, fun r H4 nr e4 hr => q r H4 ((e12.trans e3).back nr) ((e12.trans e3).trans e4) ?_⟩
    rw [← ej]
    exact hr
theorem ok_bag0 (B : Bt mg) {f : Addr} {fd : FuncData} (F : Fun K "_law_bag" "_law_bag" s_law_bag f fd) : FnOk P w K mg base CX0 1 f fd ["cell"] spBag0 := by
  refine F.ok sc_law_bag (fun vs H Q E h => ?_) (fun cdv A outer s H vs Q E hr h => ?_)
  · obtain ⟨c, rfl, _⟩ := h
    rfl
  · obtain ⟨c, rfl, q⟩ := h
    refine ⟨_, (pss_one (ps_ret (pe_lst (pa_cons (pe_callB (call_max2 rfl) (by rfl) B.max bo_max (pa_cons pe_int (pa_cons (pe_op op_sub (pv 0) (pe_op op_pow pe_int pe_int)) pa_nil))) (pa_cons (pv 0) (pa_cons pe_int pa_nil)))))), ?_⟩
    refine ⟨.int c, rfl, 10, 18, rfl, rfl, ⟨by decide, by decide, by decide⟩, c, _, rfl, rfl, 0, _, rfl, .int c, rfl, by show 3 ≤ sizeLine; decide, fun p np => ?_⟩
    exact q p _ _ _ _ np (Ex.new np) upd_same
theorem ok_bag (B : Bt mg) {f : Addr} {fd : FuncData} (F : Fun K "_law_bag" "_law_bag" s_law_bag f fd) : FnOk P w K mg base CX0 1 f fd ["cell"] spBag :=
  bag_new (ok_bag0 B F) fun vs H Q E h => by
    obtain ⟨c, rfl, q⟩ := h
    refine ⟨rfl, c, rfl, fun b H' x y z n e hb => ⟨b, x, y, z, rfl, n, hb, q b _ n (fun a o ha => ?_) upd_same⟩⟩
    rw [upd_ne (ne_of_none ha n)]
    exact e a o ha
theorem ok_pick0 (B : Bt mg) {f : Addr} {fd : FuncData} (F : Fun K "_law_pick" "_law_pick" s_law_pick f fd) : FnOk P w K mg base CX0 1 f fd ["bag", "many"] spPick0 := by
  refine F.ok sc_law_pick (fun vs H Q E h => ?_) (fun cdv A outer s H vs Q E hr h => ?_)
  · obtain ⟨b, m, x, c, t, rfl, _⟩ := h
    rfl
  · obtain ⟨b, m, x, c, t, rfl, hb, h1, h2, q⟩ := h
    refine ⟨_, (pss_cons (ps_asg (pe_op op_add (pe_ix ix_list (pv 0) pe_int (fun _ _ => rfl)) pe_int) (pg_sub (pv 0) pe_int set_list))
      (pss_cons (ps_if (pt_cmpR op_gt (pe_ix ix_list (pv 0) pe_int (fun _ _ => rfl)) pe_int (nomark _)) (pss_cons (ps_set (i := 2) sc_law_pick.nd rfl (by first | exact Or.inl rfl | exact Or.inr rfl) (pe_op op_mod (pe_callTy call_int1 (by rfl) B.int bo_int (pa_cons (pe_ix ix_list (pv 0) pe_int (fun _ _ => rfl)) pa_nil)) (pv 1)))
      (pss_cons (ps_asg (pe_op op_fdivW (pe_callTy call_int1 (by rfl) B.int bo_int (pa_cons (pe_ix ix_list (pv 0) pe_int (fun _ _ => rfl)) pa_nil)) (pv 1)) (pg_sub (pv 0) pe_int set_list))
      (pss_one (ps_ret (pv 2))))) pss_nil)
      (pss_cons (ps_par (i := 3) (j := 4) rfl sc_law_pick.nd rfl rfl (by decide) rfl rfl (pa_cons (pe_callTy call_int1 (by rfl) B.int bo_int (pa_cons (pe_ix ix_list (pv 0) pe_int (fun _ _ => rfl)) pa_nil)) (pa_cons (pe_callTy call_int1 (by rfl) B.int bo_int (pa_cons (pe_ix ix_list (pv 0) pe_int (fun _ _ => rfl)) pa_nil)) pa_nil)) (by rfl))
      (pss_cons (ps_set (i := 5) sc_law_pick.nd rfl (by first | exact Or.inl rfl | exact Or.inr rfl) (pe_op op_mod (pe_callTy call_int1 (by rfl) B.int bo_int (pa_cons (pe_op op_add (pe_op op_add (pe_op op_mul (pe_op op_mod (pv 3) pe_int) pe_int) (pe_op op_mul (pv 4) pe_int)) pe_int) pa_nil)) pe_int))
      (pss_cons (ps_set (i := 6) sc_law_pick.nd rfl (by first | exact Or.inl rfl | exact Or.inr rfl) (pe_op op_mod (pe_callTy call_int1 (by rfl) B.int bo_int (pa_cons (pe_op op_add (pe_op op_mul (pv 5) (pv 5)) (pe_op op_mul (pv 4) pe_int)) pa_nil)) pe_int))
      (pss_one (ps_ret (pe_op op_mod (pe_callTy call_int1 (by rfl) B.int bo_int (pa_cons (pe_op op_fdiv (pe_op op_add (pe_op op_mul (pv 5) pe_int) (pv 6)) pe_int) pa_nil)) (pv 1))))))))), ?_⟩
    refine ⟨.ref b, rfl, b, _, 2, _, rfl, rfl, SqL.of hb, rfl, t, 1, rfl, rfl, .ref b, rfl, b, _, 2, 2, rfl, rfl, hb, rfl, ?_⟩
    have k1 : ∀ a o, a ≠ b → H a = some o → (upd H b (.lst [.int x, .int c, .int (t + 1)])) a = some o := fun a o n e => (upd_ne n).trans e
    refine ⟨.ref b, rfl, b, _, 0, _, rfl, rfl, SqL.of upd_same, rfl, x, 0, rfl, rfl, _, rfl, ite2 (fun e => ?_) (fun e => ?_)⟩
    · refine ⟨.ref b, rfl, b, _, 0, _, rfl, rfl, SqL.of upd_same, rfl, .inl ⟨x, rfl, .int m, rfl, x, m, rfl, rfl, by show 0 < m; omega, ?_⟩⟩
      refine ⟨.ref b, rfl, b, _, 0, _, rfl, rfl, SqL.of upd_same, rfl, .inl ⟨x, rfl, .int m, rfl, x, m, rfl, rfl, ?_, .ref b, rfl, b, _, 0, 0, rfl, rfl, upd_same, rfl, ?_⟩⟩
      · exact wide_div (b := 400) (by omega) (Nat.lt_of_le_of_lt (show m.natAbs ≤ 10 ^ 100 by omega) (by decide)) (by decide) (by decide)
      · refine ⟨_, rfl, q _ _ (x / m) (t + 1) (Int.emod_nonneg _ (by omega)) (Int.emod_lt_of_pos _ (by omega)) (fun a o n e => ?_) upd_same⟩
        rw [upd_ne n]
        exact k1 a o n e
    · refine ⟨.ref b, rfl, b, _, 1, _, rfl, rfl, SqL.of upd_same, rfl, .inl ⟨c, rfl, .ref b, rfl, b, _, 2, _, rfl, rfl, SqL.of upd_same, rfl, .inl ⟨t + 1, rfl, _, _, rfl, ?_⟩⟩⟩
      refine ⟨_, rfl, c, 2147483629, rfl, rfl, by show (0 : Int) < 2147483629; decide, _, 48271, rfl, rfl, .inr ⟨by decide, by decide⟩, _, rfl, t + 1, 69621, rfl, rfl, .inr ⟨by decide, by decide⟩, _, _, rfl, rfl, _, 12345, rfl, rfl, .inl ⟨_, rfl, _, 2147483647, rfl, rfl, by show (0 : Int) < 2147483647; decide, ?_⟩⟩
      have f1 : ∀ z : Int, 0 ≤ z % 2147483647 ∧ z % 2147483647 < 2147483647 := fun z => ⟨Int.emod_nonneg _ (by decide), Int.emod_lt_of_pos _ (by decide)⟩
      have f2 := f1 (c % 2147483629 * 48271 + (t + 1) * 69621 + 12345)
      have f3 : CMul ((c % 2147483629 * 48271 + (t + 1) * 69621 + 12345) % 2147483647) ((c % 2147483629 * 48271 + (t + 1) * 69621 + 12345) % 2147483647) := .inl ⟨Int.lt_of_lt_of_le (by decide) f2.1, Int.lt_trans f2.2 (by decide)⟩
      have f4 : CMul ((c % 2147483629 * 48271 + (t + 1) * 69621 + 12345) % 2147483647) 2147483587 := .inr ⟨by decide, by decide⟩
      refine ⟨_, rfl, _, rfl, _, _, rfl, rfl, f3, _, rfl, t + 1, 40692, rfl, rfl, .inr ⟨by decide, by decide⟩, _, _, rfl, rfl, .inl ⟨_, rfl, _, 2147483587, rfl, rfl, by show (0 : Int) < 2147483587; decide, ?_⟩⟩
      refine ⟨_, rfl, _, 2147483587, rfl, rfl, f4, _, rfl, _, _, rfl, rfl, _, 32, rfl, rfl, ⟨by decide, by decide⟩, .inl ⟨_, rfl, _, rfl, _, m, rfl, rfl, by show 0 < m; omega, ?_⟩⟩
      exact q _ _ x (t + 1) (Int.emod_nonneg _ (by omega)) (Int.emod_lt_of_pos _ (by omega)) k1 upd_same
theorem ok_pick (B : Bt mg) {f : Addr} {fd : FuncData} (F : Fun K "_law_pick" "_law_pick" s_law_pick f fd) : FnOk P w K mg base CX0 1 f fd ["bag", "many"] spPick :=
  bag_fn (ok_pick0 B F) fun vs H Q E h => by
    obtain ⟨b, m, rfl, hb, h1, h2, q⟩ := h
    refine ⟨rfl, b, hb, fun x c t => ⟨b, m, x, c, t, rfl, upd_same, h1, h2, fun n H' x' t' n0 n1 k e => ⟨x', c, t', e, q n _ n0 n1 fun a o ha => ?_⟩⟩⟩
    by_cases z : a = b
    · subst z
      rw [hb] at ha
      rw [upd_same]
      exact ha
    · rw [upd_ne z]
      exact k a o z (by rw [upd_ne z]; exact ha)
theorem ok_law_joined (B : Bt mg) {f : Addr} {fd : FuncData} (F : Fun K "_law_joined" "_law_joined" s_law_joined f fd) : FnOk P w K mg base CX0 1 f fd ["scans"] spJoined := by
  refine F.ok sc_law_joined (fun vs H Q E h => ?_) (fun cdv A outer s H vs Q E hr h => ?_)
  · obtain ⟨a, ss, rfl, _⟩ := h
    rfl
  · obtain ⟨a, ss, rfl, ⟨vs, ha, pa⟩, few, q⟩ := h
    refine ⟨_, (pss_cons (ps_set (i := 1) sc_law_joined.nd rfl (by first | exact Or.inl rfl | exact Or.inr rfl) (pe_lst pa_nil))
      (pss_cons (ps_for PassesOwn.never rfl (pi_list (pv 0)) (pg_tup rfl (pgs_cons (pg_name (i := 2) sc_law_joined.nd rfl (by first | exact Or.inl rfl | exact Or.inr rfl)) (pgs_cons (pg_name (i := 3) sc_law_joined.nd rfl (by first | exact Or.inl rfl | exact Or.inr rfl)) pgs_nil))) (pss_one (ps_if (pw_and (pt_cmpR (op_neD hr.units) (pv 1) (pe_lst pa_nil) (nomark _)) (pw_and1 (pt_cmpR op_eq (pe_callB call_abs (by rfl) B.abs bo_abs (pa_cons (pe_op op_sub (pe_ix ix_tup (pe_ix ix_list (pv 1) (pe_un un_neg pe_int) (fun _ _ => rfl)) pe_int (fun _ _ => rfl)) (pv 2)) pa_nil)) pe_int (nomark _)))).pt (pss_one (ps_asg (pe_tup (pa_cons (pe_ix ix_tup (pe_ix ix_list (pv 1) (pe_un un_neg pe_int) (fun _ _ => rfl)) pe_int (fun _ _ => rfl)) (pa_cons (pv 3) pa_nil))) (pg_sub (pv 1) (pe_un un_neg pe_int) set_list))) (pss_one (ps_expr (pe_bm PySem.F.plainAttrs_list PySem.F.slot_list_append PySem.F.type_list_append mt_append (pv 1) (pa_cons (pe_tup (pa_cons (pv 2) (pa_cons (pv 3) pa_nil))) pa_nil)))))))
      (pss_one (ps_ret (pv 1))))), ?_⟩
    have lv : vs.length = ss.length := Pa.len pa
    refine ⟨Nat.zero_le _, fun p np => ?_⟩
    refine ⟨.ref a, rfl, a, rfl, ⟨_, SqL.of (Ex.new np _ _ ha)⟩, for_list (xs := vs) (JW H a p ss) ⟨none, none, [], rfl, Ex.new np, upd_same, .nil⟩ (fun i σ H1 _ pv => ?_) (fun i v0 σ H1 hx pv => ?_) (fun σ H1 pv => ?_)⟩
    · obtain ⟨_, _, _, _, e1, _⟩ := pv
      exact SqL.of (e1 _ _ ha)
    · obtain ⟨y2, y3, us, rfl, e1, hp, pu⟩ := pv
      obtain ⟨⟨x, y⟩, gs, t0, rfl, ht0⟩ := Pa.get pa hx
      have hi : i < ss.length := (List.getElem?_eq_some_iff.mp gs).1
      have lu : us.length ≤ i := by
        have z := Pa.len pu
        have z2 := jn_len (ss.take i)
        rw [List.length_take] at z2
        omega
      refine ⟨t0, _, rfl, SqT.of (e1 _ _ ht0), rfl, _, _, rfl, _, _, rfl, rfl, ?_⟩
      refine ⟨.ref p, rfl, Nat.zero_le _, fun c nc => ?_⟩
      have xc : Ex H1 (upd H1 c (.lst [])) := Ex.new nc
      have e2 := e1.trans xc
      have hp2 := xc _ _ hp
      have pu2 := Pa.mono xc pu
      have dl : Dp K (upd H1 c (.lst [])) (.ref p) (pdL (jn (ss.take i))) := Scs.dp ⟨us, hp2, pu2⟩
      have dc : Dp K (upd H1 c (.lst [])) (.ref c) (pdL []) := Scs.dp ⟨[], upd_same, .nil⟩
      refine ⟨_, _, dl, dc, shaped_L _, shaped_L _, _, rfl, ?_⟩
      rw [eqv_L]
      rcases eq_nil_or_snoc us with eu | ⟨pre, v, eu⟩
      · subst eu
        have ej : jn (ss.take i) = [] := by
          cases hj : jn (ss.take i) with
          | nil => rfl
          | cons c r =>
            rw [hj] at pu
            cases pu
        rw [ej, decide_eq_true rfl]
        refine iteF (iteF ⟨.ref p, rfl, .inl ⟨rfl, _, .inl (.inl hp2)⟩, .int x, rfl, .int y, rfl, by show 2 ≤ sizeLine; decide, fun q nq => ⟨p, [], .ref q, rfl, rfl, (upd_ne (ne_of_none hp2 nq)).trans hp2, by decide, ?_⟩⟩)
        exact jw_app np gs e2 hp2 pu2 nq (by rw [ej]; rfl) ⟨_, _, rfl⟩
      · subst eu
        obtain ⟨pre', t, ej, pp, tv, rfl, htv⟩ := Pa.concat pu2
        rw [ej, decide_eq_false (by simp)]
        refine iteT ⟨.ref p, rfl, 1, rfl, p, _, -1, .ref tv, rfl, rfl, SqL.of hp2, atI_last _ _, tv, _, 1, _, rfl, rfl, SqT.of htv, rfl, .int x, rfl, t.2, x, rfl, rfl, t.2 - x, rfl, rfl, _, rfl, ite2 (fun e => ?_) (fun e => ?_)⟩
        · have hc : absI (x - t.2) = 1 := (absI_sub _ _).trans (V.int.inj (of_decide_eq_true e))
          refine ⟨.ref p, rfl, 1, rfl, p, _, -1, .ref tv, rfl, rfl, SqL.of hp2, atI_last _ _, tv, _, 0, _, rfl, rfl, SqT.of htv, rfl, .int y, rfl, by show 2 ≤ sizeLine; decide, fun q nq => ?_⟩
          exact ⟨.ref p, rfl, 1, rfl, p, _, -1, pre.length, rfl, rfl, (upd_ne (ne_of_none hp2 nq)).trans hp2, ix_last _ _, jw_set np gs e2 hp2 pp nq ej hc ⟨_, _, rfl⟩⟩
        · have hc : ¬ absI (x - t.2) = 1 := fun z => e (decide_eq_true (congrArg V.int ((absI_sub _ _).trans z)))
          refine ⟨.ref p, rfl, .inl ⟨rfl, _, .inl (.inl hp2)⟩, .int x, rfl, .int y, rfl, by show 2 ≤ sizeLine; decide, fun q nq => ⟨p, _, .ref q, rfl, rfl, (upd_ne (ne_of_none hp2 nq)).trans hp2, small20 (by omega), ?_⟩⟩
          exact jw_app np gs e2 hp2 pu2 nq (by rw [ej, jstep_snoc, if_neg hc]) ⟨_, _, rfl⟩
    · obtain ⟨y2, y3, us, rfl, e1, hp, pu⟩ := pv
      rw [lv, List.take_length] at pu
      exact ⟨_, rfl, q p _ np e1 ⟨us, hp, pu⟩⟩
theorem ok_mixed (B : Bt mg) (D_law_pick : Df P w K mg base "_law_pick" 1 ["bag", "many"] spPick) {f : Addr} {fd : FuncData} (F : Fun K "_law_mixed" "_law_mixed" s_law_mixed f fd) : FnOk P w K mg base CX0 2 f fd ["bag", "items"] spMixed := by
  refine F.ok sc_law_mixed (fun vs H Q E h => ?_) (fun cdv A outer s H vs Q E hr h => ?_)
  · obtain ⟨b, a, ss, rfl, _⟩ := h
    rfl
  · obtain ⟨b, a, ss, rfl, hb, ⟨vs, ha, pa⟩, few, q⟩ := h
    refine ⟨_, (pss_cons (ps_par (i := 2) (j := 3) rfl sc_law_mixed.nd rfl rfl (by decide) rfl rfl (pa_cons (pe_callTy call_list_of (by rfl) B.list bo_list (pa_cons (pv 1) pa_nil)) (pa_cons (pe_lst pa_nil) pa_nil)) (by rfl))
      (pss_cons (ps_while PassesOwn.never (pt_cmpR (op_neD hr.units) (pv 2) (pe_lst pa_nil) (nomark _)) (pss_one (ps_expr (pe_bm PySem.F.plainAttrs_list PySem.F.slot_list_append PySem.F.type_list_append mt_append (pv 3) (pa_cons (pe_bm PySem.F.plainAttrs_list PySem.F.slot_list_pop PySem.F.type_list_pop mt_popAt (pv 2) (pa_cons (pe_df D_law_pick hr (pa_cons (pv 0) (pa_cons (pe_callB call_len_seq (by rfl) B.len bo_len (pa_cons (pv 2) pa_nil)) pa_nil))) pa_nil)) pa_nil)))))
      (pss_one (ps_ret (pv 3))))), ?_⟩
    have lv : vs.length = ss.length := Pa.len pa
    refine ⟨.ref a, rfl, a, vs, rfl, .inl (SqL.of ha), fun l nl => ⟨Nat.zero_le _, fun fo nf => ⟨_, _, rfl, ?_⟩⟩⟩
    have e1 : Ex H (upd H l (.lst vs)) := Ex.new nl
    have n1 : fo ≠ l := fun z => by
      rw [z, upd_same] at nf
      cases nf
    refine ⟨fun m σ H1 => ∃ l fo us ls ws fs, σ = [some (.ref b), some (.ref a), some (.ref l), some (.ref fo)] ∧ H l = none ∧ H fo = none ∧ Ex H H1 ∧ H1 l = some (.lst us) ∧ Paired (IsSc H1) us ls ∧ H1 fo = some (.lst ws) ∧ Paired (IsSc H1) ws fs ∧ (ls ++ fs).Perm ss ∧ fo ≠ l ∧ m = us.length,
      ⟨_, l, fo, vs, ss, [], [], rfl, nl, e1.back nf, e1.add nf, Ex.new nf _ _ upd_same, Pa.mono (e1.add nf) pa, upd_same, .nil, by rw [List.append_nil], n1, rfl⟩, fun m σ H1 hW => ?_⟩
    obtain ⟨l, fo, us, ls, ws, fs, rfl, nl, nf, e2, hl, pl, hf, pf, per, nlf, rfl⟩ := hW
    have lu : us.length = ls.length := Pa.len pl
    have lw : ws.length = fs.length := Pa.len pf
    have pl2 : ls.length + fs.length = ss.length := by
      have z := per.length_eq
      rwa [List.length_append] at z
    refine ⟨.ref l, rfl, Nat.zero_le _, fun c nc => ?_⟩
    have e3 : Ex H1 (upd H1 c (.lst [])) := Ex.new nc
    have dl : Dp K (upd H1 c (.lst [])) (.ref l) (pdL ls) := Scs.dp ⟨us, e3 _ _ hl, Pa.mono e3 pl⟩
    have dc : Dp K (upd H1 c (.lst [])) (.ref c) (pdL []) := Scs.dp ⟨[], upd_same, .nil⟩
    refine ⟨pdL ls, pdL [], dl, dc, shaped_L _, shaped_L _, _, rfl, ?_⟩
    rw [eqv_L]
    by_cases hls : ls = []
    · rw [decide_eq_true hls]
      refine iteF ?_
      subst hls
      exact ⟨.ref fo, rfl, q fo _ fs nf (e2.trans e3) ⟨ws, e3 _ _ hf, Pa.mono e3 pf⟩ per⟩
    · rw [decide_eq_false hls]
      refine iteT ?_
      have hpos : 0 < us.length := by
        rw [lu]
        exact List.length_pos_iff.mpr hls
      refine ⟨fun σ' H' => ∃ us' ls' ws' fs', σ' = [some (.ref b), some (.ref a), some (.ref l), some (.ref fo)] ∧ Ex H H' ∧ H' l = some (.lst us') ∧ Paired (IsSc H') us' ls' ∧ H' fo = some (.lst ws') ∧ Paired (IsSc H') ws' fs' ∧ (ls' ++ fs').Perm ss ∧ us'.length < us.length, fun σ' H' hN => ?_, ?_⟩
      · obtain ⟨us', ls', ws', fs', r1, r2, r3, r4, r5, r6, r7, r8⟩ := hN
        exact ⟨_, r8, l, fo, us', ls', ws', fs', r1, nl, nf, r2, r3, r4, r5, r6, r7, nlf, rfl⟩
      · refine ⟨.ref fo, rfl, .inl ⟨rfl, _, .inl (.inl (e3 _ _ hf))⟩, .ref l, rfl, .inl ⟨rfl, _, .inl (.inl (e3 _ _ hl))⟩, .ref b, rfl, .ref l, rfl, l, us, rfl, .inl (SqL.of (e3 _ _ hl)), b, _, rfl, e3 _ _ (e2 _ _ hb), by omega, ?_, fun n H2 n0 n1 e4 => ?_⟩
        · have z : us.length ≤ 1000 := by omega
          have z2 : (1000 : Int) ≤ 10 ^ 100 := by decide
          omega
        · have e5 := e3.trans e4
          have hk : n.toNat < us.length := by omega
          obtain ⟨v, gv⟩ : ∃ v, us[n.toNat]? = some v := ⟨_, List.getElem?_eq_getElem hk⟩
          obtain ⟨s1, gs, i1⟩ := Pa.get pl gv
          have hl2 := e5 _ _ hl
          have hf2 := e5 _ _ hf
          refine ⟨l, us, n, n.toNat, v, rfl, rfl, hl2, by omega, by omega, ixq n0 n1, gv, fo, ws, v, rfl, rfl, (upd_ne nlf).trans hf2, small1000 (by omega), ?_⟩
          have i2 := i1.mono e5
          refine ⟨us.eraseIdx n.toNat, ls.eraseIdx n.toNat, ws ++ [v], fs ++ [s1], rfl, ((e2.trans e5).mut nl).mut nf, (upd_ne (Ne.symm nlf)).trans upd_same, ?_, upd_same, ?_, perm_pick per gs, ?_⟩
          · exact Pa.lset ((upd_ne nlf).trans hf2) (Pa.lset hl2 (Pa.erase n.toNat (Pa.mono e5 pl)))
          · exact Pa.lset ((upd_ne nlf).trans hf2) (Pa.lset hl2 (Pa.snoc (Pa.mono e5 pf) i2))
          · rw [List.length_eraseIdx_of_lt hk]
            omega
theorem ok_listW (B : Bt mg) (D_law_pick : Df P w K mg base "_law_pick" 1 ["bag", "many"] spPick) (D_law_mixed : Df P w K mg base "_law_mixed" 2 ["bag", "items"] spMixed) {f : Addr} {fd : FuncData} (F : Fun K "_law_list" "_law_list" s_law_list f fd) :
    FnOk P w K mg base CX0 3 f fd ["bag", "many", "wide"] spListW := by
  refine F.ok sc_law_list (fun vs H Q E h => ?_) (fun cdv A outer s H vs Q E hr h => ?_)
  · obtain ⟨b, m, wd, rfl, _⟩ := h
    rfl
  · obtain ⟨b, m, wd, rfl, hb, m1, m2, w1, w2, q⟩ := h
    refine ⟨_, (pss_cons (ps_set (i := 3) sc_law_list.nd rfl (by first | exact Or.inl rfl | exact Or.inr rfl) (pe_callB (cr_sortedSetW rfl) (by rfl) B.sorted bo_sorted (pa_cons (pe_callTy (cr_setW rfl) (by rfl) B.set bo_set (pa_cons (pe_lc (own := [("k", 7)]) (g := (gName 7)) (te := (tCall _ [] E0 (tCons (tVar 0) (tCons (tVar 2) tNil)))) rfl sc_law_list.nd (pi_range1 (by rfl) B.range (pa_cons (pe_op op_add pe_int (pe_df D_law_pick hr (pa_cons (pv 0) (pa_cons (pv 1) pa_nil)))) pa_nil)) (blkOk_by (N := ["bag", "many", "wide", "marks", "found", "low", "high", "k"]) (sc := defScope s_law_list) (by decide +kernel)) (by exact fun _ _ _ _ _ => (pg_name (i := 7) sc_law_list.nd rfl (by first | exact Or.inl rfl | exact Or.inr rfl))) (by exact fun _ _ _ _ _ => pts_nil) (by exact fun _ _ _ _ _ => (pe_df D_law_pick hr (pa_cons (pv 0) (pa_cons (pv 2) pa_nil))))) pa_nil)) pa_nil)))
      (pss_cons (ps_set (i := 4) sc_law_list.nd rfl (by first | exact Or.inl rfl | exact Or.inr rfl) (pe_lst pa_nil))
      (pss_cons (ps_for PassesOwn.never rfl (pi_zip (by rfl) B.zip (pa_cons (pv 3) (pa_cons (pe_slice sl_list (pv 3) (po_some pe_int) po_none) pa_nil))) (pg_tup rfl (pgs_cons (pg_name (i := 5) sc_law_list.nd rfl (by first | exact Or.inl rfl | exact Or.inr rfl)) (pgs_cons (pg_name (i := 6) sc_law_list.nd rfl (by first | exact Or.inl rfl | exact Or.inr rfl)) pgs_nil))) (pss_one (ps_if (pt_cmpR op_gt (pe_df D_law_pick hr (pa_cons (pv 0) (pa_cons pe_int pa_nil))) pe_int (nomark _)) (pss_one (ps_expr (pe_bm PySem.F.plainAttrs_list PySem.F.slot_list_append PySem.F.type_list_append mt_append (pv 4) (pa_cons (pe_ix ix_list (pe_lst (pa_cons (pe_tup (pa_cons (pv 5) (pa_cons (pe_op op_sub (pv 6) pe_int) pa_nil))) (pa_cons (pe_tup (pa_cons (pe_op op_sub (pv 6) pe_int) (pa_cons (pv 5) pa_nil))) pa_nil))) (pe_df D_law_pick hr (pa_cons (pv 0) (pa_cons pe_int pa_nil))) (fun _ _ => rfl)) pa_nil)))) pss_nil)))
      (pss_cons (ps_if (pt_cmpR op_eq (pe_df D_law_pick hr (pa_cons (pv 0) (pa_cons pe_int pa_nil))) pe_int (nomark _)) (pss_cons (ps_set (i := 4) sc_law_list.nd rfl (by first | exact Or.inl rfl | exact Or.inr rfl) (pe_slstep (pe_callB cr_sortedPO (by rfl) B.sorted bo_sorted (pa_cons (pv 4) pa_nil)) (pe_ix ix_list (pe_lst (pa_cons pe_int (pa_cons (pe_un un_neg pe_int) pa_nil))) (pe_df D_law_pick hr (pa_cons (pv 0) (pa_cons pe_int pa_nil))) (fun _ _ => rfl))))
      (pss_one (ps_ret (pv 4)))) pss_nil)
      (pss_one (ps_ret (pe_df D_law_mixed hr (pa_cons (pv 0) (pa_cons (pv 4) pa_nil))))))))), ?_⟩
    have ten : (1000 : Int) ≤ 10 ^ 100 := by decide
    -- the marks
    refine ⟨.ref b, rfl, .int m, rfl, b, m, rfl, hb, m1, by omega, fun k0 H1 k1 k2 e1 => ?_⟩
    refine ⟨2, k0, rfl, rfl, 2 + k0, rfl, by omega, by omega, fun D hD => ?_⟩
    have hb1 := e1 _ _ hb
    refine lc_range (lo := 0) (n := (2 + k0).toNat) (fun i H2 => Ex H1 H2 ∧ ∃ ns : List Int, H2 D = some (.lst (ns.map V.int)) ∧ ns.length = i ∧ ∀ z ∈ ns, 0 ≤ z ∧ z < wd) ⟨Ex.new hD, [], upd_same, rfl, fun z hz => by cases hz⟩ (fun i H2 hi p => ?_) (fun H2 p => ?_)
    · obtain ⟨e2, ns, hn, ln, bn⟩ := p
      refine ⟨rfl, .ref b, rfl, .int wd, rfl, b, wd, rfl, e2 _ _ hb1, w1, w2, fun z H3 z0 z1 e3 => ⟨_, e3 _ _ hn, ?_, (e2.trans e3).mut hD, ns ++ [z], ?_, ?_, ?_⟩⟩
      · rw [List.length_map]
        exact small1000 (by omega)
      · rw [upd_same, List.map_append]
        rfl
      · rw [List.length_append, ln]
        rfl
      · intro y hy
        rcases List.mem_append.mp hy with hy | hy
        · exact bn y hy
        · rw [List.mem_singleton.mp hy]
          exact ⟨z0, z1⟩
    obtain ⟨e2, ns0, hn0, ln0, bn0⟩ := p
    refine ⟨D, ns0, rfl, SqL.of hn0, by omega, fun S c nS cS => ?_⟩
    refine ⟨S, _, c, rfl, upd_same, by omega, fun ns pm inc mem lc npm => ?_⟩
    have e3 : Ex H2 (upd H2 S (SetO w S (fun j => decide (j ∈ ns0)) c)) := Ex.new nS
    rw [nox_w] at npm ⊢
    have bn : ∀ z ∈ ns, 0 ≤ z ∧ z < wd := fun z hz => bn0 z (of_decide_eq_true ((mem z).mp hz))
    have lns : ns.length ≤ 210 := by omega
    generalize hH3 : upd (upd H2 S (SetO w S (fun j => decide (j ∈ ns0)) c)) pm (.lst (ns.map V.int)) = H3
    have e4 : Ex H H3 := by
      rw [← hH3]
      exact ((e1.trans e2).trans e3).add npm
    have hpm : H3 pm = some (.lst (ns.map V.int)) := by
      rw [← hH3]
      exact upd_same
    -- found = []
    refine ⟨Nat.zero_le _, fun fo nf => ?_⟩
    -- the loop
    have e5 : Ex H3 (upd H3 fo (.lst [])) := Ex.new nf
    refine ⟨.ref pm, rfl, .ref pm, rfl, 1, rfl, pm, ns.map V.int, rfl, SqL.of (e5 _ _ hpm), fun cc ncc => ?_⟩
    have ec : cutV (ns.map V.int) (some 1) none = (ns.drop 1).map V.int := by
      unfold cutV
      rw [show HT.sIx (ns.map V.int).length 0 (some 1) = min 1 (ns.map V.int).length from HT.sIx_nat _ 0 1, HT.sIx_none, List.length_map]
      cases ns with
      | nil => rfl
      | cons z r =>
        rw [List.length_cons, show min 1 (r.length + 1) = 1 by omega, List.map_drop]
        exact List.take_of_length_le (by rw [List.length_drop, List.length_map, List.length_cons]; exact Nat.le_refl _)
    rw [ec]
    have e6 := Ex.new (o := .lst ((ns.drop 1).map V.int)) ncc
    have hcc : (upd (upd H3 fo (.lst [])) cc (.lst ((ns.drop 1).map V.int))) cc = some (.lst ((ns.drop 1).map V.int)) := upd_same
    generalize hH4 : upd (upd H3 fo (.lst [])) cc (.lst ((ns.drop 1).map V.int)) = H4 at e6 hcc ⊢
    have nfH : H fo = none := e4.back nf
    have e7 : Ex H H4 := (e4.trans e5).trans e6
    have hpm4 : H4 pm = some (.lst (ns.map V.int)) := e6 _ _ (e5 _ _ hpm)
    have nfp : pm ≠ fo := fun z => by
      rw [← z, hpm] at nf
      cases nf
    have nfc : cc ≠ fo := fun z => by
      rw [z, upd_same] at ncc
      cases ncc
    refine ⟨pm, cc, _, _, rfl, SqL.of hpm4, SqL.of hcc, for_zip (n := ns.length - 1) (xs := ns.map V.int) (ys := (ns.drop 1).map V.int) (by rw [List.length_map, List.length_map, List.length_drop]; omega)
      (fun i σ H5 => ∃ y5 y6 us fs, σ = [some (.ref b), some (.int m), some (.int wd), some (.ref pm), some (.ref fo), y5, y6, none] ∧ Ex H H5 ∧ H5 pm = some (.lst (ns.map V.int)) ∧ H5 cc = some (.lst ((ns.drop 1).map V.int)) ∧ H5 fo = some (.lst us) ∧ Paired (IsSc H5) us fs ∧
        fs.Pairwise (fun s t => hi s < lo t) ∧ (∀ s ∈ fs, 0 ≤ lo s ∧ hi s < wd ∧ ∀ z, ns[i]? = some z → hi s < z) ∧ fs.length ≤ i)
      ⟨none, none, [], [], rfl, e7, hpm4, hcc, e6 _ _ upd_same, .nil, List.Pairwise.nil, (fun s hs => by cases hs), Nat.le_refl _⟩ (fun i σ H5 _ p => ?_) (fun i x y T σ H5 hi5 hx hy nT p => ?_) (fun σ H5 p => ?_)⟩
    · obtain ⟨_, _, _, _, _, _, g1, g2, _⟩ := p
      exact ⟨SqL.of g1, SqL.of g2⟩
    · obtain ⟨y5, y6, us, fs, rfl, e8, hp5, hc5, hf5, pf, dj, bd, lf⟩ := p
      rw [List.getElem?_map] at hx hy
      rw [List.getElem?_drop, Nat.add_comm 1 i] at hy
      obtain ⟨low, glow, rfl⟩ := Option.map_eq_some_iff.mp hx
      obtain ⟨high, ghigh, rfl⟩ := Option.map_eq_some_iff.mp hy
      have lus : us.length = fs.length := Pa.len pf
      have hlt : low < high := by
        obtain ⟨l1, rfl⟩ := List.getElem?_eq_some_iff.mp glow
        obtain ⟨l2, rfl⟩ := List.getElem?_eq_some_iff.mp ghigh
        exact List.pairwise_iff_getElem.mp inc i (i + 1) l1 l2 (Nat.lt_succ_self i)
      have blow := bn low (List.mem_of_getElem? glow)
      have bhigh := bn high (List.mem_of_getElem? ghigh)
      have eT : Ex H5 (upd H5 T (.tup [.int low, .int high])) := Ex.new nT
      refine ⟨T, _, rfl, SqT.of upd_same, rfl, _, _, rfl, _, _, rfl, rfl, ?_⟩
      refine ⟨.ref b, rfl, b, 4, rfl, eT _ _ (e8 _ _ hb), by decide, by decide, fun n H6 n0 n1 e9 => ⟨n, 0, rfl, rfl, _, rfl, ite2 (fun e => ?_) (fun e => ?_)⟩⟩
      · have e10 := eT.trans e9
        have hf6 := e10 _ _ hf5
        refine ⟨.ref fo, rfl, .inl ⟨rfl, _, .inl (.inl hf6)⟩, .int low, rfl, .int high, rfl, high, 1, rfl, rfl, by show 2 ≤ sizeLine; decide, fun p1 np1 => ?_⟩
        refine ⟨.int high, rfl, high, 1, rfl, rfl, .int low, rfl, by show 2 ≤ sizeLine; decide, fun p2 np2 => ?_⟩
        refine ⟨by show 2 ≤ sizeLine; decide, fun p3 np3 => ?_⟩
        have x1 : Ex H6 (upd H6 p1 (.tup [.int low, .int (high - 1)])) := Ex.new np1
        have x2 := Ex.new (o := .tup [.int (high - 1), .int low]) np2
        have x3 := Ex.new (o := .lst [.ref p1, .ref p2]) np3
        have x123 := (x1.trans x2).trans x3
        refine ⟨.ref b, rfl, b, 2, rfl, x123 _ _ (e10 _ _ (e8 _ _ hb)), by decide, by decide, fun n' H7 n0' n1' e11 => ?_⟩
        have e12 : Ex H5 H7 := (e10.trans x123).trans e11
        have hf7 := e12 _ _ hf5
        have h1 : IsSc H7 (.ref p1) (low, high - 1) := ⟨p1, rfl, e11 _ _ (x3 _ _ (x2 _ _ upd_same))⟩
        have h2 : IsSc H7 (.ref p2) (high - 1, low) := ⟨p2, rfl, e11 _ _ (x3 _ _ upd_same)⟩
        have h3 := e11 _ _ (show (upd _ p3 (.lst [.ref p1, .ref p2])) p3 = some (.lst [.ref p1, .ref p2]) from upd_same)
        have fin : ∀ (v : V) (s1 : Sc), IsSc H7 v s1 → lo s1 = low → Kb.hi s1 = high - 1 → atI [V.ref p1, V.ref p2] n' = some v →
            rIxL K (.ref p3) (.int n') H7 fun v H8 => rAppend (.ref fo) [v] H8 fun _ H9 => ∃ y5 y6 us fs, [some (.ref b), some (.int m), some (.int wd), some (.ref pm), some (.ref fo), some (V.int low), some (V.int high), none] = [some (.ref b), some (.int m), some (.int wd), some (.ref pm), some (.ref fo), y5, y6, none] ∧ Ex H H9 ∧ H9 pm = some (.lst (ns.map V.int)) ∧ H9 cc = some (.lst ((ns.drop 1).map V.int)) ∧ H9 fo = some (.lst us) ∧ Paired (IsSc H9) us fs ∧
              fs.Pairwise (fun s t => Kb.hi s < lo t) ∧ (∀ s ∈ fs, 0 ≤ lo s ∧ Kb.hi s < wd ∧ ∀ z, ns[i + 1]? = some z → Kb.hi s < z) ∧ fs.length ≤ i + 1 := by
          intro v s1 iv el eh ea
          refine ⟨p3, _, n', v, rfl, rfl, SqL.of h3, ea, fo, us, v, rfl, rfl, hf7, small1000 (by omega), some (.int low), some (.int high), us ++ [v], fs ++ [s1], rfl, (e8.trans e12).mut nfH, (upd_ne nfp).trans (e12 _ _ hp5), (upd_ne nfc).trans (e12 _ _ hc5), upd_same, ?_, ?_, ?_, ?_⟩
          · exact Pa.lset hf7 (Pa.snoc (Pa.mono e12 pf) iv)
          · refine List.pairwise_append.mpr ⟨dj, List.pairwise_singleton _ _, fun a ha c hc => ?_⟩
            rw [List.mem_singleton.mp hc, el]
            exact (bd a ha).2.2 low glow
          · intro s hs
            rcases List.mem_append.mp hs with hs | hs
            · obtain ⟨g1, g2, g3⟩ := bd s hs
              refine ⟨g1, g2, fun z hz => ?_⟩
              have g4 := g3 low glow
              rw [ghigh] at hz
              cases hz
              omega
            · rw [List.mem_singleton.mp hs, el, eh]
              refine ⟨blow.1, by omega, fun z hz => ?_⟩
              rw [ghigh] at hz
              cases hz
              omega
          · rw [List.length_append]
            show fs.length + 1 ≤ i + 1
            omega
        have cs : n' = 0 ∨ n' = 1 := by omega
        rcases cs with rfl | rfl
        · refine fin (.ref p1) (low, high - 1) h1 ?_ ?_ rfl
          · show (if high - 1 < low then high - 1 else low) = low
            split <;> omega
          · show (if high - 1 > low then high - 1 else low) = high - 1
            split <;> omega
        · refine fin (.ref p2) (high - 1, low) h2 ?_ ?_ rfl
          · show (if low < high - 1 then low else high - 1) = low
            split <;> omega
          · show (if low > high - 1 then low else high - 1) = high - 1
            split <;> omega
      · have e12 : Ex H5 H6 := eT.trans e9
        refine ⟨some (.int low), some (.int high), us, fs, rfl, e8.trans e12, e12 _ _ hp5, e12 _ _ hc5, e12 _ _ hf5, Pa.mono e12 pf, dj, fun s hs => ?_, by omega⟩
        obtain ⟨g1, g2, g3⟩ := bd s hs
        refine ⟨g1, g2, fun z hz => ?_⟩
        have g4 := g3 low glow
        rw [ghigh] at hz
        cases hz
        omega
    -- behind the loop
    obtain ⟨y5, y6, us, fs, rfl, e8, hp5, hc5, hf5, pf, dj, bd, lf⟩ := p
    have lus : us.length = fs.length := Pa.len pf
    have fin : ∀ {p : Addr} {H' : Hp} {ts : List Sc}, H p = none → Ex H H' → Scs H' p ts → ts.Perm fs → Q (.ref p) H' := fun {p H' ts} g1 g2 g3 g4 =>
      q p H' ts g1 g2 g3 (Good.perm (fun s hs => (bd s hs).1) dj (by omega) g4) (fun s hs => top_of (bd s (g4.mem_iff.mp hs)).2.1) (by rw [g4.length_eq]; omega)
    refine ⟨.ref b, rfl, b, 3, rfl, e8 _ _ hb, by decide, by decide, fun n H6 n0 n1 e9 => ⟨rfl, _, rfl, ite2 (fun e => ?_) (fun e => ?_)⟩⟩
    · have hf6 := e9 _ _ hf5
      have pf6 := Pa.mono e9 pf
      refine ⟨.ref fo, rfl, fo, us, kOf H6, rfl, SqL.of hf6, fun x hx => ?_, fun zs p s1 s2 np => ?_⟩
      · obtain ⟨s1, _, i1⟩ := Pa.mem pf6 x hx
        have ek := kOf_eq i1
        rw [ek]
        exact i1
      obtain ⟨ts, pt, per, _⟩ := Pa.sorted pf6 s1 s2
      have x1 : Ex H6 (upd H6 p (.lst zs)) := Ex.new np
      refine ⟨1, rfl, by show 2 ≤ sizeLine; decide, fun p3 np3 => ?_⟩
      have x3 := Ex.new (o := .lst [V.int 1, V.int (-1)]) np3
      refine ⟨.ref b, rfl, b, 2, rfl, x3 _ _ (x1 _ _ (e9 _ _ (e8 _ _ hb))), by decide, by decide, fun n' H7 n0' n1' e11 => ?_⟩
      have h3 := e11 _ _ (show (upd _ p3 (.lst [V.int 1, V.int (-1)])) p3 = some (.lst [V.int 1, V.int (-1)]) from upd_same)
      have e13 : Ex (upd H6 p (.lst zs)) H7 := x3.trans e11
      have e14 : Ex H H7 := ((e8.trans e9).trans x1).trans e13
      have hz7 : H7 p = some (.lst zs) := e13 _ _ upd_same
      have pt7 : Paired (IsSc H7) zs ts := Pa.mono (x1.trans e13) pt
      have cs : n' = 0 ∨ n' = 1 := by omega
      rcases cs with rfl | rfl
      · refine ⟨p3, _, 0, .int 1, rfl, rfl, SqL.of h3, rfl, 1, rfl, p, zs, 1, rfl, rfl, SqL.of hz7, .inl ⟨rfl, fun p4 np4 => ⟨_, rfl, fin (e14.back np4) (e14.add np4) ⟨zs, upd_same, Pa.mono (Ex.new np4) pt7⟩ per⟩⟩⟩
      · refine ⟨p3, _, 1, .int (-1), rfl, rfl, SqL.of h3, rfl, -1, rfl, p, zs, -1, rfl, rfl, SqL.of hz7, .inr ⟨rfl, fun p4 np4 => ⟨_, rfl, fin (e14.back np4) (e14.add np4) ⟨zs.reverse, upd_same, Pa.mono (Ex.new np4) (Pa.rev pt7)⟩ ((List.reverse_perm _).trans per)⟩⟩⟩
    · refine ⟨.ref b, rfl, .ref fo, rfl, b, fo, fs, rfl, e9 _ _ (e8 _ _ hb), ⟨us, e9 _ _ hf5, Pa.mono e9 pf⟩, by omega, fun p H7 ts np e11 hS per => ?_⟩
      exact fin ((e8.trans e9).back np) ((e8.trans e9).trans e11) hS per
end
end Kb

namespace Kb
open PySem PySem.Spec PyProof.Rows L2 StX TL
abbrev s_law_size : Stmt := topS 48
theorem sc_law_size : FnScope ["scan"] ["scan"] (defScope s_law_size) := ⟨rfl, rfl, rfl, by decide +kernel, rfl, by decide +kernel, by decide +kernel⟩
abbrev s_law_within : Stmt := topS 49
theorem sc_law_within : FnScope ["scan", "low", "high", "bottom", "top"] ["scan", "low", "high"] (defScope s_law_within) := ⟨rfl, rfl, rfl, by decide +kernel, rfl, by decide +kernel, by decide +kernel⟩
abbrev s_law_cut : Stmt := topS 50
theorem sc_law_cut : FnScope ["scans", "low", "high", "found", "scan", "sides"] ["scans", "low", "high"] (defScope s_law_cut) := ⟨rfl, rfl, rfl, by decide +kernel, rfl, by decide +kernel, by decide +kernel⟩
abbrev s_law_first : Stmt := topS 51
theorem sc_law_first : FnScope ["scans", "many", "found", "left", "scan", "some", "step"] ["scans", "many"] (defScope s_law_first) := ⟨rfl, rfl, rfl, by decide +kernel, rfl, by decide +kernel, by decide +kernel⟩
/-- the part of a scan from a to b -/
def wi (s : Sc) (a b : Int) : List Sc := if (if lo s > a then lo s else a) > (if hi s < b then hi s else b) then [] else [if s.1 ≤ s.2 then ((if lo s > a then lo s else a), (if hi s < b then hi s else b)) else ((if hi s < b then hi s else b), (if lo s > a then lo s else a))]
def ct (s : Sc) (l h : Int) : List Sc := if s.1 ≤ s.2 then wi s 0 (l - 1) ++ wi s (h + 1) (hi s) else wi s (h + 1) (hi s) ++ wi s 0 (l - 1)
theorem wi_len (s : Sc) (a b : Int) : (wi s a b).length ≤ 1 := by
  unfold wi
  generalize (if lo s > a then lo s else a) = x
  generalize (if hi s < b then hi s else b) = y
  split
  · exact Nat.zero_le _
  · exact Nat.le_refl _
theorem ct_wo {s : Sc} (l h : Int) (n : Nn s) : ct s l h = wo s l h := by
  have hs := lo_hi s
  have n0 : 0 ≤ lo s := by
    have := sc_cases s
    unfold Nn at n
    omega
  have e1 : (if lo s > 0 then lo s else 0) = lo s := by split <;> omega
  have e2 : (if hi s < l - 1 then hi s else l - 1) = (if l - 1 < hi s then l - 1 else hi s) := by split <;> split <;> omega
  have e3 : (if lo s > h + 1 then lo s else h + 1) = (if h + 1 > lo s then h + 1 else lo s) := by split <;> split <;> omega
  have e4 : (if hi s < hi s then hi s else hi s) = hi s := by split <;> rfl
  unfold ct wo lft ends wi
  rw [e1, e2, e3, e4]
  generalize (if l - 1 < hi s then l - 1 else hi s) = x
  generalize (if h + 1 > lo s then h + 1 else lo s) = y
  by_cases c : s.1 ≤ s.2
  · rw [if_pos c, if_pos c, if_pos c, if_pos c]
    by_cases d1 : lo s ≤ x <;> by_cases d2 : y ≤ hi s
    · rw [if_neg (by omega), if_neg (by omega), List.filter_cons_of_pos (by simp [d1]), List.filter_cons_of_pos (by simp [d2])]
      rfl
    · rw [if_neg (by omega), if_pos (by omega), List.filter_cons_of_pos (by simp [d1]), List.filter_cons_of_neg (by simp; omega)]
      rfl
    · rw [if_pos (by omega), if_neg (by omega), List.filter_cons_of_neg (by simp; omega), List.filter_cons_of_pos (by simp [d2])]
      rfl
    · rw [if_pos (by omega), if_pos (by omega), List.filter_cons_of_neg (by simp; omega), List.filter_cons_of_neg (by simp; omega)]
      rfl
  · rw [if_neg c, if_neg c, if_neg c, if_neg c]
    by_cases d1 : lo s ≤ x <;> by_cases d2 : y ≤ hi s
    · rw [if_neg (by omega), if_neg (by omega), List.filter_cons_of_pos (by simp [d1]), List.filter_cons_of_pos (by simp [d2])]
      rfl
    · rw [if_pos (by omega), if_neg (by omega), List.filter_cons_of_pos (by simp [d1]), List.filter_cons_of_neg (by simp; omega)]
      rfl
    · rw [if_neg (by omega), if_pos (by omega), List.filter_cons_of_neg (by simp; omega), List.filter_cons_of_pos (by simp [d2])]
      rfl
    · rw [if_pos (by omega), if_pos (by omega), List.filter_cons_of_neg (by simp; omega), List.filter_cons_of_neg (by simp; omega)]
      rfl
theorem ct_woL {ss : List Sc} (l h : Int) (n : ∀ s ∈ ss, Nn s) : (ss.flatMap fun s => ct s l h) = woL ss l h := by
  unfold woL
  induction ss with
  | nil => rfl
  | cons s r ih =>
    rw [List.flatMap_cons, List.flatMap_cons, ih fun t ht => n t (List.mem_cons_of_mem _ ht), ct_wo l h (n s List.mem_cons_self)]
theorem fpart_none : ∀ {ss : List Sc} {m : Int}, m ≤ 0 → fpart ss m = []
  | [], _, _ => rfl
  | s :: r, m, h => by
    have := slen_pos s
    show (if 0 < m then [hd s m] else []) ++ fpart r (m - slen s) = []
    rw [if_neg (by omega), fpart_none (by omega)]
    rfl
def spSize : Sp := fun vs H Q _ => ∃ (v : V) (s : Sc), vs = [v] ∧ IsSc H v s ∧ RetV (.int (slen s)) H Q
def spWithin : Sp := fun vs H Q _ => ∃ (v : V) (s : Sc) (a b : Int), vs = [v, .int a, .int b] ∧ IsSc H v s ∧ ∀ p H', H p = none → Ex H H' → Scs H' p (wi s a b) → Q (.ref p) H'
def spLCut : Sp := fun vs H Q _ => ∃ (a : Addr) (ss : List Sc) (l h : Int), vs = [.ref a, .int l, .int h] ∧ Scs H a ss ∧ ss.length ≤ 1000 ∧ (∀ s ∈ ss, Nn s) ∧ ∀ p H', H p = none → Ex H H' → Scs H' p (woL ss l h) → Q (.ref p) H'
def spLFirst : Sp := fun vs H Q _ => ∃ (a : Addr) (ss : List Sc) (m : Int), vs = [.ref a, .int m] ∧ Scs H a ss ∧ ss.length ≤ 1000 ∧ 0 ≤ m ∧ ∀ p H', H p = none → Ex H H' → Scs H' p (fpart ss m) → Q (.ref p) H'
section
variable {P : Program} {w : World} {K : PySem.W.Frag} {mg : Str → Option Value} {base : Heap}
theorem ok_lsize (B : Bt mg) {f : Addr} {fd : FuncData} (F : Fun K "_law_size" "_law_size" s_law_size f fd) : FnOk P w K mg base CX0 1 f fd ["scan"] spSize := by
  refine F.ok sc_law_size (fun vs H Q E h => ?_) (fun cdv A outer s H vs Q E hr h => ?_)
  · obtain ⟨v, s, rfl, _⟩ := h
    rfl
  · obtain ⟨v, ⟨x, y⟩, rfl, ⟨t, rfl, ht⟩, q⟩ := h
    refine ⟨_, (pss_one (ps_ret (pe_op op_add (pe_callB call_abs (by rfl) B.abs bo_abs (pa_cons (pe_op op_sub (pe_ix ix_tup (pv 0) pe_int (fun _ _ => rfl)) (pe_ix ix_tup (pv 0) pe_int (fun _ _ => rfl))) pa_nil)) pe_int))), ?_⟩
    exact ⟨.ref t, rfl, t, _, 1, _, rfl, rfl, SqT.of ht, rfl, .ref t, rfl, t, _, 0, _, rfl, rfl, SqT.of ht, rfl, y, x, rfl, rfl, y - x, rfl, _, 1, rfl, rfl, q.go (Ex.refl _)⟩
theorem ok_within (B : Bt mg) {f : Addr} {fd : FuncData} (F : Fun K "_law_within" "_law_within" s_law_within f fd) : FnOk P w K mg base CX0 1 f fd ["scan", "low", "high"] spWithin := by
  refine F.ok sc_law_within (fun vs H Q E h => ?_) (fun cdv A outer s H vs Q E hr h => ?_)
  · obtain ⟨v, s, a, b, rfl, _⟩ := h
    rfl
  · obtain ⟨v, ⟨x, y⟩, a, b, rfl, ⟨t, rfl, ht⟩, q⟩ := h
    refine ⟨_, (pss_cons (ps_par (i := 3) (j := 4) rfl sc_law_within.nd rfl rfl (by decide) rfl rfl (pa_cons (pe_callB (call_max2 rfl) (by rfl) B.max bo_max (pa_cons (pv 1) (pa_cons (pe_callB (cr_minT rfl) (by rfl) B.min bo_min (pa_cons (pv 0) pa_nil)) pa_nil))) (pa_cons (pe_callB (call_min2 rfl) (by rfl) B.min bo_min (pa_cons (pv 2) (pa_cons (pe_callB (cr_maxT rfl) (by rfl) B.max bo_max (pa_cons (pv 0) pa_nil)) pa_nil))) pa_nil)) (by rfl))
      (pss_cons (ps_if (pt_cmpR op_gt (pv 3) (pv 4) (nomark _)) (pss_one (ps_ret (pe_lst pa_nil))) pss_nil)
      (pss_one (ps_ret (pe_lst (pa_cons (pe_ifExp (pt_cmpR op_le (pe_ix ix_tup (pv 0) pe_int (fun _ _ => rfl)) (pe_ix ix_tup (pv 0) pe_int (fun _ _ => rfl)) (nomark _)) (pe_tup (pa_cons (pv 3) (pa_cons (pv 4) pa_nil))) (pe_tup (pa_cons (pv 4) (pa_cons (pv 3) pa_nil)))) pa_nil)))))), ?_⟩
    refine ⟨.int a, rfl, .ref t, rfl, t, x, y, rfl, ht, a, _, rfl, .int b, rfl, .ref t, rfl, t, x, y, rfl, ht, b, _, rfl, _, _, rfl, ?_⟩
    have eq : wi (x, y) a b = if (if lo (x, y) > a then lo (x, y) else a) > (if hi (x, y) < b then hi (x, y) else b) then [] else [if x ≤ y then ((if lo (x, y) > a then lo (x, y) else a), (if hi (x, y) < b then hi (x, y) else b)) else ((if hi (x, y) < b then hi (x, y) else b), (if lo (x, y) > a then lo (x, y) else a))] := rfl
    rw [eq] at q
    show tSeq _ _ _ ((List.set _ 3 (some (V.int (if lo (x, y) > a then lo (x, y) else a)))).set 4 (some (V.int (if hi (x, y) < b then hi (x, y) else b)))) _
    generalize (if lo (x, y) > a then lo (x, y) else a) = bo at q ⊢
    generalize (if hi (x, y) < b then hi (x, y) else b) = to at q ⊢
    refine ⟨.int bo, rfl, .int to, rfl, bo, to, rfl, rfl, _, rfl, ite2 (fun e => ?_) (fun e => ?_)⟩
    · have e' : bo > to := of_decide_eq_true e
      rw [if_pos e'] at q
      exact ⟨Nat.zero_le _, fun p np => q p _ np (Ex.new np) ⟨[], upd_same, .nil⟩⟩
    · have e' : ¬ bo > to := fun z => e (decide_eq_true z)
      rw [if_neg e'] at q
      refine ⟨.ref t, rfl, t, _, 0, _, rfl, rfl, SqT.of ht, rfl, .ref t, rfl, t, _, 1, _, rfl, rfl, SqT.of ht, rfl, x, y, rfl, rfl, _, rfl, ite2 (fun e => ?_) (fun e => ?_)⟩
      · have e'' : x ≤ y := of_decide_eq_true e
        rw [if_pos e''] at q
        refine ⟨.int bo, rfl, .int to, rfl, by show 2 ≤ sizeLine; decide, fun pt npt => ⟨by show 1 ≤ sizeLine; decide, fun pl npl => ?_⟩⟩
        have z1 := Ex.new (o := .tup [V.int bo, V.int to]) npt
        have z2 := Ex.new (o := .lst [V.ref pt]) npl
        exact q pl _ (z1.back npl) (z1.trans z2) ⟨_, upd_same, .cons ⟨pt, rfl, z2 _ _ upd_same⟩ .nil⟩
      · have e'' : ¬ x ≤ y := fun z => e (decide_eq_true z)
        rw [if_neg e''] at q
        refine ⟨.int to, rfl, .int bo, rfl, by show 2 ≤ sizeLine; decide, fun pt npt => ⟨by show 1 ≤ sizeLine; decide, fun pl npl => ?_⟩⟩
        have z1 := Ex.new (o := .tup [V.int to, V.int bo]) npt
        have z2 := Ex.new (o := .lst [V.ref pt]) npl
        exact q pl _ (z1.back npl) (z1.trans z2) ⟨_, upd_same, .cons ⟨pt, rfl, z2 _ _ upd_same⟩ .nil⟩
theorem ct_snoc {ss : List Sc} {i : Nat} {s : Sc} (l h : Int) (g : ss[i]? = some s) : ((ss.take (i + 1)).flatMap fun s => ct s l h) = ((ss.take i).flatMap fun s => ct s l h) ++ ct s l h := by
  rw [List.take_add_one, g, List.flatMap_append]
  show _ ++ (ct s l h ++ []) = _
  rw [List.append_nil]
theorem ct_len (ss : List Sc) (l h : Int) : (ss.flatMap fun s => ct s l h).length ≤ 2 * ss.length := by
  induction ss with
  | nil => exact Nat.zero_le _
  | cons s r ih =>
    have a := wi_len s 0 (l - 1)
    have b := wi_len s (h + 1) (hi s)
    have c : (ct s l h).length ≤ 2 := by
      unfold ct
      split <;> (rw [List.length_append]; omega)
    rw [List.flatMap_cons, List.length_append, List.length_cons]
    omega
theorem ok_lcut (B : Bt mg) (D_law_within : Df P w K mg base "_law_within" 1 ["scan", "low", "high"] spWithin) {f : Addr} {fd : FuncData} (F : Fun K "_law_cut" "_law_cut" s_law_cut f fd) : FnOk P w K mg base CX0 2 f fd ["scans", "low", "high"] spLCut := by
  refine F.ok sc_law_cut (fun vs H Q E h => ?_) (fun cdv A outer s H vs Q E hr h => ?_)
  · obtain ⟨a, ss, l, h, rfl, _⟩ := h
    rfl
  · obtain ⟨a, ss, l, h, rfl, hS, few, nn, q⟩ := h
    refine ⟨_, (pss_cons (ps_set (i := 3) sc_law_cut.nd rfl (by first | exact Or.inl rfl | exact Or.inr rfl) (pe_lst pa_nil))
      (pss_cons (ps_for PassesOwn.never rfl (pi_list (pv 0)) (pg_name (i := 4) sc_law_cut.nd rfl (by first | exact Or.inl rfl | exact Or.inr rfl)) (pss_cons (ps_set (i := 5) sc_law_cut.nd rfl (by first | exact Or.inl rfl | exact Or.inr rfl) (pe_lst (pa_cons (pe_df D_law_within hr (pa_cons (pv 4) (pa_cons pe_int (pa_cons (pe_op op_sub (pv 1) pe_int) pa_nil)))) (pa_cons (pe_df D_law_within hr (pa_cons (pv 4) (pa_cons (pe_op op_add (pv 2) pe_int) (pa_cons (pe_callB (cr_maxT rfl) (by rfl) B.max bo_max (pa_cons (pv 4) pa_nil)) pa_nil)))) pa_nil))))
      (pss_one (ps_set (i := 3) sc_law_cut.nd rfl (by first | exact Or.inl rfl | exact Or.inr rfl) (pe_op op_cat (pv 3) (pe_ifExp (pt_cmpR op_le (pe_ix ix_tup (pv 4) pe_int (fun _ _ => rfl)) (pe_ix ix_tup (pv 4) pe_int (fun _ _ => rfl)) (nomark _)) (pe_op op_cat (pe_ix ix_list (pv 5) pe_int (fun _ _ => rfl)) (pe_ix ix_list (pv 5) pe_int (fun _ _ => rfl))) (pe_op op_cat (pe_ix ix_list (pv 5) pe_int (fun _ _ => rfl)) (pe_ix ix_list (pv 5) pe_int (fun _ _ => rfl)))))))))
      (pss_one (ps_ret (pv 3))))), ?_⟩
    obtain ⟨vs, ha, pa⟩ := hS
    have lv : vs.length = ss.length := Pa.len pa
    refine ⟨Nat.zero_le _, fun p0 np0 => ?_⟩
    have z0 := Ex.new (o := .lst ([] : List V)) np0
    refine ⟨.ref a, rfl, a, rfl, ⟨_, SqL.of (z0 _ _ ha)⟩, for_list (xs := vs) (fun i σ H1 => ∃ p y4 y5, σ = [some (.ref a), some (.int l), some (.int h), some (.ref p), y4, y5] ∧ Ex H H1 ∧ H p = none ∧ Scs H1 p ((ss.take i).flatMap fun s => ct s l h)) ⟨p0, none, none, rfl, z0, np0, ⟨[], upd_same, .nil⟩⟩ (fun i σ H1 _ w => ?_) (fun i v σ H1 hx w => ?_) (fun σ H1 w => ?_)⟩
    · obtain ⟨_, _, _, _, e, _⟩ := w
      exact SqL.of (e _ _ ha)
    · obtain ⟨p, y4, y5, rfl, e, np, hp⟩ := w
      obtain ⟨s1, gs, i1⟩ := Pa.get pa hx
      have il := (List.getElem?_eq_some_iff.mp gs).1
      refine ⟨v, rfl, .int l, rfl, l, 1, rfl, rfl, v, s1, 0, l - 1, rfl, i1.mono e, fun pA H2 npA e2 hA => ?_⟩
      obtain ⟨t, rfl, ht⟩ := (i1.mono e).mono e2
      refine ⟨.ref t, rfl, .int h, rfl, h, 1, rfl, rfl, .ref t, rfl, t, s1.1, s1.2, rfl, ht, .ref t, s1, h + 1, hi s1, rfl, ⟨t, rfl, ht⟩, fun pB H3 npB e3 hB => ⟨by show 2 ≤ sizeLine; decide, fun pS npS => ?_⟩⟩
      have z1 := Ex.new (o := .lst [V.ref pA, V.ref pB]) npS
      have hA := (hA.mono e3).mono z1
      have hB := hB.mono z1
      have hS3 := upd_same (H := H3) (a := pS) (o := .lst [V.ref pA, V.ref pB])
      have e03 := ((e.trans e2).trans e3).trans z1
      have hp3 := hp.mono ((e2.trans e3).trans z1)
      have ht3 := (e3.trans z1) _ _ ht
      generalize upd H3 pS (.lst [V.ref pA, V.ref pB]) = H4 at hA hB hS3 e03 hp3 ht3 ⊢
      have fin : ∀ (X Y : Addr) (xs ys : List Sc), Scs H4 X xs → Scs H4 Y ys → xs.length ≤ 1 → ys.length ≤ 1 → ct s1 l h = xs ++ ys → ∀ (R : V → Hp → Prop), (∀ p' H', Ex H4 H' → H4 p' = none → Scs H' p' ((ss.take (i + 1)).flatMap fun s => ct s l h) → R (.ref p') H') →
          ∃ ws us, H4 X = some (.lst ws) ∧ H4 Y = some (.lst us) ∧ ws.length + us.length ≤ sizeLine ∧ ∀ q1, H4 q1 = none → ∃ gs, (upd H4 q1 (.lst (ws ++ us))) p = some (.lst gs) ∧ gs.length + (ws ++ us).length ≤ sizeLine ∧ ∀ q2, (upd H4 q1 (.lst (ws ++ us))) q2 = none → R (.ref q2) (upd (upd H4 q1 (.lst (ws ++ us))) q2 (.lst (gs ++ (ws ++ us)))) := by
        intro X Y xs ys hX hY lx ly ec R hR
        obtain ⟨ws, hw, pw⟩ := hX
        obtain ⟨us, hu, pu⟩ := hY
        obtain ⟨gs', hg, pg⟩ := hp3
        have a1 := Pa.len pw
        have a2 := Pa.len pu
        have a3 := Pa.len pg
        have a4 := ct_len (ss.take i) l h
        rw [List.length_take] at a4
        refine ⟨ws, us, hw, hu, Nat.le_of_lt (small20 (by omega)), fun q1 n1 => ⟨gs', Ex.new n1 _ _ hg, by rw [List.length_append]; exact Nat.le_of_lt (small20 (by omega)), fun q2 n2 => ?_⟩⟩
        have y1 := Ex.new (o := .lst (ws ++ us)) n1
        have y2 := Ex.new (o := .lst (gs' ++ (ws ++ us))) n2
        refine hR q2 _ (y1.trans y2) (y1.back n2) ⟨_, upd_same, ?_⟩
        rw [ct_snoc l h gs, ec]
        exact Pa.app (Pa.mono (y1.trans y2) pg) (Pa.app (Pa.mono (y1.trans y2) pw) (Pa.mono (y1.trans y2) pu))
      have wA := wi_len s1 0 (l - 1)
      have wB := wi_len s1 (h + 1) (hi s1)
      refine ⟨.ref p, rfl, .ref t, rfl, t, _, 0, _, rfl, rfl, SqT.of ht3, rfl, .ref t, rfl, t, _, 1, _, rfl, rfl, SqT.of ht3, rfl, s1.1, s1.2, rfl, rfl, _, rfl, ite2 (fun e => ?_) (fun e => ?_)⟩
      · have e'' : s1.1 ≤ s1.2 := of_decide_eq_true e
        obtain ⟨ws, us, hw, hu, lz, k⟩ := fin pA pB _ _ hA hB wA wB (if_pos e'') (fun v H' => ∃ p', v = .ref p' ∧ Ex H4 H' ∧ H4 p' = none ∧ Scs H' p' ((ss.take (i + 1)).flatMap fun s => ct s l h)) (fun p' H' ex np' hp' => ⟨p', rfl, ex, np', hp'⟩)
        refine ⟨.ref pS, rfl, pS, _, 0, _, rfl, rfl, SqL.of hS3, rfl, .ref pS, rfl, pS, _, 1, _, rfl, rfl, SqL.of hS3, rfl, pA, pB, ws, us, rfl, rfl, hw, hu, lz, fun q1 n1 => ?_⟩
        obtain ⟨gs', hg, lg, k2⟩ := k q1 n1
        refine ⟨p, q1, gs', ws ++ us, rfl, rfl, hg, upd_same, lg, fun q2 n2 => ?_⟩
        obtain ⟨p', ev, ex, np', hp'⟩ := k2 q2 n2
        cases ev
        exact ⟨_, _, _, rfl, e03.trans ex, e03.back np', hp'⟩
      · have e'' : ¬ s1.1 ≤ s1.2 := fun z => e (decide_eq_true z)
        obtain ⟨ws, us, hw, hu, lz, k⟩ := fin pB pA _ _ hB hA wB wA (if_neg e'') (fun v H' => ∃ p', v = .ref p' ∧ Ex H4 H' ∧ H4 p' = none ∧ Scs H' p' ((ss.take (i + 1)).flatMap fun s => ct s l h)) (fun p' H' ex np' hp' => ⟨p', rfl, ex, np', hp'⟩)
        refine ⟨.ref pS, rfl, pS, _, 1, _, rfl, rfl, SqL.of hS3, rfl, .ref pS, rfl, pS, _, 0, _, rfl, rfl, SqL.of hS3, rfl, pB, pA, ws, us, rfl, rfl, hw, hu, lz, fun q1 n1 => ?_⟩
        obtain ⟨gs', hg, lg, k2⟩ := k q1 n1
        refine ⟨p, q1, gs', ws ++ us, rfl, rfl, hg, upd_same, lg, fun q2 n2 => ?_⟩
        obtain ⟨p', ev, ex, np', hp'⟩ := k2 q2 n2
        cases ev
        exact ⟨_, _, _, rfl, e03.trans ex, e03.back np', hp'⟩
    · obtain ⟨p, y4, y5, rfl, e, np, hp⟩ := w
      rw [lv, List.take_length, ct_woL l h nn] at hp
      exact ⟨_, rfl, q p H1 np e hp⟩
theorem ok_lfirst (B : Bt mg) (D_law_size : Df P w K mg base "_law_size" 1 ["scan"] spSize) {f : Addr} {fd : FuncData} (F : Fun K "_law_first" "_law_first" s_law_first f fd) : FnOk P w K mg base CX0 2 f fd ["scans", "many"] spLFirst := by
  refine F.ok sc_law_first (fun vs H Q E h => ?_) (fun cdv A outer s H vs Q E hr h => ?_)
  · obtain ⟨a, ss, m, rfl, _⟩ := h
    rfl
  · obtain ⟨a, ss, m, rfl, hS, few, m0, q⟩ := h
    refine ⟨_, (pss_cons (ps_par (i := 2) (j := 3) rfl sc_law_first.nd rfl rfl (by decide) rfl rfl (pa_cons (pe_lst pa_nil) (pa_cons (pv 1) pa_nil)) (by rfl))
      (pss_cons (ps_for PassesOwn.never rfl (pi_list (pv 0)) (pg_name (i := 4) sc_law_first.nd rfl (by first | exact Or.inl rfl | exact Or.inr rfl)) (pss_one (ps_if (pt_cmpR op_gt (pv 3) pe_int (nomark _)) (pss_cons (ps_set (i := 5) sc_law_first.nd rfl (by first | exact Or.inl rfl | exact Or.inr rfl) (pe_callB (call_min2 rfl) (by rfl) B.min bo_min (pa_cons (pv 3) (pa_cons (pe_df D_law_size hr (pa_cons (pv 4) pa_nil)) pa_nil))))
      (pss_cons (ps_set (i := 6) sc_law_first.nd rfl (by first | exact Or.inl rfl | exact Or.inr rfl) (pe_ifExp (pt_cmpR op_le (pe_ix ix_tup (pv 4) pe_int (fun _ _ => rfl)) (pe_ix ix_tup (pv 4) pe_int (fun _ _ => rfl)) (nomark _)) pe_int (pe_un un_neg pe_int)))
      (pss_cons (ps_expr (pe_bm PySem.F.plainAttrs_list PySem.F.slot_list_append PySem.F.type_list_append mt_append (pv 2) (pa_cons (pe_tup (pa_cons (pe_ix ix_tup (pv 4) pe_int (fun _ _ => rfl)) (pa_cons (pe_op op_add (pe_ix ix_tup (pv 4) pe_int (fun _ _ => rfl)) (pe_op op_mul (pv 6) (pe_op op_sub (pv 5) pe_int))) pa_nil))) pa_nil)))
      (pss_one (ps_set (i := 3) sc_law_first.nd rfl (by first | exact Or.inl rfl | exact Or.inr rfl) (pe_op op_sub (pv 3) (pv 5))))))) pss_nil)))
      (pss_one (ps_ret (pv 2))))), ?_⟩
    obtain ⟨vs, ha, pa⟩ := hS
    have lv : vs.length = ss.length := Pa.len pa
    refine ⟨Nat.zero_le _, fun p0 np0 => ⟨.int m, rfl, _, _, rfl, ?_⟩⟩
    have z0 := Ex.new (o := .lst ([] : List V)) np0
    refine ⟨.ref a, rfl, a, rfl, ⟨_, SqL.of (z0 _ _ ha)⟩, for_list (xs := vs) (fun i σ H1 => ∃ y4 y5 y6 fs left, σ = [some (.ref a), some (.int m), some (.ref p0), some (.int left), y4, y5, y6] ∧ Ex H H1 ∧ Scs H1 p0 fs ∧ fs.length ≤ i ∧ 0 ≤ left ∧ fs ++ fpart (ss.drop i) left = fpart ss m) ⟨none, none, none, [], m, rfl, z0, ⟨[], upd_same, .nil⟩, Nat.le_refl _, m0, rfl⟩ (fun i σ H1 _ w => ?_) (fun i v σ H1 hx w => ?_) (fun σ H1 w => ?_)⟩
    · obtain ⟨_, _, _, _, _, _, e, _⟩ := w
      exact SqL.of (e _ _ ha)
    · obtain ⟨y4, y5, y6, fs, left, rfl, e, hp, lf, l0, eq⟩ := w
      obtain ⟨s1, gs, i1⟩ := Pa.get pa hx
      have il := (List.getElem?_eq_some_iff.mp gs).1
      rw [drop_at gs] at eq
      have eq : fs ++ ((if 0 < left then [hd s1 left] else []) ++ fpart (ss.drop (i + 1)) (left - slen s1)) = fpart ss m := eq
      have sp := slen_pos s1
      refine ⟨.int left, rfl, left, 0, rfl, rfl, _, rfl, ite2 (fun c => ?_) (fun c => ?_)⟩
      · have c' : left > 0 := of_decide_eq_true c
        rw [if_pos c'] at eq
        refine ⟨.int left, rfl, v, rfl, v, s1, rfl, i1.mono e, fun H2 e2 => ⟨left, slen s1, rfl, ?_⟩⟩
        obtain ⟨t, rfl, ht⟩ := (i1.mono e).mono e2
        obtain ⟨gs', hg, pg⟩ := hp.mono e2
        have lg := Pa.len pg
        have e02 := e.trans e2
        have hdv : hd s1 left = (s1.1, if s1.1 ≤ s1.2 then s1.1 + ((if slen s1 < left then slen s1 else left) - 1) else s1.1 - ((if slen s1 < left then slen s1 else left) - 1)) := rfl
        rw [hdv] at eq
        generalize hK : (if slen s1 < left then slen s1 else left) = K1 at eq ⊢
        have k1 : 1 ≤ K1 ∧ K1 ≤ left ∧ fpart (ss.drop (i + 1)) (left - K1) = fpart (ss.drop (i + 1)) (left - slen s1) := by
          rw [← hK]
          split
          · exact ⟨sp, by omega, rfl⟩
          · exact ⟨by omega, by omega, by rw [fpart_none (by omega), fpart_none (by omega)]⟩
        rw [← k1.2.2] at eq
        refine ⟨.ref t, rfl, t, _, 0, _, rfl, rfl, SqT.of ht, rfl, .ref t, rfl, t, _, 1, _, rfl, rfl, SqT.of ht, rfl, s1.1, s1.2, rfl, rfl, _, rfl, ite2 (fun c2 => ?_) (fun c2 => ?_)⟩
        · have c3 : s1.1 ≤ s1.2 := of_decide_eq_true c2
          rw [if_pos c3] at eq
          refine ⟨.ref p0, rfl, .inl ⟨rfl, _, SqL.of hg⟩, .ref t, rfl, t, _, 0, _, rfl, rfl, SqT.of ht, rfl, .ref t, rfl, t, _, 0, _, rfl, rfl, SqT.of ht, rfl, .int 1, rfl, .int K1, rfl, K1, 1, rfl, rfl, 1, K1 - 1, rfl, rfl, .inl ⟨by decide, by decide⟩, s1.1, 1 * (K1 - 1), rfl, rfl, by show 2 ≤ sizeLine; decide, fun pt npt => ?_⟩
          have z1 := Ex.new (o := .tup [V.int s1.1, V.int (s1.1 + 1 * (K1 - 1))]) npt
          refine ⟨p0, gs', .ref pt, rfl, rfl, z1 _ _ hg, small20 (by omega), .int left, rfl, .int K1, rfl, left, K1, rfl, rfl, some (.ref t), some (.int K1), some (.int 1), fs ++ [(s1.1, s1.1 + (K1 - 1))], left - K1, rfl, (e02.trans z1).mut np0, ⟨_, upd_same, ?_⟩, by rw [List.length_append, List.length_singleton]; omega, by omega, by rw [List.append_assoc]; exact eq⟩
          refine Pa.snoc (Pa.lset (z1 _ _ hg) (Pa.mono z1 pg)) ⟨pt, rfl, ?_⟩
          have npt0 : pt ≠ p0 := fun h => by
            rw [h, hg] at npt
            cases npt
          rw [upd_ne npt0, upd_same, Int.one_mul]
        · have c3 : ¬ s1.1 ≤ s1.2 := fun z => c2 (decide_eq_true z)
          rw [if_neg c3] at eq
          refine ⟨1, rfl, .ref p0, rfl, .inl ⟨rfl, _, SqL.of hg⟩, .ref t, rfl, t, _, 0, _, rfl, rfl, SqT.of ht, rfl, .ref t, rfl, t, _, 0, _, rfl, rfl, SqT.of ht, rfl, .int (-1), rfl, .int K1, rfl, K1, 1, rfl, rfl, -1, K1 - 1, rfl, rfl, .inl ⟨by decide, by decide⟩, s1.1, -1 * (K1 - 1), rfl, rfl, by show 2 ≤ sizeLine; decide, fun pt npt => ?_⟩
          have z1 := Ex.new (o := .tup [V.int s1.1, V.int (s1.1 + -1 * (K1 - 1))]) npt
          refine ⟨p0, gs', .ref pt, rfl, rfl, z1 _ _ hg, small20 (by omega), .int left, rfl, .int K1, rfl, left, K1, rfl, rfl, some (.ref t), some (.int K1), some (.int (-1)), fs ++ [(s1.1, s1.1 - (K1 - 1))], left - K1, rfl, (e02.trans z1).mut np0, ⟨_, upd_same, ?_⟩, by rw [List.length_append, List.length_singleton]; omega, by omega, by rw [List.append_assoc]; exact eq⟩
          refine Pa.snoc (Pa.lset (z1 _ _ hg) (Pa.mono z1 pg)) ⟨pt, rfl, ?_⟩
          have npt0 : pt ≠ p0 := fun h => by
            rw [h, hg] at npt
            cases npt
          rw [upd_ne npt0, upd_same]
          show some (HO.tup [V.int s1.1, V.int (s1.1 + -1 * (K1 - 1))]) = some (HO.tup [V.int s1.1, V.int (s1.1 - (K1 - 1))])
          rw [show s1.1 + -1 * (K1 - 1) = s1.1 - (K1 - 1) by omega]
      · have c' : ¬ left > 0 := fun z => c (decide_eq_true z)
        rw [if_neg c', List.nil_append, fpart_none (by omega)] at eq
        refine ⟨some v, y5, y6, fs, left, rfl, e, hp, by omega, l0, ?_⟩
        rw [fpart_none (by omega)]
        exact eq
    · obtain ⟨y4, y5, y6, fs, left, rfl, e, hp, lf, l0, eq⟩ := w
      rw [lv, List.drop_length] at eq
      have eq : fs ++ [] = fpart ss m := eq
      rw [List.append_nil] at eq
      subst eq
      exact ⟨_, rfl, q p0 H1 np0 e hp⟩
end
end Kb

namespace Kb
open PySem PySem.Spec PyProof.Rows L2 StX TL
abbrev s_law_marks : Stmt := topS 52
theorem sc_law_marks : FnScope ["bag", "scans", "found", "turn", "scan"] ["bag", "scans"] (defScope s_law_marks) := ⟨rfl, rfl, rfl, by decide +kernel, rfl, by decide +kernel, by decide +kernel⟩
def spMarks : Sp := fun vs H Q _ => ∃ (b a : Addr) (ss : List Sc), vs = [.ref b, .ref a] ∧ H b = some (bagO b) ∧ Scs H a ss ∧ Good ss ∧ ss.length ≤ 210 ∧ (∀ s ∈ ss, s.1 < 10 ^ 99 ∧ s.2 < 10 ^ 99) ∧ ∀ p H' (ms : List Int), H p = none → Ex H H' → H' p = some (.lst (ms.map V.int)) → (∀ m ∈ ms, 0 ≤ m) → 2 ≤ ms.length → ms.length ≤ 30 → Q (.ref p) H'
section
variable {P : Program} {w : World} {K : PySem.W.Frag} {mg : Str → Option Value} {base : Heap}
theorem ok_marks (B : Bt mg) (D_law_pick : Df P w K mg base "_law_pick" 1 ["bag", "many"] spPick) (D_law_size : Df P w K mg base "_law_size" 1 ["scan"] spSize) {f : Addr} {fd : FuncData} (F : Fun K "_law_marks" "_law_marks" s_law_marks f fd) : FnOk P w K mg base CX0 2 f fd ["bag", "scans"] spMarks := by
  refine F.ok sc_law_marks (fun vs H Q E h => ?_) (fun cdv A outer s H vs Q E hr h => ?_)
  · obtain ⟨b, a, ss, rfl, _⟩ := h
    rfl
  · obtain ⟨b, a, ss, rfl, hb, hS, G, few, bd, q⟩ := h
    refine ⟨_, (pss_cons (ps_set (i := 2) sc_law_marks.nd rfl (by first | exact Or.inl rfl | exact Or.inr rfl) (pe_lst (pa_cons pe_int (pa_cons (pe_op op_mulW (pe_op op_pow pe_int pe_int) (pe_op op_pow pe_int pe_int)) pa_nil))))
      (pss_cons (ps_for PassesOwn.never rfl (pi_range1 (by rfl) B.range (pa_cons (pe_op op_mulW pe_int (pe_callTy call_int1 (by rfl) B.int bo_int (pa_cons (pe_cmpR (op_neD hr.units) (pv 1) (pe_lst pa_nil) (nomark _)) pa_nil))) pa_nil)) (pg_name (i := 3) sc_law_marks.nd rfl (by first | exact Or.inl rfl | exact Or.inr rfl)) (pss_cons (ps_set (i := 4) sc_law_marks.nd rfl (by first | exact Or.inl rfl | exact Or.inr rfl) (pe_ix ix_list (pv 1) (pe_df D_law_pick hr (pa_cons (pv 0) (pa_cons (pe_callB call_len_seq (by rfl) B.len bo_len (pa_cons (pv 1) pa_nil)) pa_nil))) (fun _ _ => rfl)))
      (pss_cons (ps_set (i := 2) sc_law_marks.nd rfl (by first | exact Or.inl rfl | exact Or.inr rfl) (pe_op op_cat (pv 2) (pe_lst (pa_cons (pe_ix ix_tup (pv 4) pe_int (fun _ _ => rfl)) (pa_cons (pe_ix ix_tup (pv 4) pe_int (fun _ _ => rfl)) (pa_cons (pe_callB (call_max2 rfl) (by rfl) B.max bo_max (pa_cons pe_int (pa_cons (pe_op op_sub (pe_callB (cr_minT rfl) (by rfl) B.min bo_min (pa_cons (pv 4) pa_nil)) pe_int) pa_nil))) (pa_cons (pe_op op_add (pe_callB (cr_maxT rfl) (by rfl) B.max bo_max (pa_cons (pv 4) pa_nil)) pe_int) pa_nil)))))))
      (pss_one (ps_expr (pe_bm PySem.F.plainAttrs_list PySem.F.slot_list_append PySem.F.type_list_append mt_append (pv 2) (pa_cons (pe_op op_add (pe_callB (cr_minT rfl) (by rfl) B.min bo_min (pa_cons (pv 4) pa_nil)) (pe_df D_law_pick hr (pa_cons (pv 0) (pa_cons (pe_df D_law_size hr (pa_cons (pv 4) pa_nil)) pa_nil)))) pa_nil)))))))
      (pss_one (ps_ret (pv 2))))), ?_⟩
    obtain ⟨vs, ha, pa⟩ := hS
    have lv : vs.length = ss.length := Pa.len pa
    have w99 : CMulW (10 ^ 64) (10 ^ 35) := wide_mul (a := 300) (b := 200) (by decide +kernel) (by decide +kernel) (by decide) (by decide) (by decide)
    refine ⟨10, 64, rfl, rfl, ⟨by decide, by decide, by decide⟩, 10, 35, rfl, rfl, ⟨by decide, by decide, by decide⟩, _, _, rfl, rfl, w99, by show 2 ≤ sizeLine; decide, fun p0 np0 => ?_⟩
    have z0 := Ex.new (o := .lst ([(0 : Int), 10 ^ 64 * 10 ^ 35].map V.int)) np0
    have hp0 : (upd H p0 (.lst ([(0 : Int), 10 ^ 64 * 10 ^ 35].map V.int))) p0 = some (.lst ([(0 : Int), 10 ^ 64 * 10 ^ 35].map V.int)) := upd_same
    refine ⟨.ref a, rfl, Nat.zero_le _, fun p1 np1 => ?_⟩
    have z1 := Ex.new (o := .lst ([] : List V)) np1
    have e01 := z0.trans z1
    have hS1 : Scs (upd (upd H p0 (.lst ([(0 : Int), 10 ^ 64 * 10 ^ 35].map V.int))) p1 (.lst [])) a ss := Scs.mono e01 ⟨vs, ha, pa⟩
    refine ⟨pdL ss, pdL [], hS1.dp, Scs.dp ⟨[], upd_same, .nil⟩, shaped_L _, shaped_L _, ?_⟩
    rw [eqv_L]
    have hp1 := z1 _ _ hp0
    refine .inr ⟨_, rfl, ?_⟩
    obtain ⟨c, hc, c01, cpos⟩ : ∃ c : Int, (if (!decide (ss = ([] : List Sc))) = true then (1 : Int) else 0) = c ∧ (c = 0 ∨ c = 1) ∧ (c = 1 → 1 ≤ ss.length) := by
      cases ss with
      | nil => exact ⟨0, rfl, .inl rfl, fun h => by cases h⟩
      | cons s r => exact ⟨1, rfl, .inr rfl, fun _ => Nat.succ_le_succ (Nat.zero_le _)⟩
    rw [hc]
    have wc : CMulW 4 c := by
      rcases c01 with rfl | rfl
      · exact wide_mul (a := 5) (b := 5) (by decide) (by decide) (by decide) (by decide) (by decide)
      · exact wide_mul (a := 5) (b := 5) (by decide) (by decide) (by decide) (by decide) (by decide)
    have big : (1 : Int) ≤ 10 ^ 64 * 10 ^ 35 := by decide +kernel
    have h100 : (10 : Int) ^ 99 + 1 ≤ 10 ^ 100 := by decide +kernel
    refine ⟨4, c, rfl, rfl, wc, 4 * c, rfl, by omega, by omega, for_range (lo := 0) (n := (4 * c).toNat) (fun i σ H' => ∃ y3 y4 p, ∃ ms : List Int, σ = [some (.ref b), some (.ref a), some (.ref p), y3, y4] ∧ Ex H H' ∧ H p = none ∧ H' p = some (.lst (ms.map V.int)) ∧ (∀ m ∈ ms, 0 ≤ m) ∧ ms.length = 2 + 5 * i) ⟨none, none, p0, [0, 10 ^ 64 * 10 ^ 35], rfl, e01, np0, hp1, fun m hm => by
      rcases List.mem_cons.mp hm with rfl | hm
      · decide
      · rw [List.mem_singleton.mp hm]
        omega, rfl⟩ (fun i σ H1 hlt w => ?_) (fun σ H1 w => ?_)⟩
    · obtain ⟨y3, y4, p, ms, rfl, e, np, hp, nn, lm⟩ := w
      have c1 : c = 1 := by omega
      have pos := cpos c1
      refine ⟨.ref a, rfl, .ref b, rfl, .ref a, rfl, a, _, rfl, .inl (SqL.of (e _ _ ha)), b, vs.length, rfl, e _ _ hb, by omega, Int.le_trans (show (vs.length : Int) ≤ 210 by omega) (by decide +kernel), fun n H2 n0 n1 e2 => ?_⟩
      obtain ⟨v, gv⟩ : ∃ v, vs[n.toNat]? = some v := ⟨_, List.getElem?_eq_getElem (by omega)⟩
      have av : atI vs n = some v := by
        have h := atI_nat gv
        rwa [Int.toNat_of_nonneg n0] at h
      obtain ⟨s1, gs, i1⟩ := Pa.get pa gv
      obtain ⟨t, rfl, ht⟩ := i1.mono (e.trans e2)
      have nn1 := G.nn s1 (List.mem_of_getElem? gs)
      have bd1 := bd s1 (List.mem_of_getElem? gs)
      have sc := sc_cases s1
      unfold Nn at nn1
      refine ⟨a, _, n, _, rfl, rfl, SqL.of ((e.trans e2) _ _ ha), av, ?_⟩
      refine ⟨.ref p, rfl, .ref t, rfl, t, _, 0, _, rfl, rfl, SqT.of ht, rfl, .ref t, rfl, t, _, 1, _, rfl, rfl, SqT.of ht, rfl, .ref t, rfl, t, s1.1, s1.2, rfl, ht, _, 1, rfl, rfl, 0, _, rfl, .ref t, rfl, t, s1.1, s1.2, rfl, ht, _, 1, rfl, rfl, by show 4 ≤ sizeLine; decide, fun l nl => ?_⟩
      show rCat _ _ (upd H2 l (.lst [V.int s1.1, V.int s1.2, V.int (if lo s1 - 1 > 0 then lo s1 - 1 else 0), V.int (hi s1 + 1)])) _
      obtain ⟨m3, hm3, m30⟩ : ∃ m3 : Int, (if lo s1 - 1 > 0 then lo s1 - 1 else 0) = m3 ∧ 0 ≤ m3 := ⟨_, rfl, by split <;> omega⟩
      rw [hm3]
      have y1 := Ex.new (o := .lst ([s1.1, s1.2, m3, hi s1 + 1].map V.int)) nl
      refine ⟨p, l, ms.map V.int, _, rfl, rfl, (e2.trans y1) _ _ hp, upd_same, Nat.le_of_lt (small20 (by rw [List.length_map]; show ms.length + 4 ≤ 2 ^ 20; omega)), fun q1 nq1 => ?_⟩
      have y2 := Ex.new (o := .lst ((ms ++ [s1.1, s1.2, m3, hi s1 + 1]).map V.int)) nq1
      have hq1 : (upd (upd H2 l (.lst ([s1.1, s1.2, m3, hi s1 + 1].map V.int))) q1 (.lst ((ms ++ [s1.1, s1.2, m3, hi s1 + 1]).map V.int))) q1 = some (.lst ((ms ++ [s1.1, s1.2, m3, hi s1 + 1]).map V.int)) := upd_same
      rw [List.map_append] at hq1 y2
      have e04 := (e.trans e2).trans (y1.trans y2)
      have nq := (e.trans e2).back (y1.back nq1)
      have ht4 := (y1.trans y2) _ _ ht
      refine ⟨.ref q1, rfl, .inl ⟨rfl, _, SqL.of hq1⟩, .ref t, rfl, t, s1.1, s1.2, rfl, ht4, .ref b, rfl, .ref t, rfl, .ref t, s1, rfl, ⟨t, rfl, ht4⟩, fun H5 e5 => ⟨b, slen s1, rfl, e5 _ _ (e04 _ _ hb), slen_pos s1, by omega, fun m5 H6 m50 m51 e6 => ?_⟩⟩
      refine ⟨_, m5, rfl, rfl, q1, _, _, rfl, rfl, (e5.trans e6) _ _ hq1, small20 (by rw [List.length_append, List.length_map]; show ms.length + 4 ≤ 2 ^ 20; omega), some (.int (0 + (i : Int))), some (.ref t), q1, ms ++ [s1.1, s1.2, m3, hi s1 + 1] ++ [lo s1 + m5], rfl, ((e04.trans e5).trans e6).mut nq, nq, ?_, fun m hm => ?_, ?_⟩
      · rw [upd_same, List.map_append, List.map_append]
        rfl
      · rcases List.mem_append.mp hm with hm | hm
        · rcases List.mem_append.mp hm with hm | hm
          · exact nn m hm
          · simp only [List.mem_cons, List.not_mem_nil, or_false] at hm
            omega
        · rw [List.mem_singleton.mp hm]
          omega
      · rw [List.length_append, List.length_append]
        show ms.length + 4 + 1 = _
        omega
    · obtain ⟨y3, y4, p, ms, rfl, e, np, hp, nn, lm⟩ := w
      exact ⟨_, rfl, q p H1 ms np e hp nn (by omega) (by omega)⟩
end
end Kb

namespace Kb
open PySem PySem.Spec PyProof.Rows L2 StX TL
abbrev s_law_right : Stmt := topS 53
theorem sc_law_right : FnScope ["bag", "scans", "scan", "sizes", "marks", "address", "due", "k", "turn", "one", "other", "low", "high", "first", "last"] ["bag", "scans"] (defScope s_law_right) := ⟨rfl, rfl, rfl, by decide +kernel, rfl, by decide +kernel, by decide +kernel⟩
def pdU (j : List Sc) (n : Int) : PyData := .list [pdL j, .int n]
theorem shaped_U (j : List Sc) (n : Int) : SeqAt.shaped (pdU j n) = true := by
  have h1 : PyData.canLayAll0 (j.map pdS) = true := by
    have h : (PyData.canLayAll0 (j.map pdS) && decide (PyData.depthAll (j.map pdS) + 1 ≤ 64)) = true := shaped_L j
    exact (Bool.and_eq_true_iff.mp h).1
  have d : PyData.depthAll (j.map pdS) ≤ 1 := by
    clear h1
    induction j with
    | nil => exact Nat.zero_le _
    | cons s r ih =>
      show max (PyData.depth (pdS s)) (PyData.depthAll (r.map pdS)) ≤ 1
      have : PyData.depth (pdS s) = 1 := rfl
      omega
  show ((PyData.canLayAll0 (j.map pdS) && (true && true)) && decide (max (PyData.depthAll (j.map pdS) + 1) (max 0 0) + 1 ≤ 64)) = true
  rw [h1, decide_eq_true (by omega)]
  rfl
theorem eqv_U (j : List Sc) (n : Int) : PyData.eqv (pdU j n) (pdU j n) = true := by
  show (PyData.eqv (pdL j) (pdL j) && ((n == n) && true)) = true
  rw [eqv_L, decide_eq_true rfl, beq_self_eq_true]
  rfl
theorem psum_eq : ∀ l : List Sc, (l.map slen).sum = psum l
  | [] => rfl
  | s :: r => by
    rw [List.map_cons, List.sum_cons, psum_eq r]
    rfl
theorem plc_in {a : Int} {s : Sc} (m : lo s ≤ a ∧ a ≤ hi s) : ∀ {xs : List Sc} (acc : Int), (∀ t ∈ xs, ¬ (lo t ≤ a ∧ a ≤ hi t)) → plc (xs ++ [s]) acc a = .int (acc + psum xs + absI (a - s.1))
  | [], acc, _ => by
    show (if lo s ≤ a ∧ a ≤ hi s then V.int (acc + absI (a - s.1)) else plc [] (acc + slen s) a) = .int (acc + 0 + absI (a - s.1))
    rw [if_pos m, Int.add_zero]
  | t :: xs, acc, h => by
    show (if lo t ≤ a ∧ a ≤ hi t then V.int (acc + absI (a - t.1)) else plc (xs ++ [s]) (acc + slen t) a) = .int (acc + (slen t + psum xs) + absI (a - s.1))
    rw [if_neg (h t List.mem_cons_self), plc_in m _ fun u hu => h u (List.mem_cons_of_mem _ hu), Int.add_assoc acc]
theorem plc_out {a : Int} {s : Sc} (m : ¬ (lo s ≤ a ∧ a ≤ hi s)) : ∀ {xs : List Sc} (acc : Int), plc (xs ++ [s]) acc a = plc xs acc a
  | [], acc => by
    show (if lo s ≤ a ∧ a ≤ hi s then V.int (acc + absI (a - s.1)) else plc [] (acc + slen s) a) = .non
    rw [if_neg m]
    rfl
  | t :: xs, acc => by
    show (if lo t ≤ a ∧ a ≤ hi t then V.int (acc + absI (a - t.1)) else plc (xs ++ [s]) (acc + slen t) a) = if lo t ≤ a ∧ a ≤ hi t then V.int (acc + absI (a - t.1)) else plc xs (acc + slen t) a
    rw [plc_out m]
theorem plc_cases {ss : List Sc} (d : ss.Pairwise Apart) (a : Int) : plc ss 0 a = .non ∨ ∃ j : Nat, plc ss 0 a = .int (j : Int) ∧ (rdL ss)[j]? = some a := by
  by_cases c : a ∈ rdL ss
  · obtain ⟨j, hj⟩ := List.getElem?_of_mem c
    exact .inr ⟨j, by rw [plc_at 0 d hj, Int.zero_add], hj⟩
  · exact .inl (plc_no 0 c)
def spRight4 : Sp := fun vs H Q _ => ∃ (b a : Addr) (ss : List Sc), vs = [.ref b, .ref a] ∧ H b = some (bagO b) ∧ Scs H a ss ∧ Good ss ∧ ss.length ≤ 210 ∧ (∀ s ∈ ss, s.1 < 10 ^ 99 ∧ s.2 < 10 ^ 99) ∧ RetV (.bl true) H Q
section
variable {P : Program} {w : World} {K : PySem.W.Frag} {mg : Str → Option Value} {base : Heap}
theorem ok_right4 (B : Bt2 mg) (D_law_pick : Df P w K mg base "_law_pick" 1 ["bag", "many"] spPick) (D_law_size : Df P w K mg base "_law_size" 1 ["scan"] spSize) (Dtidy : Df P w K mg base "tidy" 6 ["scans"] spTidy) (Dturned : Df P w K mg base "turned" 6 ["scans"] spTurned) (Dcount_addresses : Df P w K mg base "count_addresses" 6 ["scans"] spCount)
    (Dplace_of : Df P w K mg base "place_of" 6 ["scans", "address"] spPlaceOf) (Dnth_address : Df P w K mg base "nth_address" 7 ["scans", "index"] spNth) (Dfirst_part : Df P w K mg base "first_part" 6 ["scans", "many"] spFirst) (Don_top : Df P w K mg base "on_top" 6 ["scans", "scan"] spTop) (Dwithout : Df P w K mg base "without" 6 ["scans", "low", "high"] spWithout)
    (D_law_joined : Df P w K mg base "_law_joined" 1 ["scans"] spJoined) (D_law_cut : Df P w K mg base "_law_cut" 2 ["scans", "low", "high"] spLCut) (D_law_first : Df P w K mg base "_law_first" 2 ["scans", "many"] spLFirst) (D_law_marks : Df P w K mg base "_law_marks" 2 ["bag", "scans"] spMarks)
    {f : Addr} {fd : FuncData} (F : Fun K "_law_right" "_law_right" s_law_right f fd) : FnOk P w K mg base CX0 8 f fd ["bag", "scans"] spRight4 := by
  refine F.ok sc_law_right (fun vs H Q E h => ?_) (fun cdv A outer s H vs Q E hr h => ?_)
  · obtain ⟨b, a, ss, rfl, _⟩ := h
    rfl
  · obtain ⟨b, a, ss, rfl, hb, hS, G, few, bd, q⟩ := h
    refine ⟨_, (pss_cons (ps_setLc (i := 3) (own := [("scan", 2)]) (g := (gName 2)) (te := (tCall _ [] E0 (tCons (tVar 2) tNil))) rfl sc_law_right.nd rfl rfl (sw_true rfl rfl rfl (by decide +kernel)) (pi_list (pv 1)) (blkOk_by (N := ["bag", "scans", "scan", "sizes", "marks", "address", "due", "k", "turn", "one", "other", "low", "high", "first", "last"]) (sc := defScope s_law_right) (by decide +kernel)) (by exact fun _ _ _ _ _ => (pg_name (i := 2) sc_law_right.nd rfl (by first | exact Or.inl rfl | exact Or.inr rfl))) (by exact fun _ _ _ _ _ => pts_nil) (by exact fun _ _ _ _ _ => (pe_df D_law_size hr (pa_cons (pv 2) pa_nil))))
      (pss_cons (ps_if (pt_cmpR (op_neD hr.units) (pe_lst (pa_cons (pe_df Dtidy hr (pa_cons (pv 1) pa_nil)) (pa_cons (pe_df Dcount_addresses hr (pa_cons (pv 1) pa_nil)) pa_nil))) (pe_lst (pa_cons (pe_df D_law_joined hr (pa_cons (pv 1) pa_nil)) (pa_cons (pe_callB (cr_sum rfl) (by rfl) B.sum bo_sum (pa_cons (pv 3) pa_nil)) pa_nil))) (nomark _)) (pss_one (ps_ret pe_bl)) pss_nil)
      (pss_cons (ps_if (pt_cmpR (op_neD hr.units) (pe_df Dturned hr (pa_cons (pv 1) pa_nil)) (pe_df D_law_joined hr (pa_cons (pe_lc (own := [("first", 13), ("last", 14)]) (g := (gTup K 2 (gCons (gName 13) (gCons (gName 14) gNil)))) (te := (tTup (tCons (tVar 14) (tCons (tVar 13) tNil)))) rfl sc_law_right.nd (pi_list (pe_revL (pv 1))) (blkOk_by (N := ["bag", "scans", "scan", "sizes", "marks", "address", "due", "k", "turn", "one", "other", "low", "high", "first", "last"]) (sc := defScope s_law_right) (by decide +kernel)) (by exact fun _ _ _ _ _ => (pg_tup rfl (pgs_cons (pg_name (i := 13) sc_law_right.nd rfl (by first | exact Or.inl rfl | exact Or.inr rfl)) (pgs_cons (pg_name (i := 14) sc_law_right.nd rfl (by first | exact Or.inl rfl | exact Or.inr rfl)) pgs_nil)))) (by exact fun _ _ _ _ _ => pts_nil) (by exact fun _ _ _ _ _ => (pe_tup (pa_cons (pv 14) (pa_cons (pv 13) pa_nil))))) pa_nil)) (nomark _)) (pss_one (ps_ret pe_bl)) pss_nil)
      (pss_cons (ps_set (i := 4) sc_law_right.nd rfl (by first | exact Or.inl rfl | exact Or.inr rfl) (pe_df D_law_marks hr (pa_cons (pv 0) (pa_cons (pv 1) pa_nil))))
      (pss_cons (ps_for PassesOwn.never rfl (pi_list (pv 4)) (pg_name (i := 5) sc_law_right.nd rfl (by first | exact Or.inl rfl | exact Or.inr rfl)) (pss_cons (ps_set (i := 6) sc_law_right.nd rfl (by first | exact Or.inl rfl | exact Or.inr rfl) pe_non)
      (pss_cons (ps_for PassesOwn.never rfl (pi_enum (by rfl) B.enumerate (pa_cons (pv 1) pa_nil)) (pg_tup rfl (pgs_cons (pg_name (i := 7) sc_law_right.nd rfl (by first | exact Or.inl rfl | exact Or.inr rfl)) (pgs_cons (pg_name (i := 2) sc_law_right.nd rfl (by first | exact Or.inl rfl | exact Or.inr rfl)) pgs_nil))) (pss_one (ps_if (pt_chain op_le op_le (pe_callB (cr_minT rfl) (by rfl) B.min bo_min (pa_cons (pv 2) pa_nil)) (pv 5) (pe_callB (cr_maxT rfl) (by rfl) B.max bo_max (pa_cons (pv 2) pa_nil))) (pss_one (ps_set (i := 6) sc_law_right.nd rfl (by first | exact Or.inl rfl | exact Or.inr rfl) (pe_op op_add (pe_callB (cr_sum rfl) (by rfl) B.sum bo_sum (pa_cons (pe_slice sl_list (pv 3) po_none (po_some (pv 7))) pa_nil)) (pe_callB call_abs (by rfl) B.abs bo_abs (pa_cons (pe_op op_sub (pv 5) (pe_ix ix_tup (pv 2) pe_int (fun _ _ => rfl))) pa_nil))))) pss_nil)))
      (pss_cons (ps_if (pw_or (pt_cmpR op_ne (pe_df Dplace_of hr (pa_cons (pv 1) (pa_cons (pv 5) pa_nil))) (pv 6) (nomark _)) (pw_or1 (pw_and (pt_cmpR op_notN (pv 6) pe_non (nomark _)) (pw_and1 (pt_cmpR op_ne (pe_df Dnth_address hr (pa_cons (pv 1) (pa_cons (pv 6) pa_nil))) (pv 5) (nomark _)))).pt)).pt (pss_one (ps_ret pe_bl)) pss_nil)
      (pss_one (ps_if (pw_and (pt_cmpR op_notN (pv 6) pe_non (nomark _)) (pw_and1 (pt_cmpR (op_neD hr.units) (pe_df Dfirst_part hr (pa_cons (pv 1) (pa_cons (pe_op op_add (pv 6) pe_int) pa_nil))) (pe_df D_law_joined hr (pa_cons (pe_df D_law_first hr (pa_cons (pv 1) (pa_cons (pe_op op_add (pv 6) pe_int) pa_nil))) pa_nil)) (nomark _)))).pt (pss_one (ps_ret pe_bl)) pss_nil))))))
      (pss_cons (ps_for PassesOwn.never rfl (pi_range1 (by rfl) B.range (pa_cons pe_int pa_nil)) (pg_name (i := 8) sc_law_right.nd rfl (by first | exact Or.inl rfl | exact Or.inr rfl)) (pss_cons (ps_par (i := 9) (j := 10) rfl sc_law_right.nd rfl rfl (by decide) rfl rfl (pa_cons (pe_ix ix_list (pv 4) (pe_df D_law_pick hr (pa_cons (pv 0) (pa_cons (pe_callB call_len_seq (by rfl) B.len bo_len (pa_cons (pv 4) pa_nil)) pa_nil))) (fun _ _ => rfl)) (pa_cons (pe_ix ix_list (pv 4) (pe_df D_law_pick hr (pa_cons (pv 0) (pa_cons (pe_callB call_len_seq (by rfl) B.len bo_len (pa_cons (pv 4) pa_nil)) pa_nil))) (fun _ _ => rfl)) pa_nil)) (by rfl))
      (pss_cons (ps_par (i := 11) (j := 12) rfl sc_law_right.nd rfl rfl (by decide) rfl rfl (pa_cons (pe_callB (call_min2 rfl) (by rfl) B.min bo_min (pa_cons (pv 9) (pa_cons (pv 10) pa_nil))) (pa_cons (pe_callB (call_max2 rfl) (by rfl) B.max bo_max (pa_cons (pv 9) (pa_cons (pv 10) pa_nil))) pa_nil)) (by rfl))
      (pss_cons (ps_if (pt_cmpR (op_neD hr.units) (pe_df Don_top hr (pa_cons (pv 1) (pa_cons (pe_tup (pa_cons (pv 9) (pa_cons (pv 10) pa_nil))) pa_nil))) (pe_df D_law_joined hr (pa_cons (pe_op op_cat (pe_lst (pa_cons (pe_tup (pa_cons (pv 9) (pa_cons (pv 10) pa_nil))) pa_nil)) (pe_df D_law_cut hr (pa_cons (pv 1) (pa_cons (pv 11) (pa_cons (pv 12) pa_nil))))) pa_nil)) (nomark _)) (pss_one (ps_ret pe_bl)) pss_nil)
      (pss_one (ps_if (pt_cmpR (op_neD hr.units) (pe_df Dwithout hr (pa_cons (pv 1) (pa_cons (pv 11) (pa_cons (pv 12) pa_nil)))) (pe_df D_law_joined hr (pa_cons (pe_df D_law_cut hr (pa_cons (pv 1) (pa_cons (pv 11) (pa_cons (pv 12) pa_nil)))) pa_nil)) (nomark _)) (pss_one (ps_ret pe_bl)) pss_nil))))))
      (pss_one (ps_ret pe_bl)))))))), ?_⟩
    obtain ⟨vs, ha, pa⟩ := id hS
    have lv : vs.length = ss.length := Pa.len pa
    refine ⟨.ref a, rfl, a, rfl, ⟨_, SqL.of ha⟩, fun D hD => lc_list (xs := vs) (fun i H2 => Ex H H2 ∧ H2 D = some (.lst (((ss.take i).map slen).map V.int))) ⟨Ex.new hD, upd_same⟩ (fun i H2 _ p => SqL.of (p.1 _ _ ha)) (fun i x H2 hx p => ?_) (fun H2 p => ?_)⟩
    · obtain ⟨e2, hus⟩ := p
      obtain ⟨s1, gs, i1⟩ := Pa.get pa hx
      have il := (List.getElem?_eq_some_iff.mp gs).1
      refine ⟨rfl, x, rfl, x, s1, rfl, i1.mono e2, fun H3 e3 => ⟨_, e3 _ _ hus, ?_, (e2.trans e3).mut hD, ?_⟩⟩
      · rw [List.length_map, List.length_map, List.length_take]
        exact small20 (by omega)
      · rw [upd_same, List.take_add_one, gs, List.map_append, List.map_append]
        rfl
    obtain ⟨e2, hus⟩ := p
    rw [lv, List.take_length] at hus
    -- [tidy, count] against [joined, sum]
    refine ⟨.ref a, rfl, a, ss, rfl, hS.mono e2, G, fun p1 H3 np1 e3 hp1 => ⟨.ref a, rfl, a, ss, rfl, (hS.mono e2).mono e3, G, fun H4 e4 => ⟨by show 2 ≤ sizeLine; decide, fun l1 nl1 => ?_⟩⟩⟩
    have z1 := Ex.new (o := .lst [V.ref p1, V.int (psum ss)]) nl1
    have e24 := (e3.trans e4).trans z1
    refine ⟨.ref a, rfl, a, ss, rfl, (hS.mono e2).mono e24, by omega, fun p2 H5 np2 e5 hp2 => ⟨.ref D, rfl, D, ss.map slen, rfl, SqL.of ((e24.trans e5) _ _ hus), by show 2 ≤ sizeLine; decide, fun l2 nl2 => ?_⟩⟩
    have z2 := Ex.new (o := .lst [V.ref p2, V.int (ss.map slen).sum]) nl2
    have e52 := e5.trans z2
    rw [psum_eq] at z2 e52 ⊢
    refine ⟨pdU (jn ss) (psum ss), pdU (jn ss) (psum ss), .lst (SqL.of (e52 _ _ upd_same)) (.cons (Scs.dp (hp1.mono ((e4.trans z1).trans e52))) (.cons (.int _) .nil)), .lst (SqL.of upd_same) (.cons (Scs.dp (hp2.mono z2)) (.cons (.int _) .nil)), shaped_U _ _, shaped_U _ _, _, rfl, ?_⟩
    rw [eqv_U]
    refine iteF ?_
    have e26 := e24.trans e52
    have hS6 := (hS.mono e2).mono e26
    have hus6 := e26 _ _ hus
    have e06 := e2.trans e26
    generalize upd H5 l2 (.lst [V.ref p2, V.int (psum ss)]) = H6 at hS6 hus6 e06 ⊢
    clear e26 e52 z2 e24 z1 hp1 hp2 hus e2 e3 e4 e5 np1 np2 nl1 nl2
    -- turned
    refine ⟨.ref a, rfl, a, ss, rfl, hS6, G, fun p3 H7 np3 e7 hp3 => ?_⟩
    obtain ⟨vs6, ha6, pa6⟩ := hS6.mono e7
    have lv6 : vs6.length = ss.length := Pa.len pa6
    refine ⟨.ref a, rfl, a, _, rfl, SqL.of ha6, fun r nr => ?_⟩
    have zr := Ex.new (o := .lst vs6.reverse) nr
    have hr := upd_same (H := H7) (a := r) (o := .lst vs6.reverse)
    have par := Pa.rev (Pa.mono zr pa6)
    generalize upd H7 r (.lst vs6.reverse) = H8 at zr hr par ⊢
    refine ⟨r, rfl, ⟨_, SqL.of hr⟩, fun D2 hD2 => lc_list (xs := vs6.reverse) (fun i H' => Ex H8 H' ∧ ∃ us, H' D2 = some (.lst us) ∧ Paired (IsSc H') us ((ss.reverse.take i).map swp)) ⟨Ex.new hD2, [], upd_same, .nil⟩ (fun i H' _ p => SqL.of (p.1 _ _ hr)) (fun i x H' hx p => ?_) (fun H9 p => ?_)⟩
    · obtain ⟨e, us, hu, pu⟩ := p
      obtain ⟨s1, gs, i1⟩ := Pa.get par hx
      have il := (List.getElem?_eq_some_iff.mp gs).1
      rw [List.length_reverse] at il
      obtain ⟨t, rfl, ht⟩ := i1.mono e
      refine ⟨t, _, rfl, SqT.of ht, rfl, _, _, rfl, _, _, rfl, rfl, rfl, .int s1.2, rfl, .int s1.1, rfl, by show 2 ≤ sizeLine; decide, fun pt npt => ?_⟩
      have y1 := Ex.new (o := .tup [V.int s1.2, V.int s1.1]) npt
      have lu := Pa.len pu
      rw [List.length_map, List.length_take] at lu
      refine ⟨us, y1 _ _ hu, small20 (by omega), (e.trans y1).mut hD2, us ++ [.ref pt], upd_same, ?_⟩
      rw [List.take_add_one, gs, List.map_append]
      have nptD : pt ≠ D2 := fun h => by
        rw [h, hu] at npt
        cases npt
      exact Pa.snoc (Pa.lset (y1 _ _ hu) (Pa.mono y1 pu)) ⟨pt, rfl, by rw [upd_ne nptD, upd_same]; rfl⟩
    obtain ⟨e9, us, hu, pu⟩ := p
    rw [show vs6.reverse.length = ss.reverse.length by rw [List.length_reverse, List.length_reverse, lv6], List.take_length] at pu
    refine ⟨D2, ss.reverse.map swp, rfl, ⟨us, hu, pu⟩, by rw [List.length_map, List.length_reverse]; omega, fun p4 H10 np4 e10 hp4 => ?_⟩
    have e710 := (zr.trans e9).trans e10
    refine ⟨pdL (jn (ss.reverse.map swp)), pdL (jn (ss.reverse.map swp)), Scs.dp (hp3.mono e710), Scs.dp hp4, shaped_L _, shaped_L _, _, rfl, ?_⟩
    rw [eqv_L, decide_eq_true rfl]
    refine iteF ?_
    have e610 := e7.trans e710
    have hS10 := hS6.mono e610
    have hus10 := e610 _ _ hus6
    have e010 := e06.trans e610
    clear hp3 hp4 pu hu par pa6 ha6 hr nr zr e9 e10 e710 e7 np3 np4
    -- the marks
    refine ⟨.ref b, rfl, .ref a, rfl, b, a, ss, rfl, e010 _ _ hb, hS10, G, few, bd, fun pm H11 ms npm e11 hpm mnn ml1 ml2 => ?_⟩
    have hS11 := hS10.mono e11
    have hus11 := e11 _ _ hus10
    have e011 := e010.trans e11
    clear hS10 hus10 hS6 hus6 e610 e06
    refine ⟨.ref pm, rfl, pm, rfl, ⟨_, SqL.of hpm⟩, for_list (xs := ms.map V.int) (fun i σ H' => ∃ y2 y5 y6 y7, σ = [some (.ref b), some (.ref a), y2, some (.ref D), some (.ref pm), y5, y6, y7, none, none, none, none, none, none, none] ∧ Ex H11 H') ⟨_, _, _, _, rfl, Ex.refl _⟩ (fun i σ H' _ w => ?_) (fun i v σ H' hx w => ?_) (fun σ H12 w => ?_)⟩
    · obtain ⟨_, _, _, _, _, e⟩ := w
      exact SqL.of (e _ _ hpm)
    · obtain ⟨y2, y5, y6, y7, rfl, e⟩ := w
      rw [List.getElem?_map] at hx
      obtain ⟨m, gm, rfl⟩ := Option.map_eq_some_iff.mp hx
      have m0 := mnn m (List.mem_of_getElem? gm)
      have hSe := hS11.mono e
      obtain ⟨ws, hw, pw⟩ := id hSe
      have lw : ws.length = ss.length := Pa.len pw
      refine ⟨.ref a, rfl, a, _, rfl, SqL.of hw, for_enum (xs := ws) (fun i σ H'' => ∃ y2 y7, σ = [some (.ref b), some (.ref a), y2, some (.ref D), some (.ref pm), some (.int m), some (plc (ss.take i) 0 m), y7, none, none, none, none, none, none, none] ∧ Ex H' H'') ⟨_, _, rfl, Ex.refl _⟩ (fun i σ H'' _ w => ?_) (fun i v T σ H'' hx nT w => ?_) (fun σ H13 w => ?_)⟩
      · obtain ⟨_, _, _, e2⟩ := w
        exact SqL.of (e2 _ _ hw)
      · obtain ⟨y2, y7, rfl, e2⟩ := w
        refine ⟨T, _, rfl, SqT.of upd_same, rfl, _, _, rfl, _, _, rfl, rfl, ?_⟩
        have e3 := e2.trans (Ex.new (o := .tup [V.int (i : Nat), v]) nT)
        generalize upd H'' T (.tup [V.int (i : Nat), v]) = H14 at e3 ⊢
        obtain ⟨s1, gs, i1⟩ := Pa.get pw hx
        have il := (List.getElem?_eq_some_iff.mp gs).1
        obtain ⟨t, rfl, ht⟩ := i1.mono e3
        have tk : ss.take (i + 1) = ss.take i ++ [s1] := by rw [List.take_add_one, gs]; rfl
        have put : ∀ (v' : V) (H'' : Hp), Ex H' H'' → v' = plc (ss.take i ++ [s1]) 0 m → ∃ y2 y7, [some (V.ref b), some (.ref a), some (.ref t), some (.ref D), some (.ref pm), some (.int m), some v', some (.int (i : Nat)), none, none, none, none, none, none, none] = [some (.ref b), some (.ref a), y2, some (.ref D), some (.ref pm), some (.int m), some (plc (ss.take (i + 1)) 0 m), y7, none, none, none, none, none, none, none] ∧ Ex H' H'' := fun v' H'' e4 h => by
          rw [← tk] at h
          subst h
          exact ⟨_, _, rfl, e4⟩
        refine ⟨.ref t, rfl, t, s1.1, s1.2, rfl, ht, .int m, rfl, lo s1, m, rfl, rfl, _, rfl, ite2 (fun c1 => ?_) (fun c1 => ?_)⟩
        · have c1' : lo s1 ≤ m := of_decide_eq_true c1
          refine ⟨.ref t, rfl, t, s1.1, s1.2, rfl, ht, m, hi s1, rfl, rfl, _, rfl, ite2 (fun c2 => ?_) (fun c2 => ?_)⟩
          · have c2' : m ≤ hi s1 := of_decide_eq_true c2
            have husx := (e.trans e3) _ _ hus11
            refine ⟨.ref D, rfl, .int (i : Nat), rfl, (i : Nat), rfl, D, _, rfl, SqL.of husx, fun c nc => ?_⟩
            rw [cut_at _ i (by rw [List.length_map, List.length_map]; omega), ← List.map_take, ← List.map_take]
            have yc := Ex.new (o := .lst (((ss.take i).map slen).map V.int)) nc
            refine ⟨c, (ss.take i).map slen, rfl, SqL.of upd_same, .int m, rfl, .ref t, rfl, t, _, 0, _, rfl, rfl, SqT.of (yc _ _ ht), rfl, m, s1.1, rfl, rfl, m - s1.1, rfl, _, _, rfl, rfl, put (.int (((ss.take i).map slen).sum + absI (m - s1.1))) _ (e3.trans yc) ?_⟩
            rw [psum_eq, plc_in ⟨c1', c2'⟩, Int.zero_add]
            · intro u hu hm
              obtain ⟨k1, hk⟩ := List.getElem?_of_mem hu
              have lk := (List.getElem?_eq_some_iff.mp hk).1
              rw [List.length_take] at lk
              rw [List.getElem?_take_of_lt (by omega)] at hk
              have ap := List.pairwise_iff_getElem.mp G.dis k1 i (by omega) il (by omega)
              rw [(List.getElem?_eq_some_iff.mp hk).2, (List.getElem?_eq_some_iff.mp gs).2] at ap
              unfold Apart at ap
              omega
          · have c2' : ¬ m ≤ hi s1 := fun z => c2 (decide_eq_true z)
            exact put _ _ e3 (plc_out (fun z => c2' z.2) 0).symm
        · have c1' : ¬ lo s1 ≤ m := fun z => c1 (decide_eq_true z)
          exact ⟨false, rfl, iteF (put _ _ e3 (plc_out (fun z => c1' z.1) 0).symm)⟩
      obtain ⟨y2, y7, rfl, e2⟩ := w
      rw [lw, List.take_length]
      have hS13 := hSe.mono e2
      rcases plc_cases G.dis m with hp | ⟨j, hp, hj⟩
      · refine ⟨.ref a, rfl, .int m, rfl, a, ss, m, rfl, hS13, G, m0, fun H14 e14 => ?_⟩
        rw [hp]
        exact ⟨_, rfl, rfl, _, rfl, ne_refl rfl ⟨_, rfl, rfl, false, rfl, iteF (iteF ⟨_, rfl, rfl, false, rfl, iteF (iteF ⟨_, _, _, _, rfl, (e.trans e2).trans e14⟩)⟩)⟩⟩
      · refine ⟨.ref a, rfl, .int m, rfl, a, ss, m, rfl, hS13, G, m0, fun H14 e14 => ?_⟩
        rw [hp]
        refine ⟨_, rfl, rfl, _, rfl, ne_refl rfl ⟨_, rfl, rfl, true, rfl, iteT ⟨.ref a, rfl, _, rfl, a, ss, j, m, rfl, hS13.mono e14, G, hj, fun H15 e15 => ⟨.int m, rfl, rfl, _, rfl, ne_refl rfl ?_⟩⟩⟩⟩
        have hS15 := (hS13.mono e14).mono e15
        refine ⟨_, rfl, rfl, true, rfl, iteT ⟨.ref a, rfl, _, rfl, (j : Int), 1, rfl, rfl, a, ss, (j : Int) + 1, rfl, hS15, G, by omega, fun p1 H16 np1 e16 hp1 => ?_⟩⟩
        refine ⟨.ref a, rfl, _, rfl, (j : Int), 1, rfl, rfl, a, ss, (j : Int) + 1, rfl, hS15.mono e16, by omega, by omega, fun p2 H17 np2 e17 hp2 => ⟨p2, _, rfl, hp2, ?_, fun p3 H18 np3 e18 hp3 => ?_⟩⟩
        · have := fpart_len ss ((j : Int) + 1)
          omega
        · refine ⟨pdL (jn (fpart ss ((j : Int) + 1))), pdL (jn (fpart ss ((j : Int) + 1))), Scs.dp (hp1.mono (e17.trans e18)), Scs.dp hp3, shaped_L _, shaped_L _, _, rfl, ?_⟩
          rw [eqv_L, decide_eq_true rfl]
          exact iteF ⟨_, _, _, _, rfl, ((((e.trans e2).trans e14).trans e15).trans e16).trans (e17.trans e18)⟩
    obtain ⟨y2, y5, y6, y7, rfl, e12⟩ := w
    have hS12 := hS11.mono e12
    have hpm12 := e12 _ _ hpm
    have e012 := e011.trans e12
    refine ⟨6, rfl, by decide, by decide, for_range (lo := 0) (n := 6) (fun i σ H' => ∃ y8 y9 y10 y11 y12, σ = [some (.ref b), some (.ref a), y2, some (.ref D), some (.ref pm), y5, y6, y7, y8, y9, y10, y11, y12, none, none] ∧ Ex H12 H') ⟨_, _, _, _, _, rfl, Ex.refl _⟩ (fun i σ H' hlt w => ?_) (fun σ H' w => ?_)⟩
    · obtain ⟨y8, y9, y10, y11, y12, rfl, e⟩ := w
      have lms : ((ms.map V.int).length : Int) = ms.length := by rw [List.length_map]
      refine ⟨.ref pm, rfl, .ref b, rfl, .ref pm, rfl, pm, _, rfl, .inl (SqL.of (e _ _ hpm12)), b, _, rfl, e _ _ (e012 _ _ hb), by rw [lms]; omega, by rw [lms]; exact Int.le_trans (show (ms.length : Int) ≤ 30 by omega) (by decide +kernel), fun n H13 n0 n1 e13 => ?_⟩
      rw [lms] at n1
      obtain ⟨x, gx⟩ : ∃ x, ms[n.toNat]? = some x := ⟨_, List.getElem?_eq_getElem (by omega)⟩
      have ax : atI (ms.map V.int) n = some (.int x) := by
        have h := atI_nat (xs := ms.map V.int) (j := n.toNat) (v := .int x) (by rw [List.getElem?_map, gx]; rfl)
        rwa [Int.toNat_of_nonneg n0] at h
      refine ⟨pm, _, n, _, rfl, rfl, SqL.of ((e.trans e13) _ _ hpm12), ax, ?_⟩
      refine ⟨.ref pm, rfl, .ref b, rfl, .ref pm, rfl, pm, _, rfl, .inl (SqL.of ((e.trans e13) _ _ hpm12)), b, _, rfl, (e.trans e13) _ _ (e012 _ _ hb), by rw [lms]; omega, by rw [lms]; exact Int.le_trans (show (ms.length : Int) ≤ 30 by omega) (by decide +kernel), fun n' H14 n0' n1' e14 => ?_⟩
      rw [lms] at n1'
      obtain ⟨y, gy⟩ : ∃ x, ms[n'.toNat]? = some x := ⟨_, List.getElem?_eq_getElem (by omega)⟩
      have ay : atI (ms.map V.int) n' = some (.int y) := by
        have h := atI_nat (xs := ms.map V.int) (j := n'.toNat) (v := .int y) (by rw [List.getElem?_map, gy]; rfl)
        rwa [Int.toNat_of_nonneg n0'] at h
      have x0 := mnn x (List.mem_of_getElem? gx)
      have y0 := mnn y (List.mem_of_getElem? gy)
      have e1214 := (e.trans e13).trans e14
      refine ⟨pm, _, n', _, rfl, rfl, SqL.of (e1214 _ _ hpm12), ay, _, _, rfl, ?_⟩
      refine ⟨.int x, rfl, .int y, rfl, x, y, rfl, .int x, rfl, .int y, rfl, x, y, rfl, _, _, rfl, ?_⟩
      have elo : (if y < x then y else x) = lo (x, y) := rfl
      have ehi : (if y > x then y else x) = hi (x, y) := rfl
      rw [elo, ehi]
      have lh := lo_hi (x, y)
      have l0 : 0 ≤ lo (x, y) := by
        rw [← elo]
        split <;> omega
      have hS14 := hS12.mono e1214
      -- on top
      refine ⟨.ref a, rfl, .int x, rfl, .int y, rfl, by show 2 ≤ sizeLine; decide, fun pt npt => ?_⟩
      have z1 := Ex.new (o := .tup [V.int x, V.int y]) npt
      refine ⟨a, ss, .ref pt, (x, y), rfl, hS14.mono z1, G, ⟨pt, rfl, upd_same⟩, ⟨x0, y0⟩, fun p1 H15 np1 e15 hp1 => ?_⟩
      refine ⟨.int x, rfl, .int y, rfl, by show 2 ≤ sizeLine; decide, fun pt2 npt2 => ⟨by show 1 ≤ sizeLine; decide, fun pl npl => ?_⟩⟩
      have z2 := Ex.new (o := .tup [V.int x, V.int y]) npt2
      have z3 := Ex.new (o := .lst [V.ref pt2]) npl
      have e1217 := (e1214.trans z1).trans (e15.trans (z2.trans z3))
      refine ⟨.ref a, rfl, .int (lo (x, y)), rfl, .int (hi (x, y)), rfl, a, ss, lo (x, y), hi (x, y), rfl, hS12.mono e1217, by omega, G.nn, fun p2 H16 np2 e16 hp2 => ?_⟩
      obtain ⟨us, hu, pu⟩ := id hp2
      have lu := Pa.len pu
      have lw := ct_len ss (lo (x, y)) (hi (x, y))
      rw [ct_woL _ _ G.nn] at lw
      have hpl := e16 _ _ (upd_same (H := upd H15 pt2 (.tup [V.int x, V.int y])) (a := pl) (o := .lst [V.ref pt2]))
      have hpt2 := e16 _ _ (z3 _ _ (upd_same (H := H15) (a := pt2) (o := .tup [V.int x, V.int y])))
      refine ⟨pl, p2, [V.ref pt2], us, rfl, rfl, hpl, hu, Nat.le_of_lt (small20 (by show 1 + us.length ≤ 2 ^ 20; omega)), fun pq npq => ?_⟩
      have z4 := Ex.new (o := .lst ([V.ref pt2] ++ us)) npq
      refine ⟨pq, (x, y) :: woL ss (lo (x, y)) (hi (x, y)), rfl, ⟨_, upd_same, .cons ⟨pt2, rfl, z4 _ _ hpt2⟩ (Pa.mono z4 pu)⟩, by rw [List.length_cons]; omega, fun p3 H17 np3 e17 hp3 => ?_⟩
      have e1517 := (z2.trans z3).trans (e16.trans (z4.trans e17))
      refine ⟨pdL (jn ((x, y) :: woL ss (lo (x, y)) (hi (x, y)))), pdL (jn ((x, y) :: woL ss (lo (x, y)) (hi (x, y)))), Scs.dp (hp1.mono e1517), Scs.dp hp3, shaped_L _, shaped_L _, _, rfl, ?_⟩
      rw [eqv_L, decide_eq_true rfl]
      refine iteF ?_
      have e1218 := (e1214.trans z1).trans (e15.trans e1517)
      have hS18 := hS12.mono e1218
      refine ⟨.ref a, rfl, .int (lo (x, y)), rfl, .int (hi (x, y)), rfl, a, ss, lo (x, y), hi (x, y), rfl, hS18, G, l0, lh, fun p4 H18 np4 e18 hp4 => ?_⟩
      refine ⟨.ref a, rfl, .int (lo (x, y)), rfl, .int (hi (x, y)), rfl, a, ss, lo (x, y), hi (x, y), rfl, hS18.mono e18, by omega, G.nn, fun p5 H19 np5 e19 hp5 => ⟨p5, _, rfl, hp5, by omega, fun p6 H20 np6 e20 hp6 => ?_⟩⟩
      refine ⟨pdL (jn (woL ss (lo (x, y)) (hi (x, y)))), pdL (jn (woL ss (lo (x, y)) (hi (x, y)))), Scs.dp (hp4.mono (e19.trans e20)), Scs.dp hp6, shaped_L _, shaped_L _, _, rfl, ?_⟩
      rw [eqv_L, decide_eq_true rfl]
      exact iteF ⟨_, _, _, _, _, rfl, (e1218.trans e18).trans (e19.trans e20)⟩
    · obtain ⟨y8, y9, y10, y11, y12, rfl, e⟩ := w
      exact q _ (e012.trans e)
end
end Kb

namespace Kb
open PySem PySem.Spec PyProof.Rows L2 StX TL
abbrev slaw : Stmt := topS 54
theorem sclaw : FnScope ["script", "k", "cell", "bag", "turn", "wide"] ["script"] (defScope slaw) := ⟨rfl, rfl, rfl, by decide +kernel, rfl, by decide +kernel, by decide +kernel⟩
section
variable {P : Program} {w : World} {K : PySem.W.Frag} {mg : Str → Option Value} {base : Heap}
theorem ok_law4 (B : Bt2 mg) (D_law_bag : Df P w K mg base "_law_bag" 1 ["cell"] spBag) (D_law_pick : Df P w K mg base "_law_pick" 1 ["bag", "many"] spPick) (D_law_list : Df P w K mg base "_law_list" 3 ["bag", "many", "wide"] spListW)
    (D_law_right : Df P w K mg base "_law_right" 8 ["bag", "scans"] spRight4) {f : Addr} {fd : FuncData} (F : Fun K "law" "law" slaw f fd) : FnOk P w K mg base CX0 9 f fd ["script"] (spLaw K) := by
  refine F.ok sclaw (fun vs H Q E h => ?_) (fun cdv A outer s H vs Q E hr h => ?_)
  · obtain ⟨a, ns, rfl, _⟩ := h
    rfl
  · obtain ⟨a, ns, rfl, hS, hlen, q⟩ := h
    refine ⟨_, (pss_cons (ps_for PassesOwn.never rfl (pi_enum (by rfl) B.enumerate (pa_cons (pe_op op_cat (pe_slice sl_list (pv 0) po_none (po_some pe_int)) (pe_lst (pa_cons pe_int pa_nil))) pa_nil)) (pg_tup rfl (pgs_cons (pg_name (i := 1) sclaw.nd rfl (by first | exact Or.inl rfl | exact Or.inr rfl)) (pgs_cons (pg_name (i := 2) sclaw.nd rfl (by first | exact Or.inl rfl | exact Or.inr rfl)) pgs_nil))) (pss_cons (ps_set (i := 3) sclaw.nd rfl (by first | exact Or.inl rfl | exact Or.inr rfl) (pe_df D_law_bag hr (pa_cons (pv 2) pa_nil)))
      (pss_one (ps_for PassesOwn.never rfl (pi_range1 (by rfl) B.range (pa_cons pe_int pa_nil)) (pg_name (i := 4) sclaw.nd rfl (by first | exact Or.inl rfl | exact Or.inr rfl)) (pss_cons (ps_set (i := 5) sclaw.nd rfl (by first | exact Or.inl rfl | exact Or.inr rfl) (pe_ix ix_list (pe_lst (pa_cons pe_int (pa_cons (pe_op op_pow pe_int pe_int) (pa_cons (pe_op op_mulW (pe_op op_pow pe_int pe_int) (pe_op op_pow pe_int pe_int)) pa_nil)))) (pe_df D_law_pick hr (pa_cons (pv 3) (pa_cons pe_int pa_nil))) (fun _ _ => rfl)))
      (pss_one (ps_if (pt_not (pt_val (pe_df D_law_right hr (pa_cons (pv 3) (pa_cons (pe_df D_law_list hr (pa_cons (pv 3) (pa_cons (pe_ix ix_list (pe_lst (pa_cons pe_int (pa_cons pe_int pa_nil))) (pe_callTy call_int1 (by rfl) B.int bo_int (pa_cons (pe_and (pe_cmpR op_eq (pv 1) pe_int (nomark _)) (pe_one (pe_cmpR op_eq (pv 4) pe_int (nomark _)))) pa_nil)) (fun _ _ => rfl)) (pa_cons (pv 5) pa_nil)))) pa_nil))))) (pss_one (ps_ret pe_bl)) pss_nil)))))))
      (pss_one (ps_ret pe_bl))), ?_⟩
    have w99 : CMulW (10 ^ 64) (10 ^ 35) := wide_mul (a := 300) (b := 200) (by decide +kernel) (by decide +kernel) (by decide) (by decide) (by decide)
    refine ⟨.ref a, rfl, 6, rfl, a, ns.map V.int, rfl, hS, fun c nc => ⟨by show 1 ≤ sizeLine; decide, fun d nd => ?_⟩⟩
    have lc : (cutV (ns.map V.int) none (some 6)).length ≤ 63 := by
      have := cutV_length (ns.map V.int) none (some 6)
      rw [List.length_map] at this
      omega
    refine ⟨c, d, _, _, rfl, rfl, Ex.new nd _ _ upd_same, upd_same, Nat.le_of_lt (small20 (by rw [List.length_singleton]; omega)), fun e ne => ⟨e, _, rfl, SqL.of upd_same, ?_⟩⟩
    have hcell : ∀ x ∈ cutV (ns.map V.int) none (some 6) ++ [V.int 0], ∃ z, x = V.int z := fun x hx => by
      rcases List.mem_append.mp hx with hx | hx
      · obtain ⟨z, _, rfl⟩ := List.mem_map.mp (List.mem_of_mem_drop (List.mem_of_mem_take hx))
        exact ⟨z, rfl⟩
      · exact ⟨0, List.mem_singleton.mp hx⟩
    generalize cutV (ns.map V.int) none (some 6) ++ [V.int 0] = cells at hcell ⊢
    generalize hH0 : upd (upd (upd H c _) d _) e (.lst cells) = H0
    have he : H0 e = some (.lst cells) := by
      rw [← hH0]
      exact upd_same
    refine for_enum (xs := cells) (fun i σ H1 => ∃ y1 y2 y3 y4 y5, σ = [some (.ref a), y1, y2, y3, y4, y5] ∧ Ex H0 H1) ⟨none, none, none, none, none, rfl, Ex.refl _⟩ (fun i σ H1 _ p => ?_) (fun i x T σ H1 hx nT p => ?_) (fun σ H1 p => ?_)
    · obtain ⟨_, _, _, _, _, _, e1⟩ := p
      exact SqL.of (e1 _ _ he)
    · obtain ⟨y1, y2, y3, y4, y5, rfl, e1⟩ := p
      obtain ⟨z, rfl⟩ := hcell x (List.mem_of_getElem? hx)
      refine ⟨T, _, rfl, SqT.of upd_same, rfl, _, _, rfl, _, _, rfl, rfl, ?_⟩
      have e1 := e1.trans (Ex.new (o := .tup [V.int (i : Nat), V.int z]) nT)
      generalize upd H1 T (.tup [V.int (i : Nat), V.int z]) = H1 at e1 ⊢
      refine ⟨.int z, rfl, z, rfl, fun b H2 nb e2 hb => ?_⟩
      refine ⟨2, rfl, by decide, by decide, for_range (lo := 0) (n := 2) (fun j σ H3 => ∃ y4 y5, σ = [some (.ref a), some (.int (i : Nat)), some (.int z), some (.ref b), y4, y5] ∧ Ex H2 H3) ⟨_, _, rfl, Ex.refl _⟩ (fun j σ H3 hj p => ?_) (fun σ H3 p => ?_)⟩
      · obtain ⟨y4, y5, rfl, e3⟩ := p
        have hb3 := e3 _ _ hb
        refine ⟨10, 30, rfl, rfl, ⟨by decide, by decide, by decide⟩, 10, 64, rfl, rfl, ⟨by decide, by decide, by decide⟩, 10, 35, rfl, rfl, ⟨by decide, by decide, by decide⟩, _, _, rfl, rfl, w99, by show 3 ≤ sizeLine; decide, fun p1 np1 => ?_⟩
        have x1 := Ex.new (o := .lst [V.int 60, V.int (10 ^ 30), V.int (10 ^ 64 * 10 ^ 35)]) np1
        refine ⟨.ref b, rfl, b, 3, rfl, x1 _ _ hb3, by decide, by decide, fun n H4 n0 n1 e4 => ?_⟩
        obtain ⟨wd, am, w1, w2⟩ := pick3 (p := fun m => 1 ≤ m ∧ m ≤ 10 ^ 99) n0 n1 (x := 60) (y := 10 ^ 30) (z := 10 ^ 64 * 10 ^ 35) ⟨by decide +kernel, by decide +kernel⟩ ⟨by decide +kernel, by decide +kernel⟩ ⟨by decide +kernel, by decide +kernel⟩
        refine ⟨p1, _, n, .int wd, rfl, rfl, SqL.of (e4 _ _ upd_same), am, ?_⟩
        have e34 := x1.trans e4
        refine ⟨.ref b, rfl, .ref b, rfl, by show 2 ≤ sizeLine; decide, fun p2 np2 => ?_⟩
        have x2 := Ex.new (o := .lst [V.int 40, V.int 200]) np2
        have e35 := e34.trans x2
        have h40 : ∀ c : Bool, ∃ m, atI [V.int 40, V.int 200] (if c = true then 1 else 0) = some (.int m) ∧ 1 ≤ m ∧ m ≤ 200 := fun c => by
          cases c
          · exact ⟨40, rfl, by decide, by decide⟩
          · exact ⟨200, rfl, by decide, by decide⟩
        have w100 : wd ≤ 10 ^ 100 := Int.le_trans w2 (by decide +kernel)
        refine ⟨.int (i : Nat), rfl, rfl, _, rfl, ?_⟩
        by_cases ci : V.int (i : Nat) = V.int 0
        · rw [decide_eq_true ci]
          refine iteT ⟨.int (0 + (j : Int)), rfl, rfl, .inr ⟨_, rfl, ?_⟩⟩
          obtain ⟨m, ai, m1, m2⟩ := h40 (decide (V.int (0 + (j : Int)) = V.int 0))
          refine ⟨p2, _, _, .int m, rfl, rfl, SqL.of upd_same, ai, .int wd, rfl, b, m, wd, rfl, e35 _ _ hb3, m1, m2, w1, w100, fun p H6 ss np e6 hSS G top lss => ?_⟩
          exact ⟨b, p, ss, rfl, e6 _ _ (e35 _ _ hb3), hSS, G, lss, fun s hs => ⟨by have := top s hs; omega, by have := top s hs; omega⟩, fun H7 e7 => ⟨true, rfl, iteF ⟨_, _, rfl, ((e3.trans e35).trans e6).trans e7⟩⟩⟩
        · rw [decide_eq_false ci]
          refine iteF (.inr ⟨_, rfl, ?_⟩)
          obtain ⟨m, ai, m1, m2⟩ := h40 false
          refine ⟨p2, _, _, .int m, rfl, rfl, SqL.of upd_same, ai, .int wd, rfl, b, m, wd, rfl, e35 _ _ hb3, m1, m2, w1, w100, fun p H6 ss np e6 hSS G top lss => ?_⟩
          exact ⟨b, p, ss, rfl, e6 _ _ (e35 _ _ hb3), hSS, G, lss, fun s hs => ⟨by have := top s hs; omega, by have := top s hs; omega⟩, fun H7 e7 => ⟨true, rfl, iteF ⟨_, _, rfl, ((e3.trans e35).trans e6).trans e7⟩⟩⟩
      · obtain ⟨y4, y5, rfl, e3⟩ := p
        exact ⟨_, _, _, _, _, rfl, (e1.trans e2).trans e3⟩
    · obtain ⟨y1, y2, y3, y4, y5, rfl, e1⟩ := p
      exact q _
end
end Kb

namespace Kb
open PySem PySem.Spec PyProof.Rows L2 StX TL
theorem all_mk {P : Program} {w : World} {K : PySem.W.Frag} {h : Heap} {mg : Str → Option Value} {fa f__law_bag f__law_pick f__law_mixed f__law_list f__law_size f_is_integer f_is_from_zero f_is_scan f_is_list f_check_list f_joined f_tidy f_turned f_scan_length f_count_all f_count_addresses f_check_address f_place_in f_place_of f_check_index f_address_in f_nth_address f_check_from f_scan_head f_first_of f_first_part f_check_scan f_first_reaching f_scan_outside f_others_of f_put_ahead f_on_top f_check_interval f_all_without f_without f__law_joined f__law_within f__law_cut f__law_first f__law_marks f__law_right f_law : Addr} (X : K.In h) (G : h.Ns mainGlobals mg) (hfa : mg "law" = some (.ref fa))
    {od__law_bag an__law_bag od__law_pick an__law_pick od__law_mixed an__law_mixed od__law_list an__law_list od__law_size an__law_size od_is_integer an_is_integer od_is_from_zero an_is_from_zero od_is_scan an_is_scan od_is_list an_is_list od_check_list an_check_list od_joined an_joined od_tidy an_tidy od_turned an_turned od_scan_length an_scan_length od_count_all an_count_all od_count_addresses an_count_addresses od_check_address an_check_address od_place_in an_place_in od_place_of an_place_of od_check_index an_check_index od_address_in an_address_in od_nth_address an_nth_address od_check_from an_check_from od_scan_head an_scan_head od_first_of an_first_of od_first_part an_first_part od_check_scan an_check_scan od_first_reaching an_first_reaching od_scan_outside an_scan_outside od_others_of an_others_of od_put_ahead an_put_ahead od_on_top an_on_top od_check_interval an_check_interval od_all_without an_all_without od_without an_without od__law_joined an__law_joined od__law_within an__law_within od__law_cut an__law_cut od__law_first an__law_first od__law_marks an__law_marks od__law_right an__law_right od_law an_law : Option Addr} {sl__law_bag sl__law_pick sl__law_mixed sl__law_list sl__law_size sl_is_integer sl_is_from_zero sl_is_scan sl_is_list sl_check_list sl_joined sl_tidy sl_turned sl_scan_length sl_count_all sl_count_addresses sl_check_address sl_place_in sl_place_of sl_check_index sl_address_in sl_nth_address sl_check_from sl_scan_head sl_first_of sl_first_part sl_check_scan sl_first_reaching sl_scan_outside sl_others_of sl_put_ahead sl_on_top sl_check_interval sl_all_without sl_without sl__law_joined sl__law_within sl__law_cut sl__law_first sl__law_marks sl__law_right sl_law : Array (Option Value)}
    {oc__law_bag kV__law_bag dc__law_bag pm__law_bag cd__law_bag ct__law_bag oc__law_pick kV__law_pick dc__law_pick pm__law_pick cd__law_pick ct__law_pick oc__law_mixed kV__law_mixed dc__law_mixed pm__law_mixed cd__law_mixed ct__law_mixed oc__law_list kV__law_list dc__law_list pm__law_list cd__law_list ct__law_list oc__law_size kV__law_size dc__law_size pm__law_size cd__law_size ct__law_size oc_is_integer kV_is_integer dc_is_integer pm_is_integer cd_is_integer ct_is_integer oc_is_from_zero kV_is_from_zero dc_is_from_zero pm_is_from_zero cd_is_from_zero ct_is_from_zero oc_is_scan kV_is_scan dc_is_scan pm_is_scan cd_is_scan ct_is_scan oc_is_list kV_is_list dc_is_list pm_is_list cd_is_list ct_is_list oc_check_list kV_check_list dc_check_list pm_check_list cd_check_list ct_check_list oc_joined kV_joined dc_joined pm_joined cd_joined ct_joined oc_tidy kV_tidy dc_tidy pm_tidy cd_tidy ct_tidy oc_turned kV_turned dc_turned pm_turned cd_turned ct_turned oc_scan_length kV_scan_length dc_scan_length pm_scan_length cd_scan_length ct_scan_length oc_count_all kV_count_all dc_count_all pm_count_all cd_count_all ct_count_all oc_count_addresses kV_count_addresses dc_count_addresses pm_count_addresses cd_count_addresses ct_count_addresses oc_check_address kV_check_address dc_check_address pm_check_address cd_check_address ct_check_address oc_place_in kV_place_in dc_place_in pm_place_in cd_place_in ct_place_in oc_place_of kV_place_of dc_place_of pm_place_of cd_place_of ct_place_of oc_check_index kV_check_index dc_check_index pm_check_index cd_check_index ct_check_index oc_address_in kV_address_in dc_address_in pm_address_in cd_address_in ct_address_in oc_nth_address kV_nth_address dc_nth_address pm_nth_address cd_nth_address ct_nth_address oc_check_from kV_check_from dc_check_from pm_check_from cd_check_from ct_check_from oc_scan_head kV_scan_head dc_scan_head pm_scan_head cd_scan_head ct_scan_head oc_first_of kV_first_of dc_first_of pm_first_of cd_first_of ct_first_of oc_first_part kV_first_part dc_first_part pm_first_part cd_first_part ct_first_part oc_check_scan kV_check_scan dc_check_scan pm_check_scan cd_check_scan ct_check_scan oc_first_reaching kV_first_reaching dc_first_reaching pm_first_reaching cd_first_reaching ct_first_reaching oc_scan_outside kV_scan_outside dc_scan_outside pm_scan_outside cd_scan_outside ct_scan_outside oc_others_of kV_others_of dc_others_of pm_others_of cd_others_of ct_others_of oc_put_ahead kV_put_ahead dc_put_ahead pm_put_ahead cd_put_ahead ct_put_ahead oc_on_top kV_on_top dc_on_top pm_on_top cd_on_top ct_on_top oc_check_interval kV_check_interval dc_check_interval pm_check_interval cd_check_interval ct_check_interval oc_all_without kV_all_without dc_all_without pm_all_without cd_all_without ct_all_without oc_without kV_without dc_without pm_without cd_without ct_without oc__law_joined kV__law_joined dc__law_joined pm__law_joined cd__law_joined ct__law_joined oc__law_within kV__law_within dc__law_within pm__law_within cd__law_within ct__law_within oc__law_cut kV__law_cut dc__law_cut pm__law_cut cd__law_cut ct__law_cut oc__law_first kV__law_first dc__law_first pm__law_first cd__law_first ct__law_first oc__law_marks kV__law_marks dc__law_marks pm__law_marks cd__law_marks ct__law_marks oc__law_right kV__law_right dc__law_right pm__law_right cd__law_right ct__law_right oc_law kV_law dc_law pm_law cd_law ct_law : Value}
    (a__law_bag : PySem.W.nsIn K mainGlobals "_law_bag" = some (some (.ref f__law_bag))) (l__law_bag : K.lookup f__law_bag = some ⟨oc__law_bag, od__law_bag, .func (PySem.W.fnOf "_law_bag" "_law_bag" (defArgs s_law_bag) (defBody s_law_bag) (defScope s_law_bag) .none kV__law_bag dc__law_bag pm__law_bag an__law_bag cd__law_bag ct__law_bag), sl__law_bag⟩) (c__law_bag : PySem.W.codeIn K cd__law_bag "_law_bag" = true) (k__law_bag : PySem.W.keepIn K (.ref f__law_bag) = true)
    (a__law_pick : PySem.W.nsIn K mainGlobals "_law_pick" = some (some (.ref f__law_pick))) (l__law_pick : K.lookup f__law_pick = some ⟨oc__law_pick, od__law_pick, .func (PySem.W.fnOf "_law_pick" "_law_pick" (defArgs s_law_pick) (defBody s_law_pick) (defScope s_law_pick) .none kV__law_pick dc__law_pick pm__law_pick an__law_pick cd__law_pick ct__law_pick), sl__law_pick⟩) (c__law_pick : PySem.W.codeIn K cd__law_pick "_law_pick" = true) (k__law_pick : PySem.W.keepIn K (.ref f__law_pick) = true)
    (a__law_mixed : PySem.W.nsIn K mainGlobals "_law_mixed" = some (some (.ref f__law_mixed))) (l__law_mixed : K.lookup f__law_mixed = some ⟨oc__law_mixed, od__law_mixed, .func (PySem.W.fnOf "_law_mixed" "_law_mixed" (defArgs s_law_mixed) (defBody s_law_mixed) (defScope s_law_mixed) .none kV__law_mixed dc__law_mixed pm__law_mixed an__law_mixed cd__law_mixed ct__law_mixed), sl__law_mixed⟩) (c__law_mixed : PySem.W.codeIn K cd__law_mixed "_law_mixed" = true) (k__law_mixed : PySem.W.keepIn K (.ref f__law_mixed) = true)
    (a__law_list : PySem.W.nsIn K mainGlobals "_law_list" = some (some (.ref f__law_list))) (l__law_list : K.lookup f__law_list = some ⟨oc__law_list, od__law_list, .func (PySem.W.fnOf "_law_list" "_law_list" (defArgs s_law_list) (defBody s_law_list) (defScope s_law_list) .none kV__law_list dc__law_list pm__law_list an__law_list cd__law_list ct__law_list), sl__law_list⟩) (c__law_list : PySem.W.codeIn K cd__law_list "_law_list" = true) (k__law_list : PySem.W.keepIn K (.ref f__law_list) = true)
    (a__law_size : PySem.W.nsIn K mainGlobals "_law_size" = some (some (.ref f__law_size))) (l__law_size : K.lookup f__law_size = some ⟨oc__law_size, od__law_size, .func (PySem.W.fnOf "_law_size" "_law_size" (defArgs s_law_size) (defBody s_law_size) (defScope s_law_size) .none kV__law_size dc__law_size pm__law_size an__law_size cd__law_size ct__law_size), sl__law_size⟩) (c__law_size : PySem.W.codeIn K cd__law_size "_law_size" = true) (k__law_size : PySem.W.keepIn K (.ref f__law_size) = true)
    (a_is_integer : PySem.W.nsIn K mainGlobals "is_integer" = some (some (.ref f_is_integer))) (l_is_integer : K.lookup f_is_integer = some ⟨oc_is_integer, od_is_integer, .func (PySem.W.fnOf "is_integer" "is_integer" (defArgs sis_integer) (defBody sis_integer) (defScope sis_integer) .none kV_is_integer dc_is_integer pm_is_integer an_is_integer cd_is_integer ct_is_integer), sl_is_integer⟩) (c_is_integer : PySem.W.codeIn K cd_is_integer "is_integer" = true) (k_is_integer : PySem.W.keepIn K (.ref f_is_integer) = true)
    (a_is_from_zero : PySem.W.nsIn K mainGlobals "is_from_zero" = some (some (.ref f_is_from_zero))) (l_is_from_zero : K.lookup f_is_from_zero = some ⟨oc_is_from_zero, od_is_from_zero, .func (PySem.W.fnOf "is_from_zero" "is_from_zero" (defArgs sis_from_zero) (defBody sis_from_zero) (defScope sis_from_zero) .none kV_is_from_zero dc_is_from_zero pm_is_from_zero an_is_from_zero cd_is_from_zero ct_is_from_zero), sl_is_from_zero⟩) (c_is_from_zero : PySem.W.codeIn K cd_is_from_zero "is_from_zero" = true) (k_is_from_zero : PySem.W.keepIn K (.ref f_is_from_zero) = true)
    (a_is_scan : PySem.W.nsIn K mainGlobals "is_scan" = some (some (.ref f_is_scan))) (l_is_scan : K.lookup f_is_scan = some ⟨oc_is_scan, od_is_scan, .func (PySem.W.fnOf "is_scan" "is_scan" (defArgs sis_scan) (defBody sis_scan) (defScope sis_scan) .none kV_is_scan dc_is_scan pm_is_scan an_is_scan cd_is_scan ct_is_scan), sl_is_scan⟩) (c_is_scan : PySem.W.codeIn K cd_is_scan "is_scan" = true) (k_is_scan : PySem.W.keepIn K (.ref f_is_scan) = true)
    (a_is_list : PySem.W.nsIn K mainGlobals "is_list" = some (some (.ref f_is_list))) (l_is_list : K.lookup f_is_list = some ⟨oc_is_list, od_is_list, .func (PySem.W.fnOf "is_list" "is_list" (defArgs sis_list) (defBody sis_list) (defScope sis_list) .none kV_is_list dc_is_list pm_is_list an_is_list cd_is_list ct_is_list), sl_is_list⟩) (c_is_list : PySem.W.codeIn K cd_is_list "is_list" = true) (k_is_list : PySem.W.keepIn K (.ref f_is_list) = true)
    (a_check_list : PySem.W.nsIn K mainGlobals "check_list" = some (some (.ref f_check_list))) (l_check_list : K.lookup f_check_list = some ⟨oc_check_list, od_check_list, .func (PySem.W.fnOf "check_list" "check_list" (defArgs scheck_list) (defBody scheck_list) (defScope scheck_list) .none kV_check_list dc_check_list pm_check_list an_check_list cd_check_list ct_check_list), sl_check_list⟩) (c_check_list : PySem.W.codeIn K cd_check_list "check_list" = true) (k_check_list : PySem.W.keepIn K (.ref f_check_list) = true)
    (a_joined : PySem.W.nsIn K mainGlobals "joined" = some (some (.ref f_joined))) (l_joined : K.lookup f_joined = some ⟨oc_joined, od_joined, .func (PySem.W.fnOf "joined" "joined" (defArgs sjoined) (defBody sjoined) (defScope sjoined) .none kV_joined dc_joined pm_joined an_joined cd_joined ct_joined), sl_joined⟩) (c_joined : PySem.W.codeIn K cd_joined "joined" = true) (k_joined : PySem.W.keepIn K (.ref f_joined) = true)
    (a_tidy : PySem.W.nsIn K mainGlobals "tidy" = some (some (.ref f_tidy))) (l_tidy : K.lookup f_tidy = some ⟨oc_tidy, od_tidy, .func (PySem.W.fnOf "tidy" "tidy" (defArgs stidy) (defBody stidy) (defScope stidy) .none kV_tidy dc_tidy pm_tidy an_tidy cd_tidy ct_tidy), sl_tidy⟩) (c_tidy : PySem.W.codeIn K cd_tidy "tidy" = true) (k_tidy : PySem.W.keepIn K (.ref f_tidy) = true)
    (a_turned : PySem.W.nsIn K mainGlobals "turned" = some (some (.ref f_turned))) (l_turned : K.lookup f_turned = some ⟨oc_turned, od_turned, .func (PySem.W.fnOf "turned" "turned" (defArgs sturned) (defBody sturned) (defScope sturned) .none kV_turned dc_turned pm_turned an_turned cd_turned ct_turned), sl_turned⟩) (c_turned : PySem.W.codeIn K cd_turned "turned" = true) (k_turned : PySem.W.keepIn K (.ref f_turned) = true)
    (a_scan_length : PySem.W.nsIn K mainGlobals "scan_length" = some (some (.ref f_scan_length))) (l_scan_length : K.lookup f_scan_length = some ⟨oc_scan_length, od_scan_length, .func (PySem.W.fnOf "scan_length" "scan_length" (defArgs sscan_length) (defBody sscan_length) (defScope sscan_length) .none kV_scan_length dc_scan_length pm_scan_length an_scan_length cd_scan_length ct_scan_length), sl_scan_length⟩) (c_scan_length : PySem.W.codeIn K cd_scan_length "scan_length" = true) (k_scan_length : PySem.W.keepIn K (.ref f_scan_length) = true)
    (a_count_all : PySem.W.nsIn K mainGlobals "count_all" = some (some (.ref f_count_all))) (l_count_all : K.lookup f_count_all = some ⟨oc_count_all, od_count_all, .func (PySem.W.fnOf "count_all" "count_all" (defArgs scount_all) (defBody scount_all) (defScope scount_all) .none kV_count_all dc_count_all pm_count_all an_count_all cd_count_all ct_count_all), sl_count_all⟩) (c_count_all : PySem.W.codeIn K cd_count_all "count_all" = true) (k_count_all : PySem.W.keepIn K (.ref f_count_all) = true)
    (a_count_addresses : PySem.W.nsIn K mainGlobals "count_addresses" = some (some (.ref f_count_addresses))) (l_count_addresses : K.lookup f_count_addresses = some ⟨oc_count_addresses, od_count_addresses, .func (PySem.W.fnOf "count_addresses" "count_addresses" (defArgs scount_addresses) (defBody scount_addresses) (defScope scount_addresses) .none kV_count_addresses dc_count_addresses pm_count_addresses an_count_addresses cd_count_addresses ct_count_addresses), sl_count_addresses⟩) (c_count_addresses : PySem.W.codeIn K cd_count_addresses "count_addresses" = true) (k_count_addresses : PySem.W.keepIn K (.ref f_count_addresses) = true)
    (a_check_address : PySem.W.nsIn K mainGlobals "check_address" = some (some (.ref f_check_address))) (l_check_address : K.lookup f_check_address = some ⟨oc_check_address, od_check_address, .func (PySem.W.fnOf "check_address" "check_address" (defArgs scheck_address) (defBody scheck_address) (defScope scheck_address) .none kV_check_address dc_check_address pm_check_address an_check_address cd_check_address ct_check_address), sl_check_address⟩) (c_check_address : PySem.W.codeIn K cd_check_address "check_address" = true) (k_check_address : PySem.W.keepIn K (.ref f_check_address) = true)
    (a_place_in : PySem.W.nsIn K mainGlobals "place_in" = some (some (.ref f_place_in))) (l_place_in : K.lookup f_place_in = some ⟨oc_place_in, od_place_in, .func (PySem.W.fnOf "place_in" "place_in" (defArgs splace_in) (defBody splace_in) (defScope splace_in) .none kV_place_in dc_place_in pm_place_in an_place_in cd_place_in ct_place_in), sl_place_in⟩) (c_place_in : PySem.W.codeIn K cd_place_in "place_in" = true) (k_place_in : PySem.W.keepIn K (.ref f_place_in) = true)
    (a_place_of : PySem.W.nsIn K mainGlobals "place_of" = some (some (.ref f_place_of))) (l_place_of : K.lookup f_place_of = some ⟨oc_place_of, od_place_of, .func (PySem.W.fnOf "place_of" "place_of" (defArgs splace_of) (defBody splace_of) (defScope splace_of) .none kV_place_of dc_place_of pm_place_of an_place_of cd_place_of ct_place_of), sl_place_of⟩) (c_place_of : PySem.W.codeIn K cd_place_of "place_of" = true) (k_place_of : PySem.W.keepIn K (.ref f_place_of) = true)
    (a_check_index : PySem.W.nsIn K mainGlobals "check_index" = some (some (.ref f_check_index))) (l_check_index : K.lookup f_check_index = some ⟨oc_check_index, od_check_index, .func (PySem.W.fnOf "check_index" "check_index" (defArgs scheck_index) (defBody scheck_index) (defScope scheck_index) .none kV_check_index dc_check_index pm_check_index an_check_index cd_check_index ct_check_index), sl_check_index⟩) (c_check_index : PySem.W.codeIn K cd_check_index "check_index" = true) (k_check_index : PySem.W.keepIn K (.ref f_check_index) = true)
    (a_address_in : PySem.W.nsIn K mainGlobals "address_in" = some (some (.ref f_address_in))) (l_address_in : K.lookup f_address_in = some ⟨oc_address_in, od_address_in, .func (PySem.W.fnOf "address_in" "address_in" (defArgs saddress_in) (defBody saddress_in) (defScope saddress_in) .none kV_address_in dc_address_in pm_address_in an_address_in cd_address_in ct_address_in), sl_address_in⟩) (c_address_in : PySem.W.codeIn K cd_address_in "address_in" = true) (k_address_in : PySem.W.keepIn K (.ref f_address_in) = true)
    (a_nth_address : PySem.W.nsIn K mainGlobals "nth_address" = some (some (.ref f_nth_address))) (l_nth_address : K.lookup f_nth_address = some ⟨oc_nth_address, od_nth_address, .func (PySem.W.fnOf "nth_address" "nth_address" (defArgs snth_address) (defBody snth_address) (defScope snth_address) .none kV_nth_address dc_nth_address pm_nth_address an_nth_address cd_nth_address ct_nth_address), sl_nth_address⟩) (c_nth_address : PySem.W.codeIn K cd_nth_address "nth_address" = true) (k_nth_address : PySem.W.keepIn K (.ref f_nth_address) = true)
    (a_check_from : PySem.W.nsIn K mainGlobals "check_from" = some (some (.ref f_check_from))) (l_check_from : K.lookup f_check_from = some ⟨oc_check_from, od_check_from, .func (PySem.W.fnOf "check_from" "check_from" (defArgs scheck_from) (defBody scheck_from) (defScope scheck_from) .none kV_check_from dc_check_from pm_check_from an_check_from cd_check_from ct_check_from), sl_check_from⟩) (c_check_from : PySem.W.codeIn K cd_check_from "check_from" = true) (k_check_from : PySem.W.keepIn K (.ref f_check_from) = true)
    (a_scan_head : PySem.W.nsIn K mainGlobals "scan_head" = some (some (.ref f_scan_head))) (l_scan_head : K.lookup f_scan_head = some ⟨oc_scan_head, od_scan_head, .func (PySem.W.fnOf "scan_head" "scan_head" (defArgs sscan_head) (defBody sscan_head) (defScope sscan_head) .none kV_scan_head dc_scan_head pm_scan_head an_scan_head cd_scan_head ct_scan_head), sl_scan_head⟩) (c_scan_head : PySem.W.codeIn K cd_scan_head "scan_head" = true) (k_scan_head : PySem.W.keepIn K (.ref f_scan_head) = true)
    (a_first_of : PySem.W.nsIn K mainGlobals "first_of" = some (some (.ref f_first_of))) (l_first_of : K.lookup f_first_of = some ⟨oc_first_of, od_first_of, .func (PySem.W.fnOf "first_of" "first_of" (defArgs sfirst_of) (defBody sfirst_of) (defScope sfirst_of) .none kV_first_of dc_first_of pm_first_of an_first_of cd_first_of ct_first_of), sl_first_of⟩) (c_first_of : PySem.W.codeIn K cd_first_of "first_of" = true) (k_first_of : PySem.W.keepIn K (.ref f_first_of) = true)
    (a_first_part : PySem.W.nsIn K mainGlobals "first_part" = some (some (.ref f_first_part))) (l_first_part : K.lookup f_first_part = some ⟨oc_first_part, od_first_part, .func (PySem.W.fnOf "first_part" "first_part" (defArgs sfirst_part) (defBody sfirst_part) (defScope sfirst_part) .none kV_first_part dc_first_part pm_first_part an_first_part cd_first_part ct_first_part), sl_first_part⟩) (c_first_part : PySem.W.codeIn K cd_first_part "first_part" = true) (k_first_part : PySem.W.keepIn K (.ref f_first_part) = true)
    (a_check_scan : PySem.W.nsIn K mainGlobals "check_scan" = some (some (.ref f_check_scan))) (l_check_scan : K.lookup f_check_scan = some ⟨oc_check_scan, od_check_scan, .func (PySem.W.fnOf "check_scan" "check_scan" (defArgs scheck_scan) (defBody scheck_scan) (defScope scheck_scan) .none kV_check_scan dc_check_scan pm_check_scan an_check_scan cd_check_scan ct_check_scan), sl_check_scan⟩) (c_check_scan : PySem.W.codeIn K cd_check_scan "check_scan" = true) (k_check_scan : PySem.W.keepIn K (.ref f_check_scan) = true)
    (a_first_reaching : PySem.W.nsIn K mainGlobals "first_reaching" = some (some (.ref f_first_reaching))) (l_first_reaching : K.lookup f_first_reaching = some ⟨oc_first_reaching, od_first_reaching, .func (PySem.W.fnOf "first_reaching" "first_reaching" (defArgs sfirst_reaching) (defBody sfirst_reaching) (defScope sfirst_reaching) .none kV_first_reaching dc_first_reaching pm_first_reaching an_first_reaching cd_first_reaching ct_first_reaching), sl_first_reaching⟩) (c_first_reaching : PySem.W.codeIn K cd_first_reaching "first_reaching" = true) (k_first_reaching : PySem.W.keepIn K (.ref f_first_reaching) = true)
    (a_scan_outside : PySem.W.nsIn K mainGlobals "scan_outside" = some (some (.ref f_scan_outside))) (l_scan_outside : K.lookup f_scan_outside = some ⟨oc_scan_outside, od_scan_outside, .func (PySem.W.fnOf "scan_outside" "scan_outside" (defArgs sscan_outside) (defBody sscan_outside) (defScope sscan_outside) .none kV_scan_outside dc_scan_outside pm_scan_outside an_scan_outside cd_scan_outside ct_scan_outside), sl_scan_outside⟩) (c_scan_outside : PySem.W.codeIn K cd_scan_outside "scan_outside" = true) (k_scan_outside : PySem.W.keepIn K (.ref f_scan_outside) = true)
    (a_others_of : PySem.W.nsIn K mainGlobals "others_of" = some (some (.ref f_others_of))) (l_others_of : K.lookup f_others_of = some ⟨oc_others_of, od_others_of, .func (PySem.W.fnOf "others_of" "others_of" (defArgs sothers_of) (defBody sothers_of) (defScope sothers_of) .none kV_others_of dc_others_of pm_others_of an_others_of cd_others_of ct_others_of), sl_others_of⟩) (c_others_of : PySem.W.codeIn K cd_others_of "others_of" = true) (k_others_of : PySem.W.keepIn K (.ref f_others_of) = true)
    (a_put_ahead : PySem.W.nsIn K mainGlobals "put_ahead" = some (some (.ref f_put_ahead))) (l_put_ahead : K.lookup f_put_ahead = some ⟨oc_put_ahead, od_put_ahead, .func (PySem.W.fnOf "put_ahead" "put_ahead" (defArgs sput_ahead) (defBody sput_ahead) (defScope sput_ahead) .none kV_put_ahead dc_put_ahead pm_put_ahead an_put_ahead cd_put_ahead ct_put_ahead), sl_put_ahead⟩) (c_put_ahead : PySem.W.codeIn K cd_put_ahead "put_ahead" = true) (k_put_ahead : PySem.W.keepIn K (.ref f_put_ahead) = true)
    (a_on_top : PySem.W.nsIn K mainGlobals "on_top" = some (some (.ref f_on_top))) (l_on_top : K.lookup f_on_top = some ⟨oc_on_top, od_on_top, .func (PySem.W.fnOf "on_top" "on_top" (defArgs son_top) (defBody son_top) (defScope son_top) .none kV_on_top dc_on_top pm_on_top an_on_top cd_on_top ct_on_top), sl_on_top⟩) (c_on_top : PySem.W.codeIn K cd_on_top "on_top" = true) (k_on_top : PySem.W.keepIn K (.ref f_on_top) = true)
    (a_check_interval : PySem.W.nsIn K mainGlobals "check_interval" = some (some (.ref f_check_interval))) (l_check_interval : K.lookup f_check_interval = some ⟨oc_check_interval, od_check_interval, .func (PySem.W.fnOf "check_interval" "check_interval" (defArgs scheck_interval) (defBody scheck_interval) (defScope scheck_interval) .none kV_check_interval dc_check_interval pm_check_interval an_check_interval cd_check_interval ct_check_interval), sl_check_interval⟩) (c_check_interval : PySem.W.codeIn K cd_check_interval "check_interval" = true) (k_check_interval : PySem.W.keepIn K (.ref f_check_interval) = true)
    (a_all_without : PySem.W.nsIn K mainGlobals "all_without" = some (some (.ref f_all_without))) (l_all_without : K.lookup f_all_without = some ⟨oc_all_without, od_all_without, .func (PySem.W.fnOf "all_without" "all_without" (defArgs sall_without) (defBody sall_without) (defScope sall_without) .none kV_all_without dc_all_without pm_all_without an_all_without cd_all_without ct_all_without), sl_all_without⟩) (c_all_without : PySem.W.codeIn K cd_all_without "all_without" = true) (k_all_without : PySem.W.keepIn K (.ref f_all_without) = true)
    (a_without : PySem.W.nsIn K mainGlobals "without" = some (some (.ref f_without))) (l_without : K.lookup f_without = some ⟨oc_without, od_without, .func (PySem.W.fnOf "without" "without" (defArgs swithout) (defBody swithout) (defScope swithout) .none kV_without dc_without pm_without an_without cd_without ct_without), sl_without⟩) (c_without : PySem.W.codeIn K cd_without "without" = true) (k_without : PySem.W.keepIn K (.ref f_without) = true)
    (a__law_joined : PySem.W.nsIn K mainGlobals "_law_joined" = some (some (.ref f__law_joined))) (l__law_joined : K.lookup f__law_joined = some ⟨oc__law_joined, od__law_joined, .func (PySem.W.fnOf "_law_joined" "_law_joined" (defArgs s_law_joined) (defBody s_law_joined) (defScope s_law_joined) .none kV__law_joined dc__law_joined pm__law_joined an__law_joined cd__law_joined ct__law_joined), sl__law_joined⟩) (c__law_joined : PySem.W.codeIn K cd__law_joined "_law_joined" = true) (k__law_joined : PySem.W.keepIn K (.ref f__law_joined) = true)
    (a__law_within : PySem.W.nsIn K mainGlobals "_law_within" = some (some (.ref f__law_within))) (l__law_within : K.lookup f__law_within = some ⟨oc__law_within, od__law_within, .func (PySem.W.fnOf "_law_within" "_law_within" (defArgs s_law_within) (defBody s_law_within) (defScope s_law_within) .none kV__law_within dc__law_within pm__law_within an__law_within cd__law_within ct__law_within), sl__law_within⟩) (c__law_within : PySem.W.codeIn K cd__law_within "_law_within" = true) (k__law_within : PySem.W.keepIn K (.ref f__law_within) = true)
    (a__law_cut : PySem.W.nsIn K mainGlobals "_law_cut" = some (some (.ref f__law_cut))) (l__law_cut : K.lookup f__law_cut = some ⟨oc__law_cut, od__law_cut, .func (PySem.W.fnOf "_law_cut" "_law_cut" (defArgs s_law_cut) (defBody s_law_cut) (defScope s_law_cut) .none kV__law_cut dc__law_cut pm__law_cut an__law_cut cd__law_cut ct__law_cut), sl__law_cut⟩) (c__law_cut : PySem.W.codeIn K cd__law_cut "_law_cut" = true) (k__law_cut : PySem.W.keepIn K (.ref f__law_cut) = true)
    (a__law_first : PySem.W.nsIn K mainGlobals "_law_first" = some (some (.ref f__law_first))) (l__law_first : K.lookup f__law_first = some ⟨oc__law_first, od__law_first, .func (PySem.W.fnOf "_law_first" "_law_first" (defArgs s_law_first) (defBody s_law_first) (defScope s_law_first) .none kV__law_first dc__law_first pm__law_first an__law_first cd__law_first ct__law_first), sl__law_first⟩) (c__law_first : PySem.W.codeIn K cd__law_first "_law_first" = true) (k__law_first : PySem.W.keepIn K (.ref f__law_first) = true)
    (a__law_marks : PySem.W.nsIn K mainGlobals "_law_marks" = some (some (.ref f__law_marks))) (l__law_marks : K.lookup f__law_marks = some ⟨oc__law_marks, od__law_marks, .func (PySem.W.fnOf "_law_marks" "_law_marks" (defArgs s_law_marks) (defBody s_law_marks) (defScope s_law_marks) .none kV__law_marks dc__law_marks pm__law_marks an__law_marks cd__law_marks ct__law_marks), sl__law_marks⟩) (c__law_marks : PySem.W.codeIn K cd__law_marks "_law_marks" = true) (k__law_marks : PySem.W.keepIn K (.ref f__law_marks) = true)
    (a__law_right : PySem.W.nsIn K mainGlobals "_law_right" = some (some (.ref f__law_right))) (l__law_right : K.lookup f__law_right = some ⟨oc__law_right, od__law_right, .func (PySem.W.fnOf "_law_right" "_law_right" (defArgs s_law_right) (defBody s_law_right) (defScope s_law_right) .none kV__law_right dc__law_right pm__law_right an__law_right cd__law_right ct__law_right), sl__law_right⟩) (c__law_right : PySem.W.codeIn K cd__law_right "_law_right" = true) (k__law_right : PySem.W.keepIn K (.ref f__law_right) = true)
    (a_law : PySem.W.nsIn K mainGlobals "law" = some (some (.ref f_law))) (l_law : K.lookup f_law = some ⟨oc_law, od_law, .func (PySem.W.fnOf "law" "law" (defArgs slaw) (defBody slaw) (defScope slaw) .none kV_law dc_law pm_law an_law cd_law ct_law), sl_law⟩) (c_law : PySem.W.codeIn K cd_law "law" = true) (k_law : PySem.W.keepIn K (.ref f_law) = true)
    (z_len : PySem.W.nsIn K mainGlobals "len" = some none)
    (z_abs : PySem.W.nsIn K mainGlobals "abs" = some none)
    (z_max : PySem.W.nsIn K mainGlobals "max" = some none)
    (z_min : PySem.W.nsIn K mainGlobals "min" = some none)
    (z_sum : PySem.W.nsIn K mainGlobals "sum" = some none)
    (z_all : PySem.W.nsIn K mainGlobals "all" = some none)
    (z_repr : PySem.W.nsIn K mainGlobals "repr" = some none)
    (z_sorted : PySem.W.nsIn K mainGlobals "sorted" = some none)
    (z_isinstance : PySem.W.nsIn K mainGlobals "isinstance" = some none)
    (z_int : PySem.W.nsIn K mainGlobals "int" = some none)
    (z_bool : PySem.W.nsIn K mainGlobals "bool" = some none)
    (z_list : PySem.W.nsIn K mainGlobals "list" = some none)
    (z_tuple : PySem.W.nsIn K mainGlobals "tuple" = some none)
    (z_set : PySem.W.nsIn K mainGlobals "set" = some none)
    (z_range : PySem.W.nsIn K mainGlobals "range" = some none)
    (z_zip : PySem.W.nsIn K mainGlobals "zip" = some none)
    (z_str : PySem.W.nsIn K mainGlobals "str" = some none)
    (z_enumerate : PySem.W.nsIn K mainGlobals "enumerate" = some none)
    (z_reversed : PySem.W.nsIn K mainGlobals "reversed" = some none)
    : ∃ fd : FuncData, (∀ (s : Shared) (v : Value), BindsTo s fd ⟨[v], []⟩ [("script", v)]) ∧ ∀ base : Heap, K.In base → base.Ns mainGlobals mg → FnOk P w K mg base CX0 9 fa fd ["script"] (spLaw K) := by
  have e := hfa.symm.trans (PySem.W.mg_of X G a_law)
  cases e
  have F_law_bag := fun_mk (st := s_law_bag) l__law_bag c__law_bag k__law_bag
  have F_law_pick := fun_mk (st := s_law_pick) l__law_pick c__law_pick k__law_pick
  have F_law_mixed := fun_mk (st := s_law_mixed) l__law_mixed c__law_mixed k__law_mixed
  have F_law_list := fun_mk (st := s_law_list) l__law_list c__law_list k__law_list
  have F_law_size := fun_mk (st := s_law_size) l__law_size c__law_size k__law_size
  have Fis_integer := fun_mk (st := sis_integer) l_is_integer c_is_integer k_is_integer
  have Fis_from_zero := fun_mk (st := sis_from_zero) l_is_from_zero c_is_from_zero k_is_from_zero
  have Fis_scan := fun_mk (st := sis_scan) l_is_scan c_is_scan k_is_scan
  have Fis_list := fun_mk (st := sis_list) l_is_list c_is_list k_is_list
  have Fcheck_list := fun_mk (st := scheck_list) l_check_list c_check_list k_check_list
  have Fjoined := fun_mk (st := sjoined) l_joined c_joined k_joined
  have Ftidy := fun_mk (st := stidy) l_tidy c_tidy k_tidy
  have Fturned := fun_mk (st := sturned) l_turned c_turned k_turned
  have Fscan_length := fun_mk (st := sscan_length) l_scan_length c_scan_length k_scan_length
  have Fcount_all := fun_mk (st := scount_all) l_count_all c_count_all k_count_all
  have Fcount_addresses := fun_mk (st := scount_addresses) l_count_addresses c_count_addresses k_count_addresses
  have Fcheck_address := fun_mk (st := scheck_address) l_check_address c_check_address k_check_address
  have Fplace_in := fun_mk (st := splace_in) l_place_in c_place_in k_place_in
  have Fplace_of := fun_mk (st := splace_of) l_place_of c_place_of k_place_of
  have Fcheck_index := fun_mk (st := scheck_index) l_check_index c_check_index k_check_index
  have Faddress_in := fun_mk (st := saddress_in) l_address_in c_address_in k_address_in
  have Fnth_address := fun_mk (st := snth_address) l_nth_address c_nth_address k_nth_address
  have Fcheck_from := fun_mk (st := scheck_from) l_check_from c_check_from k_check_from
  have Fscan_head := fun_mk (st := sscan_head) l_scan_head c_scan_head k_scan_head
  have Ffirst_of := fun_mk (st := sfirst_of) l_first_of c_first_of k_first_of
  have Ffirst_part := fun_mk (st := sfirst_part) l_first_part c_first_part k_first_part
  have Fcheck_scan := fun_mk (st := scheck_scan) l_check_scan c_check_scan k_check_scan
  have Ffirst_reaching := fun_mk (st := sfirst_reaching) l_first_reaching c_first_reaching k_first_reaching
  have Fscan_outside := fun_mk (st := sscan_outside) l_scan_outside c_scan_outside k_scan_outside
  have Fothers_of := fun_mk (st := sothers_of) l_others_of c_others_of k_others_of
  have Fput_ahead := fun_mk (st := sput_ahead) l_put_ahead c_put_ahead k_put_ahead
  have Fon_top := fun_mk (st := son_top) l_on_top c_on_top k_on_top
  have Fcheck_interval := fun_mk (st := scheck_interval) l_check_interval c_check_interval k_check_interval
  have Fall_without := fun_mk (st := sall_without) l_all_without c_all_without k_all_without
  have Fwithout := fun_mk (st := swithout) l_without c_without k_without
  have F_law_joined := fun_mk (st := s_law_joined) l__law_joined c__law_joined k__law_joined
  have F_law_within := fun_mk (st := s_law_within) l__law_within c__law_within k__law_within
  have F_law_cut := fun_mk (st := s_law_cut) l__law_cut c__law_cut k__law_cut
  have F_law_first := fun_mk (st := s_law_first) l__law_first c__law_first k__law_first
  have F_law_marks := fun_mk (st := s_law_marks) l__law_marks c__law_marks k__law_marks
  have F_law_right := fun_mk (st := s_law_right) l__law_right c__law_right k__law_right
  have Flaw := fun_mk (st := slaw) l_law c_law k_law
  have B : Bt2 mg := { len := PySem.W.mg_none_of X G z_len, abs := PySem.W.mg_none_of X G z_abs, max := PySem.W.mg_none_of X G z_max, min := PySem.W.mg_none_of X G z_min, sum := PySem.W.mg_none_of X G z_sum, all := PySem.W.mg_none_of X G z_all, repr := PySem.W.mg_none_of X G z_repr, sorted := PySem.W.mg_none_of X G z_sorted, isinstance := PySem.W.mg_none_of X G z_isinstance, int := PySem.W.mg_none_of X G z_int, bool := PySem.W.mg_none_of X G z_bool, list := PySem.W.mg_none_of X G z_list, tuple := PySem.W.mg_none_of X G z_tuple, set := PySem.W.mg_none_of X G z_set, range := PySem.W.mg_none_of X G z_range, zip := PySem.W.mg_none_of X G z_zip, str := PySem.W.mg_none_of X G z_str, enumerate := PySem.W.mg_none_of X G z_enumerate, reversed := PySem.W.mg_none_of X G z_reversed }
  refine ⟨PySem.W.fnOf "law" "law" (defArgs slaw) (defBody slaw) (defScope slaw) .none kV_law dc_law pm_law an_law cd_law ct_law, fun s v => .of_eq rfl, fun base _ _ => ?_⟩
  have m_law_bag {k : Nat} {sp : Sp} (ok : FnOk P w K mg base CX0 k f__law_bag _ ["cell"] sp) : Df P w K mg base "_law_bag" k ["cell"] sp := ⟨_, _, PySem.W.mg_of X G a__law_bag, F_law_bag.kp, F_law_bag.binds fun _ _ _ _ _ _ us hl => match us, hl with | [_], _ => rfl, ok⟩
  have m_law_pick {k : Nat} {sp : Sp} (ok : FnOk P w K mg base CX0 k f__law_pick _ ["bag", "many"] sp) : Df P w K mg base "_law_pick" k ["bag", "many"] sp := ⟨_, _, PySem.W.mg_of X G a__law_pick, F_law_pick.kp, F_law_pick.binds fun _ _ _ _ _ _ us hl => match us, hl with | [_, _], _ => rfl, ok⟩
  have m_law_mixed {k : Nat} {sp : Sp} (ok : FnOk P w K mg base CX0 k f__law_mixed _ ["bag", "items"] sp) : Df P w K mg base "_law_mixed" k ["bag", "items"] sp := ⟨_, _, PySem.W.mg_of X G a__law_mixed, F_law_mixed.kp, F_law_mixed.binds fun _ _ _ _ _ _ us hl => match us, hl with | [_, _], _ => rfl, ok⟩
  have m_law_list {k : Nat} {sp : Sp} (ok : FnOk P w K mg base CX0 k f__law_list _ ["bag", "many", "wide"] sp) : Df P w K mg base "_law_list" k ["bag", "many", "wide"] sp := ⟨_, _, PySem.W.mg_of X G a__law_list, F_law_list.kp, F_law_list.binds fun _ _ _ _ _ _ us hl => match us, hl with | [_, _, _], _ => rfl, ok⟩
  have m_law_size {k : Nat} {sp : Sp} (ok : FnOk P w K mg base CX0 k f__law_size _ ["scan"] sp) : Df P w K mg base "_law_size" k ["scan"] sp := ⟨_, _, PySem.W.mg_of X G a__law_size, F_law_size.kp, F_law_size.binds fun _ _ _ _ _ _ us hl => match us, hl with | [_], _ => rfl, ok⟩
  have mis_integer {k : Nat} {sp : Sp} (ok : FnOk P w K mg base CX0 k f_is_integer _ ["value"] sp) : Df P w K mg base "is_integer" k ["value"] sp := ⟨_, _, PySem.W.mg_of X G a_is_integer, Fis_integer.kp, Fis_integer.binds fun _ _ _ _ _ _ us hl => match us, hl with | [_], _ => rfl, ok⟩
  have mis_from_zero {k : Nat} {sp : Sp} (ok : FnOk P w K mg base CX0 k f_is_from_zero _ ["value"] sp) : Df P w K mg base "is_from_zero" k ["value"] sp := ⟨_, _, PySem.W.mg_of X G a_is_from_zero, Fis_from_zero.kp, Fis_from_zero.binds fun _ _ _ _ _ _ us hl => match us, hl with | [_], _ => rfl, ok⟩
  have mis_scan {k : Nat} {sp : Sp} (ok : FnOk P w K mg base CX0 k f_is_scan _ ["value"] sp) : Df P w K mg base "is_scan" k ["value"] sp := ⟨_, _, PySem.W.mg_of X G a_is_scan, Fis_scan.kp, Fis_scan.binds fun _ _ _ _ _ _ us hl => match us, hl with | [_], _ => rfl, ok⟩
  have mis_list {k : Nat} {sp : Sp} (ok : FnOk P w K mg base CX0 k f_is_list _ ["value"] sp) : Df P w K mg base "is_list" k ["value"] sp := ⟨_, _, PySem.W.mg_of X G a_is_list, Fis_list.kp, Fis_list.binds fun _ _ _ _ _ _ us hl => match us, hl with | [_], _ => rfl, ok⟩
  have mcheck_list {k : Nat} {sp : Sp} (ok : FnOk P w K mg base CX0 k f_check_list _ ["scans"] sp) : Df P w K mg base "check_list" k ["scans"] sp := ⟨_, _, PySem.W.mg_of X G a_check_list, Fcheck_list.kp, Fcheck_list.binds fun _ _ _ _ _ _ us hl => match us, hl with | [_], _ => rfl, ok⟩
  have mjoined {k : Nat} {sp : Sp} (ok : FnOk P w K mg base CX0 k f_joined _ ["scans"] sp) : Df P w K mg base "joined" k ["scans"] sp := ⟨_, _, PySem.W.mg_of X G a_joined, Fjoined.kp, Fjoined.binds fun _ _ _ _ _ _ us hl => match us, hl with | [_], _ => rfl, ok⟩
  have mtidy {k : Nat} {sp : Sp} (ok : FnOk P w K mg base CX0 k f_tidy _ ["scans"] sp) : Df P w K mg base "tidy" k ["scans"] sp := ⟨_, _, PySem.W.mg_of X G a_tidy, Ftidy.kp, Ftidy.binds fun _ _ _ _ _ _ us hl => match us, hl with | [_], _ => rfl, ok⟩
  have mturned {k : Nat} {sp : Sp} (ok : FnOk P w K mg base CX0 k f_turned _ ["scans"] sp) : Df P w K mg base "turned" k ["scans"] sp := ⟨_, _, PySem.W.mg_of X G a_turned, Fturned.kp, Fturned.binds fun _ _ _ _ _ _ us hl => match us, hl with | [_], _ => rfl, ok⟩
  have mscan_length {k : Nat} {sp : Sp} (ok : FnOk P w K mg base CX0 k f_scan_length _ ["scan"] sp) : Df P w K mg base "scan_length" k ["scan"] sp := ⟨_, _, PySem.W.mg_of X G a_scan_length, Fscan_length.kp, Fscan_length.binds fun _ _ _ _ _ _ us hl => match us, hl with | [_], _ => rfl, ok⟩
  have mcount_all {k : Nat} {sp : Sp} (ok : FnOk P w K mg base CX0 k f_count_all _ ["scans"] sp) : Df P w K mg base "count_all" k ["scans"] sp := ⟨_, _, PySem.W.mg_of X G a_count_all, Fcount_all.kp, Fcount_all.binds fun _ _ _ _ _ _ us hl => match us, hl with | [_], _ => rfl, ok⟩
  have mcount_addresses {k : Nat} {sp : Sp} (ok : FnOk P w K mg base CX0 k f_count_addresses _ ["scans"] sp) : Df P w K mg base "count_addresses" k ["scans"] sp := ⟨_, _, PySem.W.mg_of X G a_count_addresses, Fcount_addresses.kp, Fcount_addresses.binds fun _ _ _ _ _ _ us hl => match us, hl with | [_], _ => rfl, ok⟩
  have mcheck_address {k : Nat} {sp : Sp} (ok : FnOk P w K mg base CX0 k f_check_address _ ["address"] sp) : Df P w K mg base "check_address" k ["address"] sp := ⟨_, _, PySem.W.mg_of X G a_check_address, Fcheck_address.kp, Fcheck_address.binds fun _ _ _ _ _ _ us hl => match us, hl with | [_], _ => rfl, ok⟩
  have mplace_in {k : Nat} {sp : Sp} (ok : FnOk P w K mg base CX0 k f_place_in _ ["scan", "address"] sp) : Df P w K mg base "place_in" k ["scan", "address"] sp := ⟨_, _, PySem.W.mg_of X G a_place_in, Fplace_in.kp, Fplace_in.binds fun _ _ _ _ _ _ us hl => match us, hl with | [_, _], _ => rfl, ok⟩
  have mplace_of {k : Nat} {sp : Sp} (ok : FnOk P w K mg base CX0 k f_place_of _ ["scans", "address"] sp) : Df P w K mg base "place_of" k ["scans", "address"] sp := ⟨_, _, PySem.W.mg_of X G a_place_of, Fplace_of.kp, Fplace_of.binds fun _ _ _ _ _ _ us hl => match us, hl with | [_, _], _ => rfl, ok⟩
  have mcheck_index {k : Nat} {sp : Sp} (ok : FnOk P w K mg base CX0 k f_check_index _ ["index", "count"] sp) : Df P w K mg base "check_index" k ["index", "count"] sp := ⟨_, _, PySem.W.mg_of X G a_check_index, Fcheck_index.kp, Fcheck_index.binds fun _ _ _ _ _ _ us hl => match us, hl with | [_, _], _ => rfl, ok⟩
  have maddress_in {k : Nat} {sp : Sp} (ok : FnOk P w K mg base CX0 k f_address_in _ ["scan", "place"] sp) : Df P w K mg base "address_in" k ["scan", "place"] sp := ⟨_, _, PySem.W.mg_of X G a_address_in, Faddress_in.kp, Faddress_in.binds fun _ _ _ _ _ _ us hl => match us, hl with | [_, _], _ => rfl, ok⟩
  have mnth_address {k : Nat} {sp : Sp} (ok : FnOk P w K mg base CX0 k f_nth_address _ ["scans", "index"] sp) : Df P w K mg base "nth_address" k ["scans", "index"] sp := ⟨_, _, PySem.W.mg_of X G a_nth_address, Fnth_address.kp, Fnth_address.binds fun _ _ _ _ _ _ us hl => match us, hl with | [_, _], _ => rfl, ok⟩
  have mcheck_from {k : Nat} {sp : Sp} (ok : FnOk P w K mg base CX0 k f_check_from _ ["number", "least"] sp) : Df P w K mg base "check_from" k ["number", "least"] sp := ⟨_, _, PySem.W.mg_of X G a_check_from, Fcheck_from.kp, Fcheck_from.binds fun _ _ _ _ _ _ us hl => match us, hl with | [_, _], _ => rfl, ok⟩
  have mscan_head {k : Nat} {sp : Sp} (ok : FnOk P w K mg base CX0 k f_scan_head _ ["scan", "many"] sp) : Df P w K mg base "scan_head" k ["scan", "many"] sp := ⟨_, _, PySem.W.mg_of X G a_scan_head, Fscan_head.kp, Fscan_head.binds fun _ _ _ _ _ _ us hl => match us, hl with | [_, _], _ => rfl, ok⟩
  have mfirst_of {k : Nat} {sp : Sp} (ok : FnOk P w K mg base CX0 k f_first_of _ ["scans", "many"] sp) : Df P w K mg base "first_of" k ["scans", "many"] sp := ⟨_, _, PySem.W.mg_of X G a_first_of, Ffirst_of.kp, Ffirst_of.binds fun _ _ _ _ _ _ us hl => match us, hl with | [_, _], _ => rfl, ok⟩
  have mfirst_part {k : Nat} {sp : Sp} (ok : FnOk P w K mg base CX0 k f_first_part _ ["scans", "many"] sp) : Df P w K mg base "first_part" k ["scans", "many"] sp := ⟨_, _, PySem.W.mg_of X G a_first_part, Ffirst_part.kp, Ffirst_part.binds fun _ _ _ _ _ _ us hl => match us, hl with | [_, _], _ => rfl, ok⟩
  have mcheck_scan {k : Nat} {sp : Sp} (ok : FnOk P w K mg base CX0 k f_check_scan _ ["scan"] sp) : Df P w K mg base "check_scan" k ["scan"] sp := ⟨_, _, PySem.W.mg_of X G a_check_scan, Fcheck_scan.kp, Fcheck_scan.binds fun _ _ _ _ _ _ us hl => match us, hl with | [_], _ => rfl, ok⟩
  have mfirst_reaching {k : Nat} {sp : Sp} (ok : FnOk P w K mg base CX0 k f_first_reaching _ ["spans", "address"] sp) : Df P w K mg base "first_reaching" k ["spans", "address"] sp := ⟨_, _, PySem.W.mg_of X G a_first_reaching, Ffirst_reaching.kp, Ffirst_reaching.binds fun _ _ _ _ _ _ us hl => match us, hl with | [_, _], _ => rfl, ok⟩
  have mscan_outside {k : Nat} {sp : Sp} (ok : FnOk P w K mg base CX0 k f_scan_outside _ ["scan", "spans"] sp) : Df P w K mg base "scan_outside" k ["scan", "spans"] sp := ⟨_, _, PySem.W.mg_of X G a_scan_outside, Fscan_outside.kp, Fscan_outside.binds fun _ _ _ _ _ _ us hl => match us, hl with | [_, _], _ => rfl, ok⟩
  have mothers_of {k : Nat} {sp : Sp} (ok : FnOk P w K mg base CX0 k f_others_of _ ["scans", "taken"] sp) : Df P w K mg base "others_of" k ["scans", "taken"] sp := ⟨_, _, PySem.W.mg_of X G a_others_of, Fothers_of.kp, Fothers_of.binds fun _ _ _ _ _ _ us hl => match us, hl with | [_, _], _ => rfl, ok⟩
  have mput_ahead {k : Nat} {sp : Sp} (ok : FnOk P w K mg base CX0 k f_put_ahead _ ["scans", "others"] sp) : Df P w K mg base "put_ahead" k ["scans", "others"] sp := ⟨_, _, PySem.W.mg_of X G a_put_ahead, Fput_ahead.kp, Fput_ahead.binds fun _ _ _ _ _ _ us hl => match us, hl with | [_, _], _ => rfl, ok⟩
  have mon_top {k : Nat} {sp : Sp} (ok : FnOk P w K mg base CX0 k f_on_top _ ["scans", "scan"] sp) : Df P w K mg base "on_top" k ["scans", "scan"] sp := ⟨_, _, PySem.W.mg_of X G a_on_top, Fon_top.kp, Fon_top.binds fun _ _ _ _ _ _ us hl => match us, hl with | [_, _], _ => rfl, ok⟩
  have mcheck_interval {k : Nat} {sp : Sp} (ok : FnOk P w K mg base CX0 k f_check_interval _ ["low", "high"] sp) : Df P w K mg base "check_interval" k ["low", "high"] sp := ⟨_, _, PySem.W.mg_of X G a_check_interval, Fcheck_interval.kp, Fcheck_interval.binds fun _ _ _ _ _ _ us hl => match us, hl with | [_, _], _ => rfl, ok⟩
  have mall_without {k : Nat} {sp : Sp} (ok : FnOk P w K mg base CX0 k f_all_without _ ["scans", "low", "high"] sp) : Df P w K mg base "all_without" k ["scans", "low", "high"] sp := ⟨_, _, PySem.W.mg_of X G a_all_without, Fall_without.kp, Fall_without.binds fun _ _ _ _ _ _ us hl => match us, hl with | [_, _, _], _ => rfl, ok⟩
  have mwithout {k : Nat} {sp : Sp} (ok : FnOk P w K mg base CX0 k f_without _ ["scans", "low", "high"] sp) : Df P w K mg base "without" k ["scans", "low", "high"] sp := ⟨_, _, PySem.W.mg_of X G a_without, Fwithout.kp, Fwithout.binds fun _ _ _ _ _ _ us hl => match us, hl with | [_, _, _], _ => rfl, ok⟩
  have m_law_joined {k : Nat} {sp : Sp} (ok : FnOk P w K mg base CX0 k f__law_joined _ ["scans"] sp) : Df P w K mg base "_law_joined" k ["scans"] sp := ⟨_, _, PySem.W.mg_of X G a__law_joined, F_law_joined.kp, F_law_joined.binds fun _ _ _ _ _ _ us hl => match us, hl with | [_], _ => rfl, ok⟩
  have m_law_within {k : Nat} {sp : Sp} (ok : FnOk P w K mg base CX0 k f__law_within _ ["scan", "low", "high"] sp) : Df P w K mg base "_law_within" k ["scan", "low", "high"] sp := ⟨_, _, PySem.W.mg_of X G a__law_within, F_law_within.kp, F_law_within.binds fun _ _ _ _ _ _ us hl => match us, hl with | [_, _, _], _ => rfl, ok⟩
  have m_law_cut {k : Nat} {sp : Sp} (ok : FnOk P w K mg base CX0 k f__law_cut _ ["scans", "low", "high"] sp) : Df P w K mg base "_law_cut" k ["scans", "low", "high"] sp := ⟨_, _, PySem.W.mg_of X G a__law_cut, F_law_cut.kp, F_law_cut.binds fun _ _ _ _ _ _ us hl => match us, hl with | [_, _, _], _ => rfl, ok⟩
  have m_law_first {k : Nat} {sp : Sp} (ok : FnOk P w K mg base CX0 k f__law_first _ ["scans", "many"] sp) : Df P w K mg base "_law_first" k ["scans", "many"] sp := ⟨_, _, PySem.W.mg_of X G a__law_first, F_law_first.kp, F_law_first.binds fun _ _ _ _ _ _ us hl => match us, hl with | [_, _], _ => rfl, ok⟩
  have m_law_marks {k : Nat} {sp : Sp} (ok : FnOk P w K mg base CX0 k f__law_marks _ ["bag", "scans"] sp) : Df P w K mg base "_law_marks" k ["bag", "scans"] sp := ⟨_, _, PySem.W.mg_of X G a__law_marks, F_law_marks.kp, F_law_marks.binds fun _ _ _ _ _ _ us hl => match us, hl with | [_, _], _ => rfl, ok⟩
  have m_law_right {k : Nat} {sp : Sp} (ok : FnOk P w K mg base CX0 k f__law_right _ ["bag", "scans"] sp) : Df P w K mg base "_law_right" k ["bag", "scans"] sp := ⟨_, _, PySem.W.mg_of X G a__law_right, F_law_right.kp, F_law_right.binds fun _ _ _ _ _ _ us hl => match us, hl with | [_, _], _ => rfl, ok⟩
  have R__law_bag := m_law_bag (ok_bag B.toBt F_law_bag)
  have R__law_pick := m_law_pick (ok_pick B.toBt F_law_pick)
  have R__law_mixed := m_law_mixed (ok_mixed B.toBt R__law_pick F_law_mixed)
  have R__law_list := m_law_list (ok_listW B.toBt R__law_pick R__law_mixed F_law_list)
  have R__law_size := m_law_size (ok_lsize B.toBt F_law_size)
  have R_is_integer := mis_integer (ok_is_integer B.toBt Fis_integer)
  have R_is_from_zero := mis_from_zero (ok_is_from_zero R_is_integer Fis_from_zero)
  have R_is_scan := mis_scan (ok_is_scan B.toBt R_is_from_zero Fis_scan)
  have R_is_list := mis_list (ok_is_list B.toBt R_is_scan Fis_list)
  have R_check_list := mcheck_list (ok_check_list R_is_list Fcheck_list)
  have R_joined := mjoined (ok_joined B.toBt Fjoined)
  have R_tidy := mtidy (ok_tidy R_check_list R_joined Ftidy)
  have R_turned := mturned (ok_turned (PySem.W.mg_none_of X G z_reversed) R_check_list R_joined Fturned)
  have R_scan_length := mscan_length (ok_scan_length B.toBt Fscan_length)
  have R_count_all := mcount_all (ok_count_all B.toBt R_scan_length Fcount_all)
  have R_count_addresses := mcount_addresses (ok_count B.toBt R_check_list R_count_all Fcount_addresses)
  have R_check_address := mcheck_address (ok_check_address R_is_from_zero Fcheck_address)
  have R_place_in := mplace_in (ok_place_in B.toBt Fplace_in)
  have R_place_of := mplace_of (ok_place_of B.toBt R_check_list R_check_address R_place_in R_scan_length Fplace_of)
  have R_check_index := mcheck_index (ok_check_index R_is_from_zero Fcheck_index)
  have R_address_in := maddress_in (ok_address_in Faddress_in)
  have R_nth_address := mnth_address (ok_nth B.toBt R_check_index R_count_addresses R_address_in R_scan_length Fnth_address)
  have R_check_from := mcheck_from (ok_check_from R_is_integer Fcheck_from)
  have R_scan_head := mscan_head (ok_scan_head B.toBt R_scan_length R_address_in Fscan_head)
  have R_first_of := mfirst_of (ok_first_of R_scan_head R_scan_length Ffirst_of)
  have R_first_part := mfirst_part (ok_first_part R_check_list R_check_from R_first_of R_joined Ffirst_part)
  have R_check_scan := mcheck_scan (ok_check_scan R_is_scan Fcheck_scan)
  have R_first_reaching := mfirst_reaching (ok_first_reaching B.toBt Ffirst_reaching)
  have R_scan_outside := mscan_outside (ok_scan_outside B.toBt (PySem.W.mg_none_of X G z_reversed) R_first_reaching Fscan_outside)
  have R_others_of := mothers_of (ok_others_of B.toBt R_scan_outside Fothers_of)
  have R_put_ahead := mput_ahead (ok_put_ahead R_others_of R_joined Fput_ahead)
  have R_on_top := mon_top (ok_on_top R_check_list R_check_scan R_put_ahead Fon_top)
  have R_check_interval := mcheck_interval (ok_check_interval R_is_from_zero Fcheck_interval)
  have R_all_without := mall_without (ok_all_without R_others_of Fall_without)
  have R_without := mwithout (ok_without R_check_list R_check_interval R_all_without R_joined Fwithout)
  have R__law_joined := m_law_joined (ok_law_joined B.toBt F_law_joined)
  have R__law_within := m_law_within (ok_within B.toBt F_law_within)
  have R__law_cut := m_law_cut (ok_lcut B.toBt R__law_within F_law_cut)
  have R__law_first := m_law_first (ok_lfirst B.toBt R__law_size F_law_first)
  have R__law_marks := m_law_marks (ok_marks B.toBt R__law_pick R__law_size F_law_marks)
  have R__law_right := m_law_right (ok_right4 B R__law_pick R__law_size R_tidy R_turned R_count_addresses R_place_of R_nth_address R_first_part R_on_top R_without R__law_joined R__law_cut R__law_first R__law_marks F_law_right)
  exact ok_law4 B R__law_bag R__law_pick R__law_list R__law_right Flaw
end Kb
open PySem PySem.W PyProof.Rows
set_option maxHeartbeats 0 in
theorem PySem.Challenge.cw_scanmisses_k04_great_lists_holds : PySem.Challenge.rw_scanmisses_k04_great_lists.Holds := by
  w_on; o_law; k_head; (case hw => w_witness2)
  k_fill
  refine L2.walk_of (l := PySem.Challenge.rw_scanmisses_k04_great_lists) (n := 63) (k := 9) (x := "script") (CX := fun _ => L2.CX0) (sp := fun w => Kb.spLaw _) rfl (by decide) rfl ⟨rfl, by decide, by decide⟩ (fun w h Y => PySem.W.kIn_of Y) ?F (fun _ _ a ns hl _ hS => ⟨a, ns, rfl, hS, hl, fun _ => rfl⟩) (fun _ _ _ _ _ h => h)
  case F =>
    intro w mg fa h KX G hmg
    refine' Kb.all_mk KX G hmg ?a__law_bag ?l__law_bag ?c__law_bag ?k__law_bag ?a__law_pick ?l__law_pick ?c__law_pick ?k__law_pick ?a__law_mixed ?l__law_mixed ?c__law_mixed ?k__law_mixed ?a__law_list ?l__law_list ?c__law_list ?k__law_list ?a__law_size ?l__law_size ?c__law_size ?k__law_size ?a_is_integer ?l_is_integer ?c_is_integer ?k_is_integer ?a_is_from_zero ?l_is_from_zero ?c_is_from_zero ?k_is_from_zero ?a_is_scan ?l_is_scan ?c_is_scan ?k_is_scan ?a_is_list ?l_is_list ?c_is_list ?k_is_list ?a_check_list ?l_check_list ?c_check_list ?k_check_list ?a_joined ?l_joined ?c_joined ?k_joined ?a_tidy ?l_tidy ?c_tidy ?k_tidy ?a_turned ?l_turned ?c_turned ?k_turned ?a_scan_length ?l_scan_length ?c_scan_length ?k_scan_length ?a_count_all ?l_count_all ?c_count_all ?k_count_all ?a_count_addresses ?l_count_addresses ?c_count_addresses ?k_count_addresses ?a_check_address ?l_check_address ?c_check_address ?k_check_address ?a_place_in ?l_place_in ?c_place_in ?k_place_in ?a_place_of ?l_place_of ?c_place_of ?k_place_of ?a_check_index ?l_check_index ?c_check_index ?k_check_index ?a_address_in ?l_address_in ?c_address_in ?k_address_in ?a_nth_address ?l_nth_address ?c_nth_address ?k_nth_address ?a_check_from ?l_check_from ?c_check_from ?k_check_from ?a_scan_head ?l_scan_head ?c_scan_head ?k_scan_head ?a_first_of ?l_first_of ?c_first_of ?k_first_of ?a_first_part ?l_first_part ?c_first_part ?k_first_part ?a_check_scan ?l_check_scan ?c_check_scan ?k_check_scan ?a_first_reaching ?l_first_reaching ?c_first_reaching ?k_first_reaching ?a_scan_outside ?l_scan_outside ?c_scan_outside ?k_scan_outside ?a_others_of ?l_others_of ?c_others_of ?k_others_of ?a_put_ahead ?l_put_ahead ?c_put_ahead ?k_put_ahead ?a_on_top ?l_on_top ?c_on_top ?k_on_top ?a_check_interval ?l_check_interval ?c_check_interval ?k_check_interval ?a_all_without ?l_all_without ?c_all_without ?k_all_without ?a_without ?l_without ?c_without ?k_without ?a__law_joined ?l__law_joined ?c__law_joined ?k__law_joined ?a__law_within ?l__law_within ?c__law_within ?k__law_within ?a__law_cut ?l__law_cut ?c__law_cut ?k__law_cut ?a__law_first ?l__law_first ?c__law_first ?k__law_first ?a__law_marks ?l__law_marks ?c__law_marks ?k__law_marks ?a__law_right ?l__law_right ?c__law_right ?k__law_right ?a_law ?l_law ?c_law ?k_law ?z_len ?z_abs ?z_max ?z_min ?z_sum ?z_all ?z_repr ?z_sorted ?z_isinstance ?z_int ?z_bool ?z_list ?z_tuple ?z_set ?z_range ?z_zip ?z_str ?z_enumerate ?z_reversed
    (case a__law_bag => k_is)
    (case l__law_bag => k_is)
    (case c__law_bag => k_is)
    (case k__law_bag => k_is)
    (case a__law_pick => k_is)
    (case l__law_pick => k_is)
    (case c__law_pick => k_is)
    (case k__law_pick => k_is)
    (case a__law_mixed => k_is)
    (case l__law_mixed => k_is)
    (case c__law_mixed => k_is)
    (case k__law_mixed => k_is)
    (case a__law_list => k_is)
    (case l__law_list => k_is)
    (case c__law_list => k_is)
    (case k__law_list => k_is)
    (case a__law_size => k_is)
    (case l__law_size => k_is)
    (case c__law_size => k_is)
    (case k__law_size => k_is)
    (case a_is_integer => k_is)
    (case l_is_integer => k_is)
    (case c_is_integer => k_is)
    (case k_is_integer => k_is)
    (case a_is_from_zero => k_is)
    (case l_is_from_zero => k_is)
    (case c_is_from_zero => k_is)
    (case k_is_from_zero => k_is)
    (case a_is_scan => k_is)
    (case l_is_scan => k_is)
    (case c_is_scan => k_is)
    (case k_is_scan => k_is)
    (case a_is_list => k_is)
    (case l_is_list => k_is)
    (case c_is_list => k_is)
    (case k_is_list => k_is)
    (case a_check_list => k_is)
    (case l_check_list => k_is)
    (case c_check_list => k_is)
    (case k_check_list => k_is)
    (case a_joined => k_is)
    (case l_joined => k_is)
    (case c_joined => k_is)
    (case k_joined => k_is)
    (case a_tidy => k_is)
    (case l_tidy => k_is)
    (case c_tidy => k_is)
    (case k_tidy => k_is)
    (case a_turned => k_is)
    (case l_turned => k_is)
    (case c_turned => k_is)
    (case k_turned => k_is)
    (case a_scan_length => k_is)
    (case l_scan_length => k_is)
    (case c_scan_length => k_is)
    (case k_scan_length => k_is)
    (case a_count_all => k_is)
    (case l_count_all => k_is)
    (case c_count_all => k_is)
    (case k_count_all => k_is)
    (case a_count_addresses => k_is)
    (case l_count_addresses => k_is)
    (case c_count_addresses => k_is)
    (case k_count_addresses => k_is)
    (case a_check_address => k_is)
    (case l_check_address => k_is)
    (case c_check_address => k_is)
    (case k_check_address => k_is)
    (case a_place_in => k_is)
    (case l_place_in => k_is)
    (case c_place_in => k_is)
    (case k_place_in => k_is)
    (case a_place_of => k_is)
    (case l_place_of => k_is)
    (case c_place_of => k_is)
    (case k_place_of => k_is)
    (case a_check_index => k_is)
    (case l_check_index => k_is)
    (case c_check_index => k_is)
    (case k_check_index => k_is)
    (case a_address_in => k_is)
    (case l_address_in => k_is)
    (case c_address_in => k_is)
    (case k_address_in => k_is)
    (case a_nth_address => k_is)
    (case l_nth_address => k_is)
    (case c_nth_address => k_is)
    (case k_nth_address => k_is)
    (case a_check_from => k_is)
    (case l_check_from => k_is)
    (case c_check_from => k_is)
    (case k_check_from => k_is)
    (case a_scan_head => k_is)
    (case l_scan_head => k_is)
    (case c_scan_head => k_is)
    (case k_scan_head => k_is)
    (case a_first_of => k_is)
    (case l_first_of => k_is)
    (case c_first_of => k_is)
    (case k_first_of => k_is)
    (case a_first_part => k_is)
    (case l_first_part => k_is)
    (case c_first_part => k_is)
    (case k_first_part => k_is)
    (case a_check_scan => k_is)
    (case l_check_scan => k_is)
    (case c_check_scan => k_is)
    (case k_check_scan => k_is)
    (case a_first_reaching => k_is)
    (case l_first_reaching => k_is)
    (case c_first_reaching => k_is)
    (case k_first_reaching => k_is)
    (case a_scan_outside => k_is)
    (case l_scan_outside => k_is)
    (case c_scan_outside => k_is)
    (case k_scan_outside => k_is)
    (case a_others_of => k_is)
    (case l_others_of => k_is)
    (case c_others_of => k_is)
    (case k_others_of => k_is)
    (case a_put_ahead => k_is)
    (case l_put_ahead => k_is)
    (case c_put_ahead => k_is)
    (case k_put_ahead => k_is)
    (case a_on_top => k_is)
    (case l_on_top => k_is)
    (case c_on_top => k_is)
    (case k_on_top => k_is)
    (case a_check_interval => k_is)
    (case l_check_interval => k_is)
    (case c_check_interval => k_is)
    (case k_check_interval => k_is)
    (case a_all_without => k_is)
    (case l_all_without => k_is)
    (case c_all_without => k_is)
    (case k_all_without => k_is)
    (case a_without => k_is)
    (case l_without => k_is)
    (case c_without => k_is)
    (case k_without => k_is)
    (case a__law_joined => k_is)
    (case l__law_joined => k_is)
    (case c__law_joined => k_is)
    (case k__law_joined => k_is)
    (case a__law_within => k_is)
    (case l__law_within => k_is)
    (case c__law_within => k_is)
    (case k__law_within => k_is)
    (case a__law_cut => k_is)
    (case l__law_cut => k_is)
    (case c__law_cut => k_is)
    (case k__law_cut => k_is)
    (case a__law_first => k_is)
    (case l__law_first => k_is)
    (case c__law_first => k_is)
    (case k__law_first => k_is)
    (case a__law_marks => k_is)
    (case l__law_marks => k_is)
    (case c__law_marks => k_is)
    (case k__law_marks => k_is)
    (case a__law_right => k_is)
    (case l__law_right => k_is)
    (case c__law_right => k_is)
    (case k__law_right => k_is)
    (case a_law => k_is)
    (case l_law => k_is)
    (case c_law => k_is)
    (case k_law => k_is)
    (case z_len => k_is)
    (case z_abs => k_is)
    (case z_max => k_is)
    (case z_min => k_is)
    (case z_sum => k_is)
    (case z_all => k_is)
    (case z_repr => k_is)
    (case z_sorted => k_is)
    (case z_isinstance => k_is)
    (case z_int => k_is)
    (case z_bool => k_is)
    (case z_list => k_is)
    (case z_tuple => k_is)
    (case z_set => k_is)
    (case z_range => k_is)
    (case z_zip => k_is)
    (case z_str => k_is)
    (case z_enumerate => k_is)
    (case z_reversed => k_is)
