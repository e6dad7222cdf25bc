import PyProof.Rows.All
import Wide.All
import OpenK.AllK
import Wide.FinOn
import PyProof.EqAt
import PyProof.EqKinds
import PyProof.TupleCall
import HandS.ForMost
import HandS.Conv
import HandS.Style
import HandS.Wide
import HandS.Strs
import HandS.SetFor
import HandS.SortRule
import HandS.SortInts
import HandS.IsInst
import HandS.RaiseMore
import HandS.EndBits
import HandS.Property
import HandS.Star
import HandS.Walk
import HandS.Dict
import HandS.Iter
import HandS.FStr
import HandS.StrMore
import HandS.TupAny
import PyProof.InstNe
import KE.KOpsOwn
import PyProof.StrOps2
import HandS.Rev
import KE.GoesMore
import KE.GoesEnum
import HandS.Flow
import KE.KDictSum
import HandS.Zip
import PySem.Challenge.RW_scanmisses_k64_whole_texts_and_operators
set_option Elab.async false
set_option linter.all false
set_option maxRecDepth 100000
set_option maxHeartbeats 4000000
namespace Kb
open PySem PySem.Spec PyProof.Rows L2

/-! ### heaps that grow -/
def Ex (H H' : Hp) : Prop := ∀ a o, H a = some o → H' a = some o
theorem Ex.refl (H : Hp) : Ex H H := fun _ _ h => h
theorem Ex.trans {H H1 H2 : Hp} (a : Ex H H1) (b : Ex H1 H2) : Ex H H2 := fun x o h => b x o (a x o h)
theorem Ex.new {H : Hp} {p : Addr} {o : HO} (h : H p = none) : Ex H (upd H p o) := fun a u e => by
  rw [upd_ne (ne_of_none e h)]
  exact e
theorem Ex.mut {H H' : Hp} {p : Addr} {o : HO} (e : Ex H H') (h : H p = none) : Ex H (upd H' p o) := fun a u ha => by
  rw [upd_ne (ne_of_none ha h)]
  exact e a u ha
theorem Ex.add {H H' : Hp} {p : Addr} {o : HO} (e : Ex H H') (h : H' p = none) : Ex H (upd H' p o) := e.trans (Ex.new h)
theorem Ex.back {H H' : Hp} {p : Addr} (e : Ex H H') (h : H' p = none) : H p = none := by
  cases h1 : H p with
  | none => rfl
  | some o =>
    rw [e p o h1] at h
    cases h

/-! ### a def that is there -/
structure Df (P : Program) (w : World) (K : PySem.W.Frag) (mg : Str → Option Value) (base : Heap) (x : Str) (k : Nat) (ps : List Str) (sp : Sp) : Prop where
  ex : ∃ f fd, mg x = some (.ref f) ∧ PySem.W.keepIn K (.ref f) = true ∧ Binds K fd ps [] ∧ FnOk P w K mg base CX0 k f fd ps sp
theorem pe_df {X : Cx} {x : Str} {k k' : Nat} {ps : List Str} {sp : Sp} {p pos : Pos} {e : Expr} {es : List Expr} {t : TA} (D : Df X.prog X.w X.K X.mg X.base x k ps sp) (hr : Room k' X.A) (ha : PA X (e :: es) t) (hk : k ≤ k' := by decide) (hg : Gl X x := by rfl)
    (hdb : (x == ("__debug__" : Str)) = false := by decide) (he : starEach (e :: es) X.env = (false, eval e X.env) :: starEach es X.env := by rfl) (hpl : (backTo pos (starEach es X.env)).any (·.1) = false := by rfl) :
    PE X (.Call (.Name x p) (e :: es) [] pos) (tCall sp [] E0 t) := by
  obtain ⟨f, fd, h1, h2, h3, h4⟩ := D.ex
  exact pe_call h4 (hr.mono hk) hg h1 h2 h3 .nil pass0 ha hdb he hpl
/-- what a def hands back: this value, and the heap has grown -/
def RetV (v : V) (H : Hp) (Q : VK) : Prop := ∀ H', Ex H H' → Q v H'
theorem RetV.go {v : V} {H H' : Hp} {Q : VK} (k : RetV v H Q) (e : Ex H H') : Q v H' := k H' e

/-! ### pairs, lists of pairs -/
abbrev Sc := Int × Int
def IsSc (H : Hp) (v : V) (s : Sc) : Prop := ∃ t, v = .ref t ∧ H t = some (.tup [.int s.1, .int s.2])
theorem IsSc.mono {H H' : Hp} {v : V} {s : Sc} (e : Ex H H') (h : IsSc H v s) : IsSc H' v s := by
  obtain ⟨t, h1, h2⟩ := h
  exact ⟨t, h1, e _ _ h2⟩
theorem Pa.mono {H H' : Hp} (e : Ex H H') : ∀ {vs : List V} {ss : List Sc}, Paired (IsSc H) vs ss → Paired (IsSc H') vs ss
  | _, _, .nil => .nil
  | _, _, .cons h t => .cons (h.mono e) (Pa.mono e t)
theorem Pa.len {H : Hp} : ∀ {vs : List V} {ss : List Sc}, Paired (IsSc H) vs ss → vs.length = ss.length
  | _, _, .nil => rfl
  | _, _, .cons h t => congrArg (· + 1) (Pa.len t)
theorem Pa.get {H : Hp} : ∀ {vs : List V} {ss : List Sc} {i : Nat} {v : V}, Paired (IsSc H) vs ss → vs[i]? = some v → ∃ s, ss[i]? = some s ∧ IsSc H v s
  | _, _, i, v, .nil, e => by simp at e
  | _, _, 0, v, .cons h t, e => by
    cases e
    exact ⟨_, rfl, h⟩
  | _, _, i + 1, v, .cons h t, e => Pa.get (i := i) t e
theorem Pa.get2 {H : Hp} : ∀ {vs : List V} {ss : List Sc} {i : Nat} {s : Sc}, Paired (IsSc H) vs ss → ss[i]? = some s → ∃ v, vs[i]? = some v ∧ IsSc H v s
  | _, _, i, s, .nil, e => by simp at e
  | _, _, 0, s, .cons h t, e => by
    cases e
    exact ⟨_, rfl, h⟩
  | _, _, i + 1, s, .cons h t, e => Pa.get2 (i := i) t e
theorem Pa.app {H : Hp} : ∀ {vs us : List V} {ss ts : List Sc}, Paired (IsSc H) vs ss → Paired (IsSc H) us ts → Paired (IsSc H) (vs ++ us) (ss ++ ts)
  | _, _, _, _, .nil, b => b
  | _, _, _, _, .cons h t, b => .cons h (Pa.app t b)
theorem Pa.rev {H : Hp} : ∀ {vs : List V} {ss : List Sc}, Paired (IsSc H) vs ss → Paired (IsSc H) vs.reverse ss.reverse
  | _, _, .nil => .nil
  | _, _, .cons h t => by
    rw [List.reverse_cons, List.reverse_cons]
    exact Pa.app (Pa.rev t) (.cons h .nil)
def Scs (H : Hp) (a : Addr) (ss : List Sc) : Prop := ∃ vs, H a = some (.lst vs) ∧ Paired (IsSc H) vs ss
theorem Scs.mono {H H' : Hp} {a : Addr} {ss : List Sc} (e : Ex H H') (h : Scs H a ss) : Scs H' a ss := by
  obtain ⟨vs, h1, h2⟩ := h
  exact ⟨vs, e _ _ h1, Pa.mono e h2⟩

/-! ### a bag: a list of three ints that is not looked into from outside -/
def bagP (b : Addr) (h : Heap) : Prop := ∃ (x c t : Int) (its : List Value) (n : Nat), Vals [V.int x, V.int c, V.int t] its ∧ h.get? b = some { cls := .type "list", data := .seq its.toArray n }
def bagO (b : Addr) : HO := .ext (bagP b)
theorem bag_ok {P : Program} {w : World} {H H1 : Hp} {h : Heap} {b : Addr} {x c t : Int} (e : ObjOk P w H h b (.lst [.int x, .int c, .int t])) : ObjOk P w H1 h b (bagO b) := by
  obtain ⟨_, its, n, r, g⟩ := e
  exact ⟨⟨x, c, t, its, n, r, g⟩, ⟨_, g⟩, fun h1 h2 p k => by
    obtain ⟨x, c, t, its, n, r, g⟩ := p
    exact ⟨x, c, t, its, n, r, k _ g⟩⟩
theorem bag_open {P : Program} {w : World} {H : Hp} {h : Heap} {b : Addr} (ok : HOk P w H h) (e : H b = some (bagO b)) : ∃ x c t : Int, HOk P w (upd H b (.lst [.int x, .int c, .int t])) h := by
  obtain ⟨⟨x, c, t, its, n, r, g⟩, _, _⟩ : ObjOk P w H h b (.ext (bagP b)) := ok b _ e
  refine ⟨x, c, t, fun a o q => ?_⟩
  by_cases hb : a = b
  · subst hb
    rw [upd_same] at q
    cases q
    exact ⟨by show 3 ≤ sizeLine; decide, its, n, r, g⟩
  · rw [upd_ne hb] at q
    refine (ok a o q).stay (fun _ _ _ z => z) (fun d z => ?_) fun d xs z => ?_
    · rw [upd_ne]
      · exact z
      · intro y
        rw [y, e] at z
        cases (show HO.ext (bagP b) = .own a from Option.some.inj z)
    · rw [upd_ne]
      · exact z
      · intro y
        rw [y, e] at z
        cases (show HO.ext (bagP b) = .tup xs from Option.some.inj z)
theorem bag_close {P : Program} {w : World} {H : Hp} {h : Heap} {b : Addr} {x c t : Int} (ok : HOk P w H h) (e : H b = some (.lst [.int x, .int c, .int t])) : HOk P w (upd H b (bagO b)) h := fun a o q => by
  by_cases hb : a = b
  · subst hb
    rw [upd_same] at q
    cases q
    exact bag_ok (ok a _ e)
  · rw [upd_ne hb] at q
    refine (ok a o q).stay (fun _ _ _ z => z) (fun d z => ?_) fun d xs z => ?_
    · rw [upd_ne]
      · exact z
      · intro y
        rw [y, e] at z
        cases z
    · rw [upd_ne]
      · exact z
      · intro y
        rw [y, e] at z
        cases z
/-- a promise about a list of three ints, said of a bag -/
theorem bag_fn {P : Program} {w : World} {K : PySem.W.Frag} {mg : Str → Option Value} {base : Heap} {k : Nat} {f : Addr} {fd : FuncData} {ps : List Str} {sp sp' : Sp} (F : FnOk P w K mg base CX0 k f fd ps sp)
    (h : ∀ vs H Q E, sp' vs H Q E → vs.length = ps.length ∧ ∃ b, H b = some (bagO b) ∧ ∀ x c t : Int, sp vs (upd H b (.lst [.int x, .int c, .int t])) (fun v H2 => ∃ x c t : Int, H2 b = some (.lst [.int x, .int c, .int t]) ∧ Q v (upd H2 b (bagO b))) E) :
    FnOk P w K mg base CX0 k f fd ps sp' := by
  refine ⟨fun vs H Q E q => (h _ _ _ _ q).1, fun A outer s H args us vs Q E hr he hb hv hs => ?_⟩
  obtain ⟨_, b, eb, q⟩ := h _ _ _ _ hs
  obtain ⟨x, c, t, ok⟩ := bag_open he.hok eb
  have ne : ∀ {d : Addr}, H d = none → d ≠ b := fun {d} n z => by
    rw [z, eb] at n
    cases n
  have e2 : Env0 P w K mg base A outer s (upd H b (.lst [.int x, .int c, .int t])) :=
    ⟨he.frames, he.mod, fun d o z => ⟨(he.bs d o z).1, by rw [upd_ne (ne (he.bs d o z).2)]; exact (he.bs d o z).2⟩, he.bsz, he.funs, fun d z => by rw [upd_ne (ne (he.frf d z))]; exact he.frf d z, ok, he.bare⟩
  refine codeAny_mono (F.run A outer s _ args us vs _ E hr e2 hb hv (q x c t)) fun r s' hq => ?_
  cases r with
  | error e => exact hq
  | ok fl =>
    cases fl with
    | next => exact hq
    | brk => exact hq
    | cont => exact hq
    | ret u =>
      obtain ⟨v, H2, os, bare, un, hok, r, x', c', t', e3, q3⟩ := hq
      have ne2 : ∀ {d : Addr}, H2 d = none → d ≠ b := fun {d} n z => by
        rw [z, e3] at n
        cases n
      have nb : ∀ {d : Addr} {o : HO}, H d = some o → o ≠ bagO b → d ≠ b := fun {d o} z y e => by
        rw [e, eb] at z
        exact y (Option.some.inj z).symm
      refine ⟨v, _, os, bare, ?_, bag_close hok e3, r, q3⟩
      exact {
        keep := fun d o g n hf hx => un.keep d o g (by rw [upd_ne (ne n)]; exact n) hf hx
        slot := fun d o g n hf hx => un.slot d o g (by rw [upd_ne (ne n)]; exact n) hf hx
        free := fun d o g n hx => by
          have y := un.free d o g (by rw [upd_ne (ne n)]; exact n) hx
          rw [upd_ne (ne2 y)]
          exact y
        there := fun d o g hx => un.there d o g hx
        tups := fun d xs z => by
          have y : d ≠ b := nb z (by intro q; cases (show HO.tup xs = HO.ext (bagP b) from q))
          rw [upd_ne y]
          exact un.tups d xs (by rw [upd_ne y]; exact z)
        frzs := fun d o u z => by
          have y : d ≠ b := nb z (by intro q; cases (show HO.frz o u = HO.ext (bagP b) from q))
          rw [upd_ne y]
          exact un.frzs d o u (by rw [upd_ne y]; exact z)
        tbls := fun d xs z => by
          have y : d ≠ b := nb z (by intro q; cases (show HO.tbl xs = HO.ext (bagP b) from q))
          rw [upd_ne y]
          exact un.tbls d xs (by rw [upd_ne y]; exact z) }
end Kb

namespace Kb
open PySem PySem.Spec PyProof.Rows L2

/-! ### a bag that is made -/
theorem bag_new {P : Program} {w : World} {K : PySem.W.Frag} {mg : Str → Option Value} {base : Heap} {k : Nat} {f : Addr} {fd : FuncData} {ps : List Str} {sp sp' : Sp} (F : FnOk P w K mg base CX0 k f fd ps sp)
    (h : ∀ vs H Q E, sp' vs H Q E → vs.length = ps.length ∧ sp vs H (fun v H2 => ∃ (b : Addr) (x c t : Int), v = .ref b ∧ H b = none ∧ H2 b = some (.lst [.int x, .int c, .int t]) ∧ Q v (upd H2 b (bagO b))) E) :
    FnOk P w K mg base CX0 k f fd ps sp' := by
  refine ⟨fun vs H Q E q => (h _ _ _ _ q).1, fun A outer s H args us vs Q E hr he hb hv hs => ?_⟩
  refine codeAny_mono (F.run A outer s _ args us vs _ E hr he hb hv (h _ _ _ _ hs).2) fun r s' hq => ?_
  cases r with
  | error e => exact hq
  | ok fl =>
    cases fl with
    | next => exact hq
    | brk => exact hq
    | cont => exact hq
    | ret u =>
      obtain ⟨v, H2, os, bare, un, hok, r, b, x', c', t', ev, e0, e3, q3⟩ := hq
      have ne2 : ∀ {d : Addr}, H2 d = none → d ≠ b := fun {d} n z => by
        rw [z, e3] at n
        cases n
      refine ⟨v, _, os, bare, ?_, bag_close hok e3, r, q3⟩
      exact {
        keep := un.keep
        slot := un.slot
        free := fun d o g n hx => by
          have y := un.free d o g n hx
          rw [upd_ne (ne2 y)]
          exact y
        there := un.there
        tups := fun d xs z => by
          rw [upd_ne (ne_of_none z e0)]
          exact un.tups d xs z
        frzs := fun d o u z => by
          rw [upd_ne (ne_of_none z e0)]
          exact un.frzs d o u z
        tbls := fun d xs z => by
          rw [upd_ne (ne_of_none z e0)]
          exact un.tbls d xs z }

/-! ### set(xs), xs a list of ints -/
section
variable {P : Program} {w : World} {A : Around} {E : Value → Shared → Prop} {s : Shared}
abbrev bare0 (w : World) : Obj := { cls := .type "set", dict := none, data := .set #[] 0 (.fresh 0 0 (!w.params.followText "set-order")) }
abbrev with0 (w : World) (s : Shared) : Shared := { s with heap := s.heap.push (bare0 w) }
set_option maxHeartbeats 6400000 in
theorem set_of_list {l : Addr} {its : Array Value} (ns : List Int) {Q : Value → Shared → Prop} (ah : A.handled = none) (hl : s.heap.IsList l its) (ia : IntsAre its.toList ns) (room : ns.length + 1 < scanBound)
    (h : ∀ (g : Heap) (tk c : Nat), SetR w g s.heap.objs.size (fun j => decide (j ∈ ns)) c → c ≤ ns.length → (∀ b o, s.heap.get? b = some o → g.get? b = some o) → Q (.ref s.heap.objs.size) { s with heap := g, toks := tk }) :
    wpAny (model P w) A (call (.type "set") [.ref l]) Q E s := by
  have sz : its.size = ns.length := by
    have q := IntsAre.length ia
    rwa [Array.length_toList] at q
  obtain ⟨c0, tl0, mro0⟩ := F.called_set.mro
  have m1 := F.called_set.made
  have m2 := F.called_set.sub
  refine wpAny_call (codeAny_of_tree (show wpAny _ _ (callAny (.type "set") _) _ _ _ from wpAny_pure ⟨Code.quiet_builtin _ (by decide +kernel), codeAny_builtin F.entry_type_call ?_⟩))
  rw [Around.under_plain (weight_type_call_type "set" [.ref l] []) rfl]
  have m3 := F.called_set.notType
  have m4 := F.called_set.canCreate
  have m5 := F.typeCall_set_1 (.ref l)
  repeat (any_goals (first | assumption | wp_step))
  refine codeAny_mono (code_set_led1 (.ref l) (E := E) (Q₁ := fun ob s1 => ob = .ref s.heap.objs.size ∧ s1 = with0 w s) ⟨rfl, rfl⟩) fun r s1 hr => ?_
  cases r with
  | error e => exact hr
  | ok fl =>
    cases fl with
    | ret obj =>
      obtain ⟨rfl, rfl⟩ := hr
      have gS : (s.heap.push (bare0 w)).get? s.heap.objs.size = some (bare0 w) := Heap.get?_push_size _ rfl
      have tS : Shared.TypeIs (with0 w s) (.ref s.heap.objs.size) "set" := ⟨_, gS, rfl⟩
      have n1 := F.called_set.init.lookup
      have n2 := F.called_set.init.bind (.ref s.heap.objs.size)
      repeat (any_goals (first | assumption | wp_step))
      refine codeAny_mono (codeAny_call_builtin (R := wants (fun r s2 => r = .none ∧ ∃ g tk c, s2 = { s with heap := g, toks := tk } ∧ SetR w g s.heap.objs.size (fun j => decide (j ∈ ns)) c ∧ c ≤ ns.length ∧
          ∀ b o, s.heap.get? b = some o → g.get? b = some o) E) F.called_set.init.plain F.entry_set_init (check_set_init_1 tS ?_)) fun r2 s2 hr2 => ?_
      · obtain ⟨ol, gl, hcl, nl, hdl⟩ := hl
        obtain ⟨ocls, odict, odata, oslots⟩ := ol
        simp only at hcl hdl
        subst hcl
        subst hdl
        have gl2 : (s.heap.push (bare0 w)).get? l = some { cls := .type "list", dict := odict, data := .seq its nl, slots := oslots } := Heap.get?_push_of_some _ gl
        have k1 := F.sub_list_set
        have k2 := F.sub_list_frozenset
        have k3 : (Value.type "list" == Value.type "dict") = false := by decide
        have il : (s.heap.push (bare0 w)).IsList l its := ⟨_, gl2, rfl, nl, rfl⟩
        unfold Builtin.«set.__init__» noKeywords Builtin.Frozenset.updateFrom
        generalize eP : pyIter = PI
        wp_walk
        subst eP
        refine wpAny_pyIter_list il (wpAny_bind (wpAny_runValue ?_))
        have lS : l < s.heap.objs.size := Heap.lt_size gl
        have ah3 : A.in1.in1.in1.handled = none := by simp [ah]
        have zS : (s.heap.push (bare0 w)).objs.size = s.heap.objs.size + 1 := Heap.size_push ..
        have neI : l ≠ (s.heap.push (bare0 w)).objs.size := by
          rw [zS]
          exact Nat.ne_of_lt (Nat.lt_succ_of_lt lS)
        have fS : s.heap.objs.size ∉ [(s.heap.push (bare0 w)).objs.size, l] := by
          rw [zS]
          simp only [List.mem_cons, List.mem_singleton, List.not_mem_nil, or_false, not_or]
          exact ⟨Nat.ne_of_lt (Nat.lt_succ_self _), Nat.ne_of_gt lS⟩
        have vals : ∀ (i : Nat) (v : Value), its[i]? = some v → ∃ k t, ns[i]? = some k ∧ v = .int k t := fun i v hv => by
          have li : i < ns.length := by
            rw [← sz]
            exact (Array.getElem?_eq_some_iff.mp hv).1
          obtain ⟨t, e⟩ := PyProof.Rows.IntsAre.int_at ia i v (by rw [Array.getElem?_toList]; exact hv)
          refine ⟨ns[i], t, List.getElem?_eq_getElem li, e.trans ?_⟩
          rw [List.getD_eq_getElem?_getD, List.getElem?_eq_getElem li] <;> rfl
        refine set_update_ints ((Walks.list ah3 _ l neI its).toS) s.heap.objs.size fS ns sz room vals (its.size - 0) 0 _ (by omega) (Nat.zero_le _) ⟨⟨_, Heap.get?_push_size _ rfl, rfl, rfl⟩, il.push _⟩
          ⟨0, Nat.le_refl 0, setR_new_at (Heap.get?_push_of_some _ gS)⟩ fun s3 c3 hm hc3 hS3 => ?_
        obtain ⟨g, g2, d3, tk3, os3⟩ := s3
        obtain rfl : g2 = s.gens := hm.gens
        obtain rfl : d3 = s.drawn := hm.drawn
        obtain rfl : os3 = s.os := hm.os
        rw [sz] at hc3
        show wpAny _ _ _ _ _ _
        refine wpAny_pure ?_
        show wpAny _ _ (ret Value.none) _ _ _
        refine wpAny_pure ⟨rfl, g, tk3, c3, rfl, hS3, hc3, fun b o e => ?_⟩
        have lb : b < s.heap.objs.size := Heap.lt_size e
        refine hm.heap b o ?_ (Heap.get?_push_of_some _ (Heap.get?_push_of_some _ e))
        simp only [List.mem_cons, List.mem_singleton, List.not_mem_nil, or_false, not_or]
        refine ⟨Nat.ne_of_lt lb, ?_⟩
        rw [zS]
        exact Nat.ne_of_lt (Nat.lt_succ_of_lt lb)
      · cases r2 with
        | error e => exact hr2
        | ok fl2 =>
          cases fl2 with
          | ret r =>
            obtain ⟨rfl, g, tk, c, rfl, z1, z2, z3⟩ := hr2
            repeat (any_goals (first | assumption | wp_step))
            exact h _ _ _ z1 z2 z3
          | _ => exact hr2.elim
    | _ => exact hr.elim
end
section
variable {X : Cx}
end
end Kb

namespace Kb
open PySem PySem.Spec PyProof.Rows L2
theorem bo_len : bootBuiltins "len" = some (.builtin "len") := by decide +kernel
theorem bo_abs : bootBuiltins "abs" = some (.builtin "abs") := by decide +kernel
theorem bo_max : bootBuiltins "max" = some (.builtin "max") := by decide +kernel
theorem bo_min : bootBuiltins "min" = some (.builtin "min") := by decide +kernel
theorem bo_sum : bootBuiltins "sum" = some (.builtin "sum") := by decide +kernel
theorem bo_all : bootBuiltins "all" = some (.builtin "all") := by decide +kernel
theorem bo_sorted : bootBuiltins "sorted" = some (.builtin "sorted") := by decide +kernel
theorem bo_isinstance : bootBuiltins "isinstance" = some (.builtin "isinstance") := by decide +kernel
theorem bo_int : bootBuiltins "int" = some (.type "int") := by decide +kernel
theorem bo_bool : bootBuiltins "bool" = some (.type "bool") := by decide +kernel
theorem bo_list : bootBuiltins "list" = some (.type "list") := by decide +kernel
theorem bo_tuple : bootBuiltins "tuple" = some (.type "tuple") := by decide +kernel
theorem bo_str : bootBuiltins "str" = some (.type "str") := by decide +kernel
/-- names that are still the built-in ones -/
structure Bt (mg : Str → Option Value) : Prop where
  len : mg "len" = none
  abs : mg "abs" = none
  max : mg "max" = none
  min : mg "min" = none
  sum : mg "sum" = none
  all : mg "all" = none
  repr : mg "repr" = none
  sorted : mg "sorted" = none
  isinstance : mg "isinstance" = none
  int : mg "int" = none
  bool : mg "bool" = none
  list : mg "list" = none
  tuple : mg "tuple" = none
  set : mg "set" = none
  range : mg "range" = none
  zip : mg "zip" = none

/-! ### xs[::k], k reckoned, 1 or -1 -/
/-! ### list(range(i, j, c)) -/
end Kb

namespace Kb
open PySem PySem.Spec PyProof.Rows L2
section
variable {K : PySem.W.Frag} {a b : Addr} {xs ys : List V} {n : Nat} {g : TG}
theorem for_zip {tb : TS} {D : Ends} {σ : L2.St} {H : Hp} (hn : n = min xs.length ys.length) (Pv : Nat → L2.St → Hp → Prop) (h0 : Pv 0 σ H) (hl : ∀ i σ H, i ≤ n → Pv i σ H → SqL K H a xs ∧ SqL K H b ys)
    (hs : ∀ i x y T σ H, i < n → xs[i]? = some x → ys[i]? = some y → H T = none → Pv i σ H → g (.ref T) σ (upd H T (.tup [x, y])) fun σ2 H2 => tb { D with nx := Pv (i + 1), ct := Pv (i + 1), bk := D.nx } σ2 H2) (hd : ∀ σ H, Pv n σ H → D.nx σ H) :
    ∃ W : Nat → Nat → L2.St → Hp → Prop, (∃ m, W 0 m σ H) ∧ ∀ i m σ H, W i m σ H →
      ((Itz K a b).stop i H ∧ D.nx σ H) ∨ ((Itz K a b).go i H ∧ ∃ N : L2.St → Hp → Prop, (∀ σ' H', N σ' H' → ∃ m', m' < m ∧ W (i + 1) m' σ' H') ∧ ∀ x H', (Itz K a b).yld i H x H' → g x σ H' fun σ2 H2 => tb { D with nx := N, ct := N, bk := D.nx } σ2 H2) := by
  refine ⟨fun i m σ H => m = n - i ∧ i ≤ n ∧ Pv i σ H, ⟨n, by simp, Nat.zero_le _, h0⟩, ?_⟩
  rintro i m σ H ⟨rfl, hi, p⟩
  obtain ⟨q1, q2⟩ := hl i σ H hi p
  by_cases hlt : i < n
  · have l1 : i < xs.length := by omega
    have l2 : i < ys.length := by omega
    have g1 : xs[i]? = some xs[i] := List.getElem?_eq_getElem l1
    have g2 : ys[i]? = some ys[i] := List.getElem?_eq_getElem l2
    refine .inr ⟨⟨_, _, _, _, q1, q2, g1, g2⟩, Pv (i + 1), fun σ' H' p' => ⟨n - (i + 1), by omega, rfl, hlt, p'⟩, fun v H' y => ?_⟩
    obtain ⟨T, x1, x2, rfl, nT, rfl, f1, f2⟩ := y
    exact hs i x1 x2 T σ H hlt (f1 xs q1) (f2 ys q2) nT p
  · have e : i = n := by omega
    subst e
    exact .inl ⟨⟨xs, ys, q1, q2, by omega⟩, hd σ H p⟩
theorem lc_zip {tt : TT} {te : TE} {vs : List Nat} {σ : L2.St} {H1 : Hp} {D : Addr} {Qd : Hp → Prop} (hn : n = min xs.length ys.length) (Pv : Nat → Hp → Prop) (h0 : Pv 0 (upd H1 D (.lst []))) (hl : ∀ i H, i ≤ n → Pv i H → SqL K H a xs ∧ SqL K H b ys)
    (hs : ∀ i x y T H, i < n → xs[i]? = some x → ys[i]? = some y → H T = none → Pv i H → g (.ref T) (wipe σ vs) (upd H T (.tup [x, y])) fun σ2 H2 => wipe σ2 vs = wipe σ vs ∧ tt σ2 H2 fun b H3 =>
      if b = true then te σ2 H3 fun y H4 => ∃ acc, H4 D = some (.lst acc) ∧ acc.length < sizeLine ∧ Pv (i + 1) (upd H4 D (.lst (acc ++ [y]))) else Pv (i + 1) H3) (hd : ∀ H, Pv n H → Qd H) :
    ∃ W : Nat → Nat → Hp → Prop, (∃ m, W 0 m (upd H1 D (.lst []))) ∧ ∀ i m H, W i m H →
      ((Itz K a b).stop i H ∧ Qd H) ∨ ((Itz K a b).go i H ∧ ∃ Nx : Hp → Prop, (∀ H', Nx H' → ∃ m', m' < m ∧ W (i + 1) m' H') ∧ ∀ x H', (Itz K a b).yld i H x H' → g x (wipe σ vs) H' fun σ2 H2 => wipe σ2 vs = wipe σ vs ∧ tt σ2 H2 fun b H3 =>
        if b = true then te σ2 H3 fun y H4 => ∃ acc, H4 D = some (.lst acc) ∧ acc.length < sizeLine ∧ Nx (upd H4 D (.lst (acc ++ [y]))) else Nx H3) := by
  refine ⟨fun i m H => m = n - i ∧ i ≤ n ∧ Pv i H, ⟨n, by simp, Nat.zero_le _, h0⟩, ?_⟩
  rintro i m H ⟨rfl, hi, p⟩
  obtain ⟨q1, q2⟩ := hl i H hi p
  by_cases hlt : i < n
  · have l1 : i < xs.length := by omega
    have l2 : i < ys.length := by omega
    have g1 : xs[i]? = some xs[i] := List.getElem?_eq_getElem l1
    have g2 : ys[i]? = some ys[i] := List.getElem?_eq_getElem l2
    refine .inr ⟨⟨_, _, _, _, q1, q2, g1, g2⟩, Pv (i + 1), fun H' p' => ⟨n - (i + 1), by omega, rfl, hlt, p'⟩, fun v H' y => ?_⟩
    obtain ⟨T, x1, x2, rfl, nT, rfl, f1, f2⟩ := y
    exact hs i x1 x2 T H hlt (f1 xs q1) (f2 ys q2) nT p
  · have e : i = n := by omega
    subst e
    exact .inl ⟨⟨xs, ys, q1, q2, by omega⟩, hd H p⟩
end
/-! ### a list in the making, and what else stands -/
theorem IsSc.lset {H : Hp} {D : Addr} {us us' : List V} {v : V} {s : Sc} (hD : H D = some (.lst us)) (h : IsSc H v s) : IsSc (upd H D (.lst us')) v s := by
  obtain ⟨t, e, ht⟩ := h
  refine ⟨t, e, ?_⟩
  rw [upd_ne (ne_of ht hD (by intro z; cases z))]
  exact ht
theorem Pa.lset {H : Hp} {D : Addr} {us us' : List V} (hD : H D = some (.lst us)) : ∀ {vs : List V} {ss : List Sc}, Paired (IsSc H) vs ss → Paired (IsSc (upd H D (.lst us'))) vs ss
  | _, _, .nil => .nil
  | _, _, .cons h t => .cons (h.lset hD) (Pa.lset hD t)
theorem Pa.snoc {H : Hp} {vs : List V} {ss : List Sc} {v : V} {s : Sc} (h : Paired (IsSc H) vs ss) (k : IsSc H v s) : Paired (IsSc H) (vs ++ [v]) (ss ++ [s]) := Pa.app h (.cons k .nil)
/-- the pair that a value stands for -/
def kOf (H : Hp) : V → Int × Int
  | .ref t => match H t with
    | some (.tup [.int x, .int y]) => (x, y)
    | _ => (0, 0)
  | _ => (0, 0)
theorem kOf_eq {H : Hp} {v : V} {s : Sc} (h : IsSc H v s) : kOf H v = s := by
  obtain ⟨t, rfl, e⟩ := h
  show (match H t with
    | some (.tup [.int x, .int y]) => (x, y)
    | _ => (0, 0)) = s
  rw [e]
theorem Pa.kOf {H : Hp} : ∀ {vs : List V} {ss : List Sc}, Paired (IsSc H) vs ss → vs.map (Kb.kOf H) = ss
  | _, _, .nil => rfl
  | _, _, .cons h t => by rw [List.map_cons, kOf_eq h, Pa.kOf t]
theorem Pa.of_map {H : Hp} : ∀ {vs : List V}, (∀ v ∈ vs, ∃ s, IsSc H v s) → Paired (IsSc H) vs (vs.map (Kb.kOf H))
  | [], _ => .nil
  | v :: r, h => by
    obtain ⟨s, hs⟩ := h v List.mem_cons_self
    have e := kOf_eq hs
    refine .cons ?_ (Pa.of_map fun u hu => h u (List.mem_cons_of_mem _ hu))
    rw [e]
    exact hs
theorem Pa.mem {H : Hp} : ∀ {vs : List V} {ss : List Sc}, Paired (IsSc H) vs ss → ∀ v ∈ vs, ∃ s, s ∈ ss ∧ IsSc H v s
  | _, _, .nil, v, hv => by cases hv
  | _, _, .cons h t, v, hv => by
    rcases List.mem_cons.mp hv with e | e
    · subst e
      exact ⟨_, List.mem_cons_self, h⟩
    · obtain ⟨s, m, q⟩ := Pa.mem t v e
      exact ⟨s, List.mem_cons_of_mem _ m, q⟩
/-- sorted pairs: what a call of sorted hands back, by pairs -/
theorem Pa.sorted {H : Hp} {us vs : List V} {ss : List Sc} (h : Paired (IsSc H) vs ss) (s1 : SrtO.Srtd (ltP (Kb.kOf H)) us) (s2 : SrtO.Stb (ltP (Kb.kOf H)) us vs) :
    ∃ ts : List Sc, Paired (IsSc H) us ts ∧ ts.Perm ss ∧ ts.Pairwise fun p q => p.1 ≤ q.1 := by
  refine ⟨us.map (Kb.kOf H), Pa.of_map fun v hv => ?_, ?_, ?_⟩
  · obtain ⟨s, _, q⟩ := Pa.mem h v (s2.perm.mem_iff.mp hv)
    exact ⟨s, q⟩
  · rw [← Pa.kOf h]
    exact s2.perm.map _
  · refine List.pairwise_map.mpr (s1.imp fun {x y} q => ?_)
    have z := SrtO.lexB_no.mp q
    omega
end Kb
namespace Kb
open PySem PySem.Spec PyProof.Rows L2
structure Br (mg : Str → Option Value) : Prop where
  reversed : mg "reversed" = none
theorem lc_rev {K : PySem.W.Frag} {a : Addr} {xs : List V} {g : TG} {tt : TT} {te : TE} {vs : List Nat} {σ : L2.St} {H1 : Hp} {D : Addr} {Qd : Hp → Prop} (Pv : Nat → Hp → Prop) (h0 : Pv 0 (upd H1 D (.lst []))) (hl : ∀ i H, i ≤ xs.length → Pv i H → SqL K H a xs)
    (hs : ∀ i x H, xs.reverse[i]? = some x → Pv i H → g x (wipe σ vs) H fun σ2 H2 => wipe σ2 vs = wipe σ vs ∧ tt σ2 H2 fun b H3 =>
      if b = true then te σ2 H3 fun y H4 => ∃ acc, H4 D = some (.lst acc) ∧ acc.length < sizeLine ∧ Pv (i + 1) (upd H4 D (.lst (acc ++ [y]))) else Pv (i + 1) H3) (hd : ∀ H, Pv xs.length H → Qd H) :
    ∃ W : Nat → Nat → Hp → Prop, (∃ m, W 0 m (upd H1 D (.lst []))) ∧ ∀ i m H, W i m H →
      ((Itv K a xs.length).stop i H ∧ Qd H) ∨ ((Itv K a xs.length).go i H ∧ ∃ Nx : Hp → Prop, (∀ H', Nx H' → ∃ m', m' < m ∧ W (i + 1) m' H') ∧ ∀ x H', (Itv K a xs.length).yld i H x H' → g x (wipe σ vs) H' fun σ2 H2 => wipe σ2 vs = wipe σ vs ∧ tt σ2 H2 fun b H3 =>
        if b = true then te σ2 H3 fun y H4 => ∃ acc, H4 D = some (.lst acc) ∧ acc.length < sizeLine ∧ Nx (upd H4 D (.lst (acc ++ [y]))) else Nx H3) := by
  refine ⟨fun i m H => m = xs.length - i ∧ i ≤ xs.length ∧ Pv i H, ⟨xs.length, by simp, Nat.zero_le _, h0⟩, ?_⟩
  rintro i m H ⟨rfl, hi, p⟩
  have q := hl i H hi p
  by_cases hlt : i < xs.length
  · have ix : xs.length - 1 - i < xs.length := by omega
    refine .inr ⟨⟨hlt, xs, xs[xs.length - 1 - i], q, List.getElem?_eq_getElem ix⟩, Pv (i + 1), fun H' p' => ⟨xs.length - (i + 1), by omega, rfl, hlt, p'⟩, fun x H' y => ?_⟩
    obtain ⟨e, y⟩ := y
    subst e
    refine hs i x _ ?_ p
    rw [List.getElem?_reverse hlt]
    exact y xs q
  · have e : i = xs.length := by omega
    subst e
    exact .inl ⟨Nat.le_refl _, hd H p⟩
end Kb

namespace Kb
open PySem PySem.Spec PyProof.Rows L2
/-! ### defs that print lists: they are called where no list is being printed -/
structure FnG (P : Program) (w : World) (K : PySem.W.Frag) (mg : Str → Option Value) (base : Heap) (k : Nat) (f : Addr) (fd : FuncData) (ps : List Str) (sp : Sp) : Prop where
  len : ∀ vs H Q E, sp vs H Q E → vs.length = ps.length
  run : ∀ (A : Around) (outer : List Env) (s : Shared) (H : Hp) (args : Args) (us : List Value) (vs : List V) (Q : VK) (E : XK), Room k A → A.guards = some [] → Env0 P w K mg base A outer s H → BindsTo s fd args (ps.zip us) → Vals vs us → sp vs H Q E →
    codeAny (model P w) A (.call (.ref f) args) (CR CX0 outer P w H s Q E) s
section
variable {P : Program} {w : World} {K : PySem.W.Frag} {mg : Str → Option Value} {base : Heap}
theorem okG {x qual : Str} {st : Stmt} {f : Addr} {fd : FuncData} {N ps : List Str} {k : Nat} {sp : Sp} (F : Fun K x qual st f fd) (S : FnScope N ps (defScope st)) (len : ∀ vs H Q E, sp vs H Q E → vs.length = ps.length)
    (hbody : ∀ (cdv : Value) (A : Around) (outer : List Env) (s : Shared) (H : Hp) (vs : List V) (Q : VK) (E : XK), Room k (A.deeper (envOfC qual (defScope st) s.heap.objs.size f cdv)) → A.guards = some [] → sp vs H Q E →
      ∃ t, PSs (cxOf CX0 P w K mg base N qual (defScope st) f cdv A outer s H E).nox (defBody st) t ∧ t { nx := fun _ H' => Q .non H', rt := Q } (start N vs) H) : FnG P w K mg base (k + 1) f fd ps sp := by
  obtain ⟨oc, od, kV, doc, pm, an, cdv, ct, osl, rfl, lk, code⟩ := F.ex
  refine ⟨len, fun A outer s H args us vs Q E room g e0 bnd r hs => ?_⟩
  have kin : K.In s.heap := e0.mod.kin.keeps fun b o z => (e0.bs b o z).1
  have nl : s.heap.NoLimit := e0.mod.nolimit.keeps fun b o z => (e0.bs b o z).1
  have hl := len _ _ _ _ hs
  have lc : ∀ y ∈ ps.zip us, (defScope st).names.lookup y.1 = some .local ∨ ((defScope st).names.lookup y.1 = some .cell ∧ ((cellsFrom (s.heap.objs.size + 1) (defScope st).names []).lookup y.1).isSome = true) := by
    rintro ⟨n, v⟩ hy
    exact (S.par n (List.of_mem_zip hy).1).imp id fun z => ⟨z, PySem.W.cellsFrom_some _ _ _ (.inl z)⟩
  refine codeAny_call_function room.depth (kin _ _ lk) rfl S.co S.gen rfl (PySem.W.codeRec_of kin code) (bnd _ _ _ _ (wpAny_newFunctionEnv_cells S.kind lc fun env ev s1 ic => ?_))
  subst ev
  refine ⟨nl.keeps ic.toInCall.keep, codeAny_func ?_⟩
  obtain ⟨t, ht, hq⟩ := hbody cdv A outer s H vs Q E (room.deeper _) g hs
  have I := inv_start (CX := CX0) (P := P) (E := E) S room.hd e0 hl r ic
  refine wpAny_mono (ht.nox.run [] s1 _ H _ I hq) (fun fl s2 z => ?_) fun _ _ z => z
  cases fl with
  | next =>
    obtain ⟨σ', H', J, y⟩ := z
    exact ⟨.non, H', J.os, J.bare, J.base, J.hok, rfl, y⟩
  | ret u =>
    obtain ⟨v, σ', H', J, rv, y⟩ := z
    exact ⟨v, H', J.os, J.bare, J.base, J.hok, rv, y⟩
  | brk =>
    obtain ⟨_, _, _, y⟩ := z
    exact y.elim
  | cont =>
    obtain ⟨_, _, _, y⟩ := z
    exact y.elim
end
/-! ### repr of data of any depth -/
/-! ### the law's own call -/
section
variable {P : Program} {w : World} {K : PySem.W.Frag} {mg mb : Str → Option Value}
theorem law_run {k : Nat} {fa a : Addr} {fd : FuncData} {x : Str} {sp : Sp} {s1 : Shared} {vs : List Value} {ns : List Int} (kin : K.In s1.heap) (hns : s1.heap.Ns mainGlobals mg) (hb : s1.heap.Ns builtinsNs mb) (hbb : ∀ x : Str, x ≠ "__name__" → mb x = bootBuiltins x)
    (hlim : s1.heap.NoLimit) (hg : s1.gens = #[]) (ha : s1.heap.get? a = some { cls := .type "list", data := .seq vs.toArray }) (hia : IntsAre vs ns) (hl : ns.length ≤ sizeLine) (room : Room k callerA)
    (F : ∀ base : Heap, K.In base → base.Ns mainGlobals mg → FnG P w K mg base k fa fd [x] sp) (bnd : ∀ (s : Shared) (u : Value), BindsTo s fd ⟨[u], []⟩ [(x, u)])
    (hsp : ∀ H : Hp, Only H → SqL K H a (ns.map V.int) → sp [.ref a] H (fun v _ => v = .bl true) E0) :
    codeAny (model P w) callerA (.call (.ref fa) ⟨[.ref a], []⟩) (fun r s' => r = .ok (.ret (.bool true)) ∧ OldK s1.heap s'.heap ∧ s'.os = s1.os ∧ AllBare s'.gens) s1 := by
  have go : ∀ H : Hp, Only H → SqL K H a (ns.map V.int) → HOk P w H s1.heap → (∀ b, b ≠ a → H b = none) → (H a = none ∨ K.lookup a = none) →
      codeAny (model P w) callerA (.call (.ref fa) ⟨[.ref a], []⟩) (fun r s' => r = .ok (.ret (.bool true)) ∧ OldK s1.heap s'.heap ∧ s'.os = s1.os ∧ AllBare s'.gens) s1 := by
    intro H only hS ok off aK
    have dct : ∀ {b : Addr} {o : Obj} {es : Array DictEntry} {ep : Nat}, s1.heap.get? b = some o → o.data = .dict es ep → H b = none := by
      intro b o es ep e d
      refine off b fun z => ?_
      subst z
      rw [ha] at e
      cases e
      cases (show Data.seq vs.toArray _ = Data.dict es ep from d)
    have nsOf : ∀ {b : Addr} {m : Str → Option Value}, s1.heap.Ns b m → (hidT s1.heap H).Ns b m := by
      rintro b m ⟨o, es, ep, e, d, r⟩
      exact ⟨o, es, ep, hidT_get e (dct e d), d, r⟩
    have kin2 : K.In (hidT s1.heap H) := by
      intro b o e
      refine hidT_get (kin b o e) ?_
      by_cases z : b = a
      · subst z
        rcases aK with y | y
        · exact y
        · rw [y] at e
          cases e
      · exact off b z
    have lim2 : (hidT s1.heap H).NoLimit := by
      obtain ⟨mc, y1, y2⟩ := hlim
      exact ⟨mc, nsOf y1, y2⟩
    have env : Env0 P w K mg (hidT s1.heap H) callerA [] s1 H :=
      { frames := rfl, mod := ⟨kin2, nsOf hns, ⟨mb, nsOf hb, hbb⟩, lim2⟩, bs := fun b o e => of_hidT e, bsz := Nat.le_of_eq (hidT_size _ _), funs := trivial, frf := fun b z => (by cases (show b ∈ ([] : List Addr) from z)), hok := ok, bare := .of_eq hg }
    refine codeAny_mono ((F _ kin2 (nsOf hns)).run callerA [] s1 H ⟨[.ref a], []⟩ [.ref a] [.ref a] _ _ room rfl env (bnd s1 (.ref a)) (.cons rfl .nil) (hsp H only hS)) fun r s2 z => ?_
    cases r with
    | error e => exact z.elim
    | ok fl =>
      cases fl with
      | next => exact z.elim
      | brk => exact z.elim
      | cont => exact z.elim
      | ret u =>
        obtain ⟨v, H2, os, bare, un, ok2, rv, y⟩ := z
        have y' : v = .bl true := y
        subst y'
        obtain rfl : u = Value.bool true := rv
        refine ⟨rfl, OldK.of_keep fun b o e => ?_, os, bare⟩
        rcases only b with n | ⟨ob, xs, n⟩
        · exact un.keep b o e n (fun q => by cases (show b ∈ ([] : List Addr) from q)) (by simp)
        · obtain ⟨g1, _⟩ := ok b _ n
          obtain ⟨g2, _⟩ := ok2 b _ (un.frzs b ob _ n)
          exact g2.trans (g1.symm.trans e)
  have rv : Vals (ns.map V.int) vs := vals_ints hia
  cases hk : K.lookup a with
  | some o =>
    have e := kin a o hk
    rw [ha] at e
    cases e
    refine go (fun _ => none) (fun _ => .inl rfl) (.inr ⟨_, vs.toArray, _, hk, rfl, rfl, rfl, ?_, by simpa using rv⟩) (fun b u z => by cases (show (none : Option HO) = some u from z)) (fun _ _ => rfl) (.inl rfl)
    rw [List.size_toArray, hia.length]
    exact hl
  | none =>
    have at_a : (fun b => if b = a then some (HO.frz { cls := .type "list", data := .seq vs.toArray } (.lst (ns.map V.int))) else none : Hp) a = some (.frz { cls := .type "list", data := .seq vs.toArray } (.lst (ns.map V.int))) := if_pos rfl
    refine go (fun b => if b = a then some (.frz { cls := .type "list", data := .seq vs.toArray } (.lst (ns.map V.int))) else none) (fun b => ?_) (.inl (.inr ⟨_, at_a⟩)) (fun b u z => ?_) (fun b z => if_neg z) (.inr hk)
    · by_cases z : b = a
      · exact .inr ⟨_, _, if_pos z⟩
      · exact .inl (if_neg z)
    · by_cases y : b = a
      · subst y
        cases at_a.symm.trans z
        exact ⟨ha, by rw [List.length_map]; exact hl, vs, _, rv, ha⟩
      · cases (if_neg y).symm.trans z
theorem walk_g {l : PySem.W.OpenLaw} {n k : Nat} {q : Program} {loose : List Str} {XP : (Str → Option Value) → Heap → Prop} {YP : World → Heap → Prop} {d : DefRec} {K : Params → PySem.W.Frag} {sp : World → Sp} {x : Str} (hn : l.most = some n) (hn2 : n ≤ sizeLine) (hdf : d.params.defaults = []) (room : Room k callerA)
    (hY : ∀ (w : World) (h : Heap), YP w h → (K w.params).In h)
    (F : ∀ (w : World) (mg : Str → Option Value) (fa : Addr) (h : Heap), (K w.params).In h → h.Ns mainGlobals mg → mg d.name = some (.ref fa) →
      ∃ fd : FuncData, (∀ (s : Shared) (u : Value), BindsTo s fd ⟨[u], []⟩ [(x, u)]) ∧ ∀ base : Heap, (K w.params).In base → base.Ns mainGlobals mg → FnG l.prog w (K w.params) mg base k fa fd [x] (sp w))
    (hsp : ∀ (w : World) (H : Hp) (a : Addr) (ns : List Int), ns.length ≤ n → Only H → SqL (K w.params) H a (ns.map V.int) → sp w [.ref a] H (fun v _ => v = .bl true) E0) :
    PySem.W.WalkO q loose XP YP l.row.toRowW d [] (fun f vs => PySem.call f vs) := by
  refine Att.attach_call hn hdf fun w s0 s1 mg mb fa o pm cd doc a vs ns G Y ho hd code hmg obj hia hlen gens => ?_
  have kin := hY w _ Y
  obtain ⟨fd, bnd, hF⟩ := F w mg fa _ kin G.T.g hmg
  exact law_run kin G.T.g G.T.b G.T.builtins G.T.nolimit gens obj hia (Nat.le_trans hlen hn2) room hF bnd fun H only hS => hsp w H a ns hlen only hS
end
end Kb

namespace Kb
/-! ### pieces of profiles, without a program -/
abbrev Pc := Int × Int × Int
def wt (G : Int → Int) : List Pc → Int
  | [] => 0
  | p :: r => p.2.2 * (G p.1 - G (p.2.1 + 1)) + wt G r
def ind (x y : Int) : Int := if y = x then 1 else 0
def chg (ps : List Pc) (x : Int) : Int := wt (ind x) ps
def sumG (c G : Int → Int) : List Int → Int
  | [] => 0
  | k :: r => c k * G k + sumG c G r
theorem wt_app (G : Int → Int) : ∀ a b : List Pc, wt G (a ++ b) = wt G a + wt G b
  | [], b => by simp [wt]
  | p :: r, b => by
    show _ + wt G (r ++ b) = _ + wt G r + wt G b
    rw [wt_app G r b]
    omega
theorem sumG_perm {c G : Int → Int} {a b : List Int} (h : a.Perm b) : sumG c G a = sumG c G b := by
  induction h with
  | nil => rfl
  | cons x _ ih =>
    show _ + _ = _ + _
    rw [ih]
  | swap x y l =>
    show c y * G y + (c x * G x + sumG c G l) = c x * G x + (c y * G y + sumG c G l)
    omega
  | trans _ _ h1 h2 => exact h1.trans h2
theorem sumG_filter {c G : Int → Int} : ∀ ks : List Int, sumG c G (ks.filter fun k => decide (c k ≠ 0)) = sumG c G ks
  | [] => rfl
  | k :: r => by
    rw [List.filter_cons]
    by_cases h : c k = 0
    · rw [if_neg (by simp [h]), sumG_filter r]
      show _ = c k * G k + _
      rw [h]
      omega
    · rw [if_pos (by simp [h])]
      show c k * G k + _ = c k * G k + _
      rw [sumG_filter r]
theorem sumG_add {c d G : Int → Int} : ∀ ks : List Int, sumG (fun x => c x + d x) G ks = sumG c G ks + sumG d G ks
  | [] => rfl
  | k :: r => by
    show (c k + d k) * G k + sumG _ G r = (c k * G k + _) + (d k * G k + _)
    rw [sumG_add r, Int.add_mul]
    omega
theorem sumG_sub {c d G : Int → Int} : ∀ ks : List Int, sumG (fun x => c x - d x) G ks = sumG c G ks - sumG d G ks
  | [] => rfl
  | k :: r => by
    show (c k - d k) * G k + sumG _ G r = (c k * G k + _) - (d k * G k + _)
    rw [sumG_sub r, Int.sub_mul]
    omega
theorem sumG_ind {t l : Int} {G : Int → Int} : ∀ {ks : List Int}, ks.Nodup → sumG (fun x => t * ind x l) G ks = if l ∈ ks then t * G l else 0
  | [], _ => by simp [sumG]
  | k :: r, nd => by
    have n := List.nodup_cons.mp nd
    show t * ind k l * G k + sumG _ G r = _
    rw [sumG_ind n.2]
    by_cases h : l = k
    · subst h
      rw [if_neg n.1, if_pos (List.mem_cons_self ..)]
      unfold ind
      rw [if_pos rfl]
      simp
    · have : ind k l = 0 := if_neg h
      rw [this]
      by_cases m : l ∈ r
      · rw [if_pos m, if_pos (List.mem_cons_of_mem _ m)]
        simp
      · rw [if_neg m, if_neg (by simp [h, m])]
        simp
theorem sumG_wt {G : Int → Int} {ks : List Int} (nd : ks.Nodup) : ∀ {ps : List Pc}, (∀ p ∈ ps, p.1 ∈ ks ∧ p.2.1 + 1 ∈ ks) → sumG (chg ps) G ks = wt G ps
  | [], _ => by
    have z : ∀ ks : List Int, sumG (chg []) G ks = 0 := fun ks => by
      induction ks with
      | nil => rfl
      | cons k r ih =>
        show 0 * G k + _ = 0
        rw [ih]
        omega
    exact z ks
  | p :: r, h => by
    have hp := h p (List.mem_cons_self ..)
    have e : chg (p :: r) = fun x => (fun x => (fun x => p.2.2 * ind x p.1) x - (fun x => p.2.2 * ind x (p.2.1 + 1)) x) x + chg r x := by
      funext x
      show p.2.2 * (ind x p.1 - ind x (p.2.1 + 1)) + wt (ind x) r = _
      rw [Int.mul_sub]
      rfl
    rw [e, sumG_add, sumG_sub, sumG_ind nd, sumG_ind nd, if_pos hp.1, if_pos hp.2, sumG_wt nd fun q hq => h q (List.mem_cons_of_mem _ hq)]
    show _ = p.2.2 * (G p.1 - G (p.2.1 + 1)) + _
    rw [Int.mul_sub]
/-! ### the rows between the turns -/
def rowsG (c : Int → Int) : List Int → Int → List Pc
  | [], _ => []
  | [_], _ => []
  | s :: f :: r, now => if now + c s ≠ 0 then (s, f - 1, now + c s) :: rowsG c (f :: r) (now + c s) else rowsG c (f :: r) (now + c s)
def lastD (s : Int) : List Int → Int
  | [] => s
  | f :: r => lastD f r
theorem rowsG_wt {c G : Int → Int} : ∀ (r : List Int) (s now : Int), wt G (rowsG c (s :: r) now) = sumG c G (s :: r) + now * G s - (now + sumG c (fun _ => 1) (s :: r)) * G (lastD s r)
  | [], s, now => by
    show 0 = c s * G s + 0 + now * G s - (now + (c s * 1 + 0)) * G s
    rw [Int.mul_one, Int.add_zero, Int.add_zero, Int.add_mul]
    omega
  | f :: r, s, now => by
    have ih := rowsG_wt (c := c) (G := G) r f (now + c s)
    have e1 : wt G (rowsG c (s :: f :: r) now) = (now + c s) * (G s - G f) + wt G (rowsG c (f :: r) (now + c s)) := by
      show wt G (if now + c s ≠ 0 then _ else _) = _
      by_cases h : now + c s = 0
      · rw [if_neg (by simp [h]), h]
        omega
      · rw [if_pos h]
        show (now + c s) * (G s - G (f - 1 + 1)) + _ = _
        rw [Int.sub_add_cancel]
    rw [e1, ih]
    show _ = c s * G s + sumG c G (f :: r) + now * G s - (now + (c s * 1 + sumG c (fun _ => 1) (f :: r))) * G (lastD f r)
    rw [Int.mul_one, ← Int.add_assoc now (c s), Int.mul_sub, Int.add_mul now (c s) (G s)]
    omega
/-- as few pieces as possible, ascending -/
def Can : List Pc → Prop
  | [] => True
  | p :: r => p.1 ≤ p.2.1 ∧ p.2.2 ≠ 0 ∧ (∀ q ∈ r.head?, p.2.1 < q.1 ∧ (p.2.1 + 1 = q.1 → p.2.2 ≠ q.2.2)) ∧ Can r
theorem rowsG_can {c : Int → Int} : ∀ (r : List Int) (s now : Int), (s :: r).Pairwise (· < ·) → (∀ x ∈ s :: r, c x ≠ 0) → Can (rowsG c (s :: r) now) ∧ ∀ q ∈ (rowsG c (s :: r) now).head?, s ≤ q.1 ∧ (s = q.1 → now ≠ q.2.2)
  | [], s, now, _, _ => ⟨trivial, fun q h => by cases h⟩
  | f :: r, s, now, o, h => by
    have o2 := List.pairwise_cons.mp o
    have lt : s < f := o2.1 f (List.mem_cons_self ..)
    have hs := h s (List.mem_cons_self ..)
    obtain ⟨ih1, ih2⟩ := rowsG_can r f (now + c s) o2.2 fun x hx => h x (List.mem_cons_of_mem _ hx)
    show Can (if now + c s ≠ 0 then _ else _) ∧ ∀ q ∈ (if now + c s ≠ 0 then _ else _ : List Pc).head?, _
    by_cases z : now + c s = 0
    · rw [if_neg (by simp [z])]
      refine ⟨ih1, fun q hq => ?_⟩
      have := ih2 q hq
      exact ⟨by omega, fun e => by omega⟩
    · rw [if_pos z]
      refine ⟨⟨by show s ≤ f - 1; omega, z, fun q hq => ?_, ih1⟩, fun q hq => ?_⟩
      · have := ih2 q hq
        exact ⟨by show f - 1 < q.1; omega, fun e => this.2 (by have e' : f - 1 + 1 = q.1 := e; omega)⟩
      · cases hq
        exact ⟨Int.le_refl _, fun _ e => hs (by have e' : now = now + c s := e; omega)⟩
theorem rowsG_len {c : Int → Int} : ∀ (r : List Int) (s now : Int), (rowsG c (s :: r) now).length ≤ r.length
  | [], s, now => Nat.le_refl _
  | f :: r, s, now => by
    have ih := rowsG_len (c := c) r f (now + c s)
    show (if now + c s ≠ 0 then _ else _ : List Pc).length ≤ _
    split
    · exact Nat.succ_le_succ ih
    · exact Nat.le_succ_of_le ih
/-- THE fact about flattened: rows with the same weights, as few as possible -/
theorem flat_ok {ps : List Pc} {ks ts : List Int} (nd : ks.Nodup) (hk : ∀ p ∈ ps, p.1 ∈ ks ∧ p.2.1 + 1 ∈ ks) (hp : ts.Perm (ks.filter fun k => decide (chg ps k ≠ 0))) (o : ts.Pairwise (· ≤ ·)) :
    Can (rowsG (chg ps) ts 0) ∧ (∀ G, wt G (rowsG (chg ps) ts 0) = wt G ps) ∧ (rowsG (chg ps) ts 0).length ≤ ks.length := by
  have tot : ∀ G, sumG (chg ps) G ts = wt G ps := fun G => by rw [sumG_perm hp, sumG_filter, sumG_wt nd hk]
  have nt : ts.Nodup := hp.nodup_iff.mpr (nd.sublist List.filter_sublist)
  have o2 : ts.Pairwise (· < ·) := by
    have := o.and nt
    exact this.imp fun ⟨a, b⟩ => by omega
  have hz : ∀ x ∈ ts, chg ps x ≠ 0 := fun x hx => by
    have := (List.mem_filter.mp (hp.mem_iff.mp hx)).2
    simpa using this
  have hl : ts.length ≤ ks.length := by
    rw [hp.length_eq]
    exact List.length_filter_le _ _
  cases ts with
  | nil =>
    refine ⟨trivial, fun G => ?_, Nat.zero_le _⟩
    rw [← tot G]
    rfl
  | cons s r =>
    refine ⟨(rowsG_can r s 0 o2 hz).1, fun G => ?_, Nat.le_trans (rowsG_len r s 0) (by have : (s :: r).length = r.length + 1 := rfl; omega)⟩
    rw [rowsG_wt, tot, tot]
    have one : wt (fun _ => 1) ps = 0 := by
      clear tot hz hk hp
      induction ps with
      | nil => rfl
      | cons p r ih =>
        show p.2.2 * (1 - 1) + wt _ r = 0
        rw [ih]
        simp
    rw [one]
    simp
/-! ### what weights tell -/
def at1 (p : Pc) (d : Int) : Int := if p.1 ≤ d ∧ d ≤ p.2.1 then p.2.2 else 0
def atP (ps : List Pc) (d : Int) : Int := (ps.map fun p => at1 p d).sum
theorem atP_cons (p : Pc) (r : List Pc) (d : Int) : atP (p :: r) d = at1 p d + atP r d := by simp [atP]
theorem atP_wt (d : Int) : ∀ {ps : List Pc}, (∀ p ∈ ps, p.1 ≤ p.2.1) → atP ps d = wt (fun y => if y ≤ d then 1 else 0) ps
  | [], _ => rfl
  | p :: r, h => by
    have hp := h p (List.mem_cons_self ..)
    rw [atP_cons, atP_wt d fun q hq => h q (List.mem_cons_of_mem _ hq)]
    show _ = p.2.2 * (_ - _) + _
    congr 1
    show _ = p.2.2 * ((if p.1 ≤ d then 1 else 0) - (if p.2.1 + 1 ≤ d then 1 else 0))
    unfold at1
    by_cases a : p.1 ≤ d
    · by_cases b : d ≤ p.2.1
      · rw [if_pos ⟨a, b⟩, if_pos a, if_neg (by omega)]
        omega
      · rw [if_neg (fun z => b z.2), if_pos a, if_pos (by omega)]
        omega
    · rw [if_neg (fun z => a z.1), if_neg a, if_neg (by omega)]
      omega
theorem Can.le : ∀ {rs : List Pc}, Can rs → ∀ p ∈ rs, p.1 ≤ p.2.1
  | p :: r, h, q, hq => by
    rcases List.mem_cons.mp hq with rfl | hq
    · exact h.1
    · exact Can.le h.2.2.2 q hq
theorem Can.above : ∀ {p : Pc} {r : List Pc}, Can (p :: r) → ∀ q ∈ r, p.2.1 < q.1
  | p, q :: r, h, x, hx => by
    have h1 := (h.2.2.1 q rfl).1
    rcases List.mem_cons.mp hx with rfl | hx
    · exact h1
    · have := Can.above h.2.2.2 x hx
      have := h.2.2.2.1
      omega
theorem atP_zero {ps : List Pc} {d : Int} (h : ∀ p ∈ ps, d < p.1 ∨ p.2.1 < d) : atP ps d = 0 := by
  induction ps with
  | nil => rfl
  | cons p r ih =>
    rw [atP_cons, ih fun q hq => h q (List.mem_cons_of_mem _ hq)]
    unfold at1
    rw [if_neg]
    · rfl
    · have := h p (List.mem_cons_self ..)
      omega
/-- in the fewest pieces each distance is told by one -/
theorem Can.at : ∀ {rs : List Pc}, Can rs → ∀ p ∈ rs, ∀ d, p.1 ≤ d → d ≤ p.2.1 → atP rs d = p.2.2
  | p :: r, h, q, hq, d, h1, h2 => by
    rw [atP_cons]
    rcases List.mem_cons.mp hq with rfl | hq
    · rw [atP_zero fun x hx => by have := Can.above h x hx; omega]
      unfold at1
      rw [if_pos ⟨h1, h2⟩]
      omega
    · rw [Can.at h.2.2.2 q hq d h1 h2]
      unfold at1
      rw [if_neg]
      · omega
      · have := Can.above h q hq
        omega
def Pok (p : Pc) : Prop := 1 ≤ p.1 ∧ p.1 ≤ p.2.1 ∧ 1 ≤ p.2.2
def tsum (ps : List Pc) : Int := (ps.map fun p => p.2.2).sum
theorem atP_le : ∀ {ps : List Pc}, (∀ p ∈ ps, Pok p) → ∀ d, 0 ≤ atP ps d ∧ atP ps d ≤ tsum ps
  | [], _, d => ⟨Int.le_refl _, Int.le_refl _⟩
  | p :: r, h, d => by
    have hp := h p (List.mem_cons_self ..)
    have ih := atP_le (fun q hq => h q (List.mem_cons_of_mem _ hq)) d
    have e : tsum (p :: r) = p.2.2 + tsum r := by simp [tsum]
    rw [atP_cons, e]
    unfold at1
    have := hp.2.2
    split <;> omega
theorem atP_pos {ps : List Pc} {d : Int} (h : atP ps d ≠ 0) : ∃ p ∈ ps, p.1 ≤ d ∧ d ≤ p.2.1 := by
  induction ps with
  | nil => exact absurd rfl h
  | cons p r ih =>
    by_cases c : p.1 ≤ d ∧ d ≤ p.2.1
    · exact ⟨p, List.mem_cons_self .., c⟩
    · rw [atP_cons] at h
      unfold at1 at h
      rw [if_neg c, Int.zero_add] at h
      obtain ⟨q, hq, e⟩ := ih h
      exact ⟨q, List.mem_cons_of_mem _ hq, e⟩
/-- pieces rs that tell the same as valid pieces ps -/
structure Tells (ps rs : List Pc) : Prop where
  can : Can rs
  wt : ∀ G, wt G rs = wt G ps
theorem Tells.at {ps rs : List Pc} (T : Tells ps rs) (h : ∀ p ∈ ps, Pok p) (d : Int) : atP rs d = atP ps d := by
  rw [atP_wt d T.can.le, atP_wt d fun p hp => (h p hp).2.1, T.wt]
theorem Tells.row {ps rs : List Pc} (T : Tells ps rs) (h : ∀ p ∈ ps, Pok p) {p : Pc} (hp : p ∈ rs) : 1 ≤ p.1 ∧ p.1 ≤ p.2.1 ∧ 1 ≤ p.2.2 ∧ p.2.2 ≤ tsum ps ∧ ∃ q ∈ ps, p.2.1 ≤ q.2.1 := by
  have le := T.can.le p hp
  have a1 := T.can.at p hp p.1 (Int.le_refl _) le
  have a2 := T.can.at p hp p.2.1 le (Int.le_refl _)
  rw [T.at h] at a1 a2
  have b := atP_le h p.1
  have nz : p.2.2 ≠ 0 := by
    have f : ∀ {rs : List Pc}, Can rs → ∀ p ∈ rs, p.2.2 ≠ 0 := by
      intro rs
      induction rs with
      | nil => intro _ p hp; cases hp
      | cons q r ih =>
        intro c p hp
        rcases List.mem_cons.mp hp with rfl | hp
        · exact c.2.1
        · exact ih c.2.2.2 p hp
    exact f T.can p hp
  obtain ⟨q, hq, q1, q2⟩ := atP_pos (ps := ps) (d := p.1) (by rw [a1]; exact nz)
  obtain ⟨q', hq', _, q2'⟩ := atP_pos (ps := ps) (d := p.2.1) (by rw [a2]; exact nz)
  have := h q hq
  exact ⟨by have := this.1; omega, le, by omega, by omega, q', hq', q2'⟩
/-! ### the least size -/
/-- two lists of the fewest pieces that tell the same are one -/
theorem Can.unique : ∀ {rs qs : List Pc}, Can rs → Can qs → (∀ d, atP rs d = atP qs d) → rs = qs := by
  have nil : ∀ {qs : List Pc}, Can qs → (∀ d, atP [] d = atP qs d) → qs = [] := by
    intro qs c h
    cases qs with
    | nil => rfl
    | cons q r =>
      have a := c.at q (List.mem_cons_self ..) q.1 (Int.le_refl _) c.1
      rw [← h] at a
      exact absurd a.symm c.2.1
  have lowest : ∀ {p q : Pc} {r s : List Pc}, Can (p :: r) → Can (q :: s) → (∀ d, atP (p :: r) d = atP (q :: s) d) → p.1 ≤ q.1 := by
    intro p q r s c1 c2 h
    by_cases z : p.1 ≤ q.1
    · exact z
    · have a := c2.at q (List.mem_cons_self ..) q.1 (Int.le_refl _) c2.1
      rw [← h, atP_zero fun x hx => by
        rcases List.mem_cons.mp hx with rfl | hx
        · omega
        · have := Can.above c1 x hx
          have := c1.1
          omega] at a
      exact absurd a.symm c2.2.1
  have ends : ∀ {p q : Pc} {r s : List Pc}, Can (p :: r) → Can (q :: s) → (∀ d, atP (p :: r) d = atP (q :: s) d) → p.1 = q.1 → p.2.2 = q.2.2 → p.2.1 ≤ q.2.1 := by
    intro p q r s c1 c2 h e1 e2
    by_cases z : p.2.1 ≤ q.2.1
    · exact z
    · have a := c1.at p (List.mem_cons_self ..) (q.2.1 + 1) (by have := c2.1; omega) (by omega)
      rw [h, atP_cons] at a
      unfold at1 at a
      rw [if_neg (by omega), Int.zero_add] at a
      obtain ⟨x, hx, x1, x2⟩ := atP_pos (by rw [a]; exact c1.2.1)
      have := Can.above c2 x hx
      have ex : x.1 = q.2.1 + 1 := by omega
      have ax := c2.2.2.2.at x hx (q.2.1 + 1) x1 x2
      rw [a] at ax
      cases s with
      | nil => cases hx
      | cons y s =>
        have hy := c2.2.2.1 y rfl
        rcases List.mem_cons.mp hx with rfl | hx
        · exact absurd (by rw [← ax, e2]) (hy.2 ex.symm)
        · have := Can.above c2.2.2.2 x hx
          have := c2.2.2.2.1
          omega
  intro rs
  induction rs with
  | nil => intro qs c1 c2 h; exact (nil c2 h).symm
  | cons p r ih =>
    intro qs c1 c2 h
    cases qs with
    | nil => exact absurd (nil c1 fun d => (h d).symm) (by simp)
    | cons q s =>
      have e1 : p.1 = q.1 := Int.le_antisymm (lowest c1 c2 h) (lowest c2 c1 fun d => (h d).symm)
      have e2 : p.2.2 = q.2.2 := by
        have a := c1.at p (List.mem_cons_self ..) p.1 (Int.le_refl _) c1.1
        have b := c2.at q (List.mem_cons_self ..) p.1 (by omega) (by have := c2.1; omega)
        rw [h] at a
        rw [← a, ← b]
      have e3 : p.2.1 = q.2.1 := Int.le_antisymm (ends c1 c2 h e1 e2) (ends c2 c1 (fun d => (h d).symm) e1.symm e2.symm)
      have ep : p = q := by
        obtain ⟨x, y, z⟩ := p
        obtain ⟨x', y', z'⟩ := q
        simp only at e1 e2 e3
        rw [e1, e2, e3]
      subst ep
      rw [ih c1.2.2.2 c2.2.2.2 fun d => by have := h d; rw [atP_cons, atP_cons] at this; omega]
end Kb

namespace Kb
open PySem PySem.Spec PyProof.Rows L2
/-! ### heaps that grow, while ponds are drawn from -/
def Plain : HO → Prop
  | .ext _ => False
  | _ => True
def Nx (H H' : Hp) : Prop := ∀ a o, H a = some o → ∃ o', H' a = some o' ∧ (Plain o → o' = o)
theorem Ex.nx {H H' : Hp} (e : Ex H H') : Nx H H' := fun a o h => ⟨o, e a o h, fun _ => rfl⟩
theorem Nx.at {H H' : Hp} {a : Addr} {o : HO} (e : Nx H H') (h : H a = some o) (p : Plain o := by trivial) : H' a = some o := by
  obtain ⟨o1, h1, p1⟩ := e a o h
  rw [h1, p1 p]
/-! ### a pond: a list of three ints; its last one counts how often it was drawn from -/
structure Pn (n : Nat) (c t : Int) : Prop where
  c0 : 0 ≤ c
  c1 : c ≤ 10 ^ 45
  t0 : 0 ≤ t
  t1 : t ≤ (n : Int)
def pondP (n : Nat) (b : Addr) (h : Heap) : Prop := ∃ (x c t : Int) (its : List Value) (k : Nat), Pn n c t ∧ Vals [V.int x, V.int c, V.int t] its ∧ h.get? b = some { cls := .type "list", data := .seq its.toArray k }
def pondO (n : Nat) (b : Addr) : HO := .ext (pondP n b)
/-! ### powers of great ints -/
/-! ### lists of things at addresses -/
section
variable {α : Type} {R : V → α → Prop}
theorem Pr.len : ∀ {vs : List V} {ss : List α}, Paired R vs ss → vs.length = ss.length
  | _, _, .nil => rfl
  | _, _, .cons h t => congrArg (· + 1) (Pr.len t)
theorem Pr.get : ∀ {vs : List V} {ss : List α} {i : Nat} {v : V}, Paired R vs ss → vs[i]? = some v → ∃ s, ss[i]? = some s ∧ R v s
  | _, _, i, v, .nil, e => by simp at e
  | _, _, 0, v, .cons h t, e => by
    cases e
    exact ⟨_, rfl, h⟩
  | _, _, i + 1, v, .cons h t, e => Pr.get (i := i) t e
theorem Pr.mem : ∀ {vs : List V} {ss : List α}, Paired R vs ss → ∀ v ∈ vs, ∃ s ∈ ss, R v s
  | _, _, .cons h t, v, hv => by
    rcases List.mem_cons.mp hv with rfl | hv
    · exact ⟨_, List.mem_cons_self .., h⟩
    · obtain ⟨s, hs, r⟩ := Pr.mem t v hv
      exact ⟨s, List.mem_cons_of_mem _ hs, r⟩
theorem Pr.imp {S : V → α → Prop} (f : ∀ v s, R v s → S v s) : ∀ {vs : List V} {ss : List α}, Paired R vs ss → Paired S vs ss
  | _, _, .nil => .nil
  | _, _, .cons h t => .cons (f _ _ h) (Pr.imp f t)
theorem Pr.app : ∀ {vs us : List V} {ss ts : List α}, Paired R vs ss → Paired R us ts → Paired R (vs ++ us) (ss ++ ts)
  | _, _, _, _, .nil, b => b
  | _, _, _, _, .cons h t, b => .cons h (Pr.app t b)
theorem Pr.snoc {vs : List V} {ss : List α} {v : V} {s : α} (h : Paired R vs ss) (k : R v s) : Paired R (vs ++ [v]) (ss ++ [s]) := Pr.app h (.cons k .nil)
end
/-! ### pieces as tuples -/
def IsPc (H : Hp) (v : V) (p : Pc) : Prop := ∃ t, v = .ref t ∧ H t = some (.tup [.int p.1, .int p.2.1, .int p.2.2])
theorem IsPc.nx {H H' : Hp} {v : V} {p : Pc} (e : Nx H H') (h : IsPc H v p) : IsPc H' v p := by
  obtain ⟨t, h1, h2⟩ := h
  exact ⟨t, h1, e.at h2⟩
theorem IsPc.lset {H : Hp} {D : Addr} {us us' : List V} {v : V} {p : Pc} (hD : H D = some (.lst us)) (h : IsPc H v p) : IsPc (upd H D (.lst us')) v p := by
  obtain ⟨t, e, ht⟩ := h
  exact ⟨t, e, by rw [upd_ne (ne_of ht hD (by intro z; cases z))]; exact ht⟩
abbrev PaP (H : Hp) (vs : List V) (ps : List Pc) : Prop := Paired (IsPc H) vs ps
theorem PaP.nx {H H' : Hp} (e : Nx H H') {vs : List V} {ps : List Pc} (h : PaP H vs ps) : PaP H' vs ps := Pr.imp (fun _ _ r => r.nx e) h
theorem PaP.mono {H H' : Hp} (e : Ex H H') {vs : List V} {ps : List Pc} (h : PaP H vs ps) : PaP H' vs ps := h.nx e.nx
theorem PaP.lset {H : Hp} {D : Addr} {us us' : List V} (hD : H D = some (.lst us)) {vs : List V} {ps : List Pc} (h : PaP H vs ps) : PaP (upd H D (.lst us')) vs ps := Pr.imp (fun _ _ r => r.lset hD) h
def Pcs (H : Hp) (a : Addr) (ps : List Pc) : Prop := ∃ vs, H a = some (.lst vs) ∧ PaP H vs ps
theorem Pcs.nx {H H' : Hp} {a : Addr} {ps : List Pc} (e : Nx H H') (h : Pcs H a ps) : Pcs H' a ps := by
  obtain ⟨vs, h1, h2⟩ := h
  exact ⟨vs, e.at h1, h2.nx e⟩
theorem Pcs.mono {H H' : Hp} {a : Addr} {ps : List Pc} (e : Ex H H') (h : Pcs H a ps) : Pcs H' a ps := h.nx e.nx
/-- what a def hands back that draws from ponds: this value, and the heap has grown -/
def Pd (H : Hp) (b : Addr) (n : Nat) : Prop := ∃ m, m ≤ n ∧ H b = some (pondO m b)
end Kb

namespace Kb
open PySem PySem.Spec PyProof.Rows L2 StX
/-! ### own classes: made, read, called -/
structure DMk (P : Program) (w : World) (K : PySem.W.Frag) (mg : Str → Option Value) (base : Heap) (x : Str) (C : Addr) (k : Nat) (ps : List Str) (sp : Sp) : Prop where
  ex : ∃ f fd, Mk K C f ∧ mg x = some (.ref C) ∧ Binds K fd ps [] ∧ FnOk P w K mg base CX0 k f fd ps sp
structure DMt (P : Program) (w : World) (K : PySem.W.Frag) (mg : Str → Option Value) (base : Heap) (C : Addr) (m : Str) (k : Nat) (ps : List Str) (sp : Sp) : Prop where
  ex : ∃ f fd, Cls K C ∧ Meth K C m f ∧ Binds K fd ps [] ∧ FnOk P w K mg base CX0 k f fd ps sp
structure DPr (P : Program) (w : World) (K : PySem.W.Frag) (mg : Str → Option Value) (base : Heap) (C : Addr) (m : Str) (k : Nat) (sp : Sp) : Prop where
  ex : ∃ p f fd, Cls K C ∧ PropOf K C m p f ∧ Binds K fd ["self"] [] ∧ FnOk P w K mg base CX0 k f fd ["self"] sp
section
variable {X : Cx} {C : Addr} {k k' : Nat} {ps : List Str} {sp : Sp} {pos apos p : Pos} {o e : Expr} {es : List Expr} {t : TA} {te : TE}
theorem pe_mk {x : Str} (D : DMk X.prog X.w X.K X.mg X.base x C k ps sp) (hr : Room k' X.A) (ha : PA X (e :: es) t) (hk : k + 1 ≤ k' := by decide) (hg : Gl X x := by rfl) (hdb : (x == ("__debug__" : Str)) = false := by decide)
    (he : starEach (e :: es) X.env = (false, eval e X.env) :: starEach es X.env := by rfl) (hpl : (backTo pos (starEach es X.env)).any (·.1) = false := by rfl) : PE X (.Call (.Name x p) (e :: es) [] pos) (tMake C sp [] E0 t) := by
  obtain ⟨f, fd, h1, h2, h3, h4⟩ := D.ex
  exact pe_make h1 h4 (hr.mono hk) hg h2 h3 .nil pass0 ha hdb he hpl
theorem pe_pr {m : Str} (D : DPr X.prog X.w X.K X.mg X.base C m k sp) (hr : Room k' X.A) (ho : PE X o te) (hk : k + 1 ≤ k' := by decide) (hab : attributeBase o m X.env (eval o X.env) = eval o X.env := by rfl) :
    PE X (.Attribute o m pos) (tProp C sp [] E0 te) := by
  obtain ⟨p, f, fd, h1, h2, h3, h4⟩ := D.ex
  exact pe_prop ho h1 h2 h4 (hr.mono hk) h3 .nil pass0 hab
end
/-! ### the object of a profile -/
theorem is_cp : ¬ (("cold" : Str) = "_pieces") := by decide +kernel
def pf (c : Int) (l : Addr) : List (Str × V) := [("cold", .int c), ("_pieces", .ref l)]
theorem pf_put (c : Int) (l : Addr) : putF "_pieces" (.ref l) (putF "cold" (.int c) []) = pf c l := by
  show (if ("cold" : Str) = "_pieces" then [(("cold" : Str), V.ref l)] else (("cold" : Str), V.int c) :: putF "_pieces" (.ref l) []) = _
  rw [if_neg is_cp]
  rfl
theorem pf_cold (c : Int) (l : Addr) : (pf c l).lookup ("cold" : Str) = some (.int c) := by
  rw [← pf_put, lookup_putF, if_neg is_cp, lookup_putF, if_pos rfl]
theorem pf_pieces (c : Int) (l : Addr) : (pf c l).lookup ("_pieces" : Str) = some (.ref l) := by
  rw [← pf_put, lookup_putF, if_pos rfl]
/-- at x stands a profile with so many cold accesses and just these pieces -/
def PfAt (C : Addr) (H : Hp) (x : Addr) (c : Int) (rs : List Pc) : Prop := ∃ dx l, H x = some (.ins C dx (pf c l)) ∧ Pcs H l rs
theorem PfAt.nx {C : Addr} {H H' : Hp} {x : Addr} {c : Int} {rs : List Pc} (e : Nx H H') (h : PfAt C H x c rs) : PfAt C H' x c rs := by
  obtain ⟨dx, l, h1, h2⟩ := h
  exact ⟨dx, l, e.at h1, h2.nx e⟩
theorem PfAt.mono {C : Addr} {H H' : Hp} {x : Addr} {c : Int} {rs : List Pc} (e : Ex H H') (h : PfAt C H x c rs) : PfAt C H' x c rs := h.nx e.nx
/-- pieces of which no number is too great to be multiplied -/
def Bd (rs : List Pc) : Prop := ∀ p ∈ rs, Pok p ∧ p.2.1 ≤ 10 ^ 300 ∧ p.2.2 ≤ 10 ^ 300
/-- valid pieces, ascending, of numbers that are not too great -/
structure Val (ps : List Pc) : Prop where
  bd : ∀ p ∈ ps, Pok p ∧ p.2.1 ≤ 10 ^ 200 ∧ p.2.2 ≤ 10 ^ 200
  asc : ps.Pairwise fun a b => a.2.1 < b.1
  few : ps.length ≤ 200000
theorem Val.pok {ps : List Pc} (V : Val ps) : ∀ p ∈ ps, Pok p := fun p hp => (V.bd p hp).1
theorem Val.tsum_le {ps : List Pc} (V : Val ps) : tsum ps ≤ 200000 * 10 ^ 200 := by
  have go : ∀ ps : List Pc, (∀ p ∈ ps, p.2.2 ≤ 10 ^ 200) → tsum ps ≤ (ps.length : Int) * 10 ^ 200 := by
    intro ps
    induction ps with
    | nil => intro _; exact Int.le_refl _
    | cons p r ih =>
      intro h
      have e : tsum (p :: r) = p.2.2 + tsum r := by simp [tsum]
      have := ih fun q hq => h q (List.mem_cons_of_mem _ hq)
      have := h p (List.mem_cons_self ..)
      rw [e, List.length_cons, Int.natCast_add, Int.add_mul]
      omega
  have := go ps fun p hp => (V.bd p hp).2.2
  have := Int.mul_le_mul_of_nonneg_right (show (ps.length : Int) ≤ 200000 from by have := V.few; omega) (show (0 : Int) ≤ 10 ^ 200 by decide)
  omega
theorem Val.tells {ps rs : List Pc} (V : Val ps) (T : Tells ps rs) : Bd rs := fun p hp => by
  obtain ⟨a, b, c, d, q, hq, e⟩ := T.row V.pok hp
  have := V.tsum_le
  have := (V.bd q hq).2.1
  have g : (200000 : Int) * 10 ^ 200 ≤ 10 ^ 300 := by decide +kernel
  have g2 : (10 : Int) ^ 200 ≤ 10 ^ 300 := by decide +kernel
  exact ⟨⟨a, b, c⟩, by omega, by omega⟩
end Kb

namespace Kb
/-! ### corners -/
theorem Can.asc : ∀ {rs : List Pc}, Can rs → rs.Pairwise fun a b => a.2.1 < b.1
  | [], _ => List.Pairwise.nil
  | p :: r, h => List.pairwise_cons.mpr ⟨fun q hq => Can.above h q hq, Can.asc h.2.2.2⟩
/-! ### distances one by one -/
def reps (l : Int) (n t : Nat) : List Int := (List.range n).flatMap fun (m : Nat) => List.replicate t (l + (m : Int))
def evp (p : Pc) : List Int := reps p.1 (p.2.1 + 1 - p.1).toNat p.2.2.toNat
def ev (ps : List Pc) : List Int := ps.flatMap evp
end Kb

namespace Kb
open PySem PySem.Spec PyProof.Rows L2
/-! ### sets of many ints: set(xs), sorted(s) -/
section
variable {P : Program} {w : World} {A : Around} {E : Value → Shared → Prop} {s : Shared} {a : Addr}
end
section
variable {X : Cx}
end
end Kb

namespace Kb
open PySem PySem.Spec PyProof.Rows L2
/-! ### the mathematics of scans -/
def lo (s : Sc) : Int := if s.2 < s.1 then s.2 else s.1
def hi (s : Sc) : Int := if s.2 > s.1 then s.2 else s.1
def Nn (s : Sc) : Prop := 0 ≤ s.1 ∧ 0 ≤ s.2
def Apart (s t : Sc) : Prop := hi s < lo t ∨ hi t < lo s
structure Good (ss : List Sc) : Prop where
  nn : ∀ s ∈ ss, Nn s
  dis : ss.Pairwise Apart
  few : ss.length ≤ 1000
def spn (s : Sc) : Sc := (lo s, hi s)
theorem spn_le (s : Sc) : (spn s).1 ≤ (spn s).2 := by
  show lo s ≤ hi s
  unfold lo hi
  split <;> split <;> omega
def slen (s : Sc) : Int := (if s.2 - s.1 < 0 then -(s.2 - s.1) else s.2 - s.1) + 1
/-! ### promises -/
def spIsInteger : Sp := fun vs H Q _ => ∃ i : Int, vs = [.int i] ∧ RetV (.bl true) H Q
def spFromZero : Sp := fun vs H Q _ => ∃ i : Int, vs = [.int i] ∧ 0 ≤ i ∧ RetV (.bl true) H Q
/-! ### the addresses of scans, one by one -/
def stp (s : Sc) : Int := if s.1 ≤ s.2 then 1 else -1
def rd (s : Sc) : List Int := (List.range (slen s).toNat).map fun (m : Nat) => s.1 + (m : Int) * stp s
def rdL : List Sc → List Int
  | [] => []
  | s :: r => rd s ++ rdL r
def psum : List Sc → Int
  | [] => 0
  | s :: r => slen s + psum r
def absI (z : Int) : Int := if z < 0 then -z else z
theorem slen_pos (s : Sc) : 1 ≤ slen s := by
  unfold slen
  split <;> omega
theorem rd_len (s : Sc) : (rd s).length = (slen s).toNat := by
  unfold rd
  rw [List.length_map, List.length_range]
theorem rd_get {s : Sc} {i : Nat} (h : i < (slen s).toNat) : (rd s)[i]? = some (if s.1 ≤ s.2 then s.1 + i else s.1 - i) := by
  unfold rd stp
  rw [List.getElem?_map, List.getElem?_range h]
  show some (s.1 + (i : Int) * (if s.1 ≤ s.2 then 1 else -1)) = some _
  congr 1
  split <;> omega
theorem slen_eq (s : Sc) : slen s = hi s - lo s + 1 := by
  unfold slen hi lo
  split <;> split <;> split <;> omega
theorem mem_rd {s : Sc} {a : Int} : a ∈ rd s ↔ lo s ≤ a ∧ a ≤ hi s := by
  constructor
  · intro h
    obtain ⟨i, hi⟩ := List.mem_iff_getElem?.mp h
    have hl : i < (slen s).toNat := by
      rw [← rd_len]
      exact (List.getElem?_eq_some_iff.mp hi).1
    rw [rd_get hl] at hi
    have e := Option.some.inj hi
    have z := slen_eq s
    have p := slen_pos s
    unfold lo Kb.hi at *
    revert e z
    split <;> split <;> split <;> intro e z <;> omega
  · rintro ⟨h1, h2⟩
    have z := slen_eq s
    have p := slen_pos s
    have hl : (if s.1 ≤ s.2 then a - s.1 else s.1 - a).toNat < (slen s).toNat := by
      unfold lo Kb.hi at *
      revert z h1 h2
      split <;> split <;> split <;> intros <;> omega
    refine List.mem_iff_getElem?.mpr ⟨_, (rd_get hl).trans ?_⟩
    congr 1
    unfold lo Kb.hi at *
    revert h1 h2
    split <;> split <;> split <;> intros <;> omega
theorem rdL_app (a b : List Sc) : rdL (a ++ b) = rdL a ++ rdL b := by
  induction a with
  | nil => rfl
  | cons s r ih =>
    show rd s ++ rdL (r ++ b) = (rd s ++ rdL r) ++ rdL b
    rw [ih, List.append_assoc]
theorem psum_app (a b : List Sc) : psum (a ++ b) = psum a + psum b := by
  induction a with
  | nil =>
    show psum b = 0 + psum b
    omega
  | cons s r ih =>
    show slen s + psum (r ++ b) = slen s + psum r + psum b
    rw [ih]
    omega
theorem rdL_len (ss : List Sc) : ((rdL ss).length : Int) = psum ss := by
  induction ss with
  | nil => rfl
  | cons s r ih =>
    show (((rd s ++ rdL r).length : Nat) : Int) = slen s + psum r
    rw [List.length_append, rd_len]
    have := slen_pos s
    omega
theorem psum_snoc {ss : List Sc} {j : Nat} {s : Sc} (h : ss[j]? = some s) : psum (ss.take (j + 1)) = psum (ss.take j) + slen s := by
  rw [List.take_add_one, h, psum_app]
  show _ + (slen s + 0) = _
  omega
theorem mem_rdL {ss : List Sc} {a : Int} : a ∈ rdL ss ↔ ∃ s ∈ ss, lo s ≤ a ∧ a ≤ hi s := by
  induction ss with
  | nil =>
    constructor
    · intro h
      cases h
    · rintro ⟨s, h, _⟩
      cases h
  | cons s r ih =>
    show a ∈ rd s ++ rdL r ↔ _
    rw [List.mem_append, mem_rd, ih]
    constructor
    · rintro (h | ⟨t, ht, h⟩)
      · exact ⟨s, List.mem_cons_self, h⟩
      · exact ⟨t, List.mem_cons_of_mem _ ht, h⟩
    · rintro ⟨t, ht, h⟩
      rcases List.mem_cons.mp ht with e | e
      · subst e
        exact .inl h
      · exact .inr ⟨t, e, h⟩
/-! ### promises -/
def spScanLength : Sp := fun vs H Q _ => ∃ (v : V) (s : Sc), vs = [v] ∧ IsSc H v s ∧ RetV (.int (slen s)) H Q
def spAddressIn : Sp := fun vs H Q _ => ∃ (v : V) (s : Sc) (p : Int), vs = [v, .int p] ∧ IsSc H v s ∧ RetV (.int (if s.1 ≤ s.2 then s.1 + p else s.1 - p)) H Q
def spCount : Sp := fun vs H Q _ => ∃ (a : Addr) (ss : List Sc), vs = [.ref a] ∧ Scs H a ss ∧ Good ss ∧ RetV (.int (psum ss)) H Q
/-! ### data of depth two -/
def pdS (s : Sc) : PyData := .tuple [.int s.1, .int s.2]
def pdL (ss : List Sc) : PyData := .list (ss.map pdS)
def pdI (ns : List Int) : PyData := .list (ns.map .int)
theorem shaped_I (ns : List Int) : SeqAt.shaped (pdI ns) = true := by
  have h1 : PyData.canLayAll0 (ns.map PyData.int) = true := by
    induction ns with
    | nil => rfl
    | cons s r ih =>
      show (true && PyData.canLayAll0 (r.map PyData.int)) = true
      rw [ih]
      rfl
  have h2 : PyData.depthAll (ns.map PyData.int) = 0 := by
    clear h1
    induction ns with
    | nil => rfl
    | cons s r ih =>
      show max 0 (PyData.depthAll (r.map PyData.int)) = 0
      omega
  show (PyData.canLayAll0 (ns.map PyData.int) && decide (PyData.depthAll (ns.map PyData.int) + 1 ≤ 64)) = true
  rw [h1, h2]
  rfl
theorem eqv_S (s t : Sc) : PyData.eqv (pdS s) (pdS t) = decide (s = t) := by
  obtain ⟨a, b⟩ := s
  obtain ⟨c, d⟩ := t
  show ((a == c) && ((b == d) && true)) = _
  rw [Bool.eq_iff_iff]
  simp
theorem eqv_L : ∀ ss ts : List Sc, PyData.eqv (pdL ss) (pdL ts) = decide (ss = ts)
  | [], [] => rfl
  | [], _ :: _ => rfl
  | _ :: _, [] => rfl
  | s :: r, t :: q => by
    show (PyData.eqv (pdS s) (pdS t) && PyData.eqv (pdL r) (pdL q)) = _
    rw [eqv_S, eqv_L r q, Bool.eq_iff_iff]
    simp
theorem eqv_I : ∀ ns ms : List Int, PyData.eqv (pdI ns) (pdI ms) = decide (ns = ms)
  | [], [] => rfl
  | [], _ :: _ => rfl
  | _ :: _, [] => rfl
  | s :: r, t :: q => by
    show ((s == t) && PyData.eqv (pdI r) (pdI q)) = _
    rw [eqv_I r q, Bool.eq_iff_iff]
    simp
theorem Scs.dp {K : PySem.W.Frag} {H : Hp} {a : Addr} {ss : List Sc} (h : Scs H a ss) : Dp K H (.ref a) (pdL ss) := by
  obtain ⟨vs, ha, pa⟩ := h
  have all : ∀ {vs : List V} {ss : List Sc}, Paired (IsSc H) vs ss → DpAll K H vs (ss.map pdS) := by
    intro vs ss p
    induction p with
    | nil => exact .nil
    | cons h t ih =>
      obtain ⟨t0, rfl, ht⟩ := h
      exact .cons (.tup (SqT.of ht) (.cons (.int _) (.cons (.int _) .nil))) ih
  exact .lst (SqL.of ha) (all pa)
theorem dp_ints {K : PySem.W.Frag} {H : Hp} {a : Addr} {ns : List Int} (h : H a = some (.lst (ns.map V.int))) : Dp K H (.ref a) (pdI ns) := by
  have all : ∀ ns : List Int, DpAll K H (ns.map V.int) (ns.map PyData.int) := by
    intro ns
    induction ns with
    | nil => exact .nil
    | cons n r ih => exact .cons (.int n) ih
  exact .lst (SqL.of h) (all ns)
/-! ### promises -/
def spBag : Sp := fun vs H Q _ => ∃ c : Int, vs = [.int c] ∧ ∀ b H', H b = none → Ex H H' → H' b = some (bagO b) → Q (.ref b) H'
def spBag0 : Sp := fun vs H Q _ => ∃ c : Int, vs = [.int c] ∧ ∀ b H' x y z, H b = none → Ex H H' → H' b = some (.lst [.int x, .int y, .int z]) → Q (.ref b) H'
def spPick : Sp := fun vs H Q _ => ∃ (b : Addr) (many : Int), vs = [.ref b, .int many] ∧ H b = some (bagO b) ∧ 1 ≤ many ∧ many ≤ 10 ^ 100 ∧ ∀ n H', 0 ≤ n → n < many → Ex H H' → Q (.int n) H'
def spPick0 : Sp := fun vs H Q _ => ∃ (b : Addr) (many x c t : Int), vs = [.ref b, .int many] ∧ H b = some (.lst [.int x, .int c, .int t]) ∧ 1 ≤ many ∧ many ≤ 10 ^ 100 ∧
  ∀ n H' x' t', 0 ≤ n → n < many → (∀ a o, a ≠ b → H a = some o → H' a = some o) → H' b = some (.lst [.int x', .int c, .int t']) → Q (.int n) H'
def Small (ss : List Sc) : Prop := Good ss ∧ ∀ s ∈ ss, s.1 < 40 ∧ s.2 < 40
def spLaw (K : PySem.W.Frag) : Sp := fun vs H Q _ => ∃ (a : Addr) (ns : List Int), vs = [.ref a] ∧ SqL K H a (ns.map V.int) ∧ ns.length ≤ 63 ∧ ∀ H', Q (.bl true) H'
end Kb

namespace Kb
open PySem PySem.Spec PyProof.Rows L2
/-! ### scans joined -/
def jstep (acc : List Sc) (s : Sc) : List Sc := match acc.getLast? with
  | some t => if absI (s.1 - t.2) = 1 then acc.dropLast ++ [(t.1, s.2)] else acc ++ [s]
  | none => [s]
def jn (ss : List Sc) : List Sc := ss.foldl jstep []
theorem jstep_nil (s : Sc) : jstep [] s = [s] := rfl
theorem jstep_snoc (pre : List Sc) (t s : Sc) : jstep (pre ++ [t]) s = if absI (s.1 - t.2) = 1 then pre ++ [(t.1, s.2)] else pre ++ [t] ++ [s] := by
  unfold jstep
  rw [List.getLast?_concat, List.dropLast_concat]
theorem jn_snoc (ss : List Sc) (s : Sc) : jn (ss ++ [s]) = jstep (jn ss) s := by
  unfold jn
  rw [List.foldl_append]
  rfl
def dup (ns : List Int) : List Sc := ns.map fun a => (a, a)
def al (x c : Int) (n : Nat) : List Int := (List.range n).map fun (m : Nat) => x + (m : Int) * c
theorem jstep_shape (acc : List Sc) (x : Int) : ∃ (pre : List Sc) (u : Int), ∀ z, jstep acc (x, z) = pre ++ [(u, z)] := by
  rcases List.eq_nil_or_concat acc with e | ⟨pre, t, e⟩
  · subst e
    exact ⟨[], x, fun z => rfl⟩
  · rw [List.concat_eq_append] at e
    subst e
    by_cases h : absI (x - t.2) = 1
    · exact ⟨pre, t.1, fun z => by rw [jstep_snoc, if_pos h]⟩
    · exact ⟨pre ++ [t], x, fun z => by rw [jstep_snoc, if_neg h]⟩
theorem fold_al (acc : List Sc) (x c : Int) (hc : c = 1 ∨ c = -1) : ∀ n : Nat, (dup (al x c (n + 1))).foldl jstep acc = jstep acc (x, x + (n : Int) * c)
  | 0 => by
    show jstep acc (x + ((0 : Nat) : Int) * c, x + ((0 : Nat) : Int) * c) = _
    have e : x + ((0 : Nat) : Int) * c = x := by simp
    rw [e]
  | n + 1 => by
    have e : al x c (n + 1 + 1) = al x c (n + 1) ++ [x + ((n + 1 : Nat) : Int) * c] := by
      unfold al
      rw [List.range_succ, List.map_append]
      rfl
    rw [e]
    unfold dup
    rw [List.map_append, List.foldl_append]
    have ih := fold_al acc x c hc n
    unfold dup at ih
    rw [ih]
    obtain ⟨pre, u, h⟩ := jstep_shape acc x
    rw [h, h]
    show jstep (pre ++ [(u, x + (n : Int) * c)]) (x + ((n + 1 : Nat) : Int) * c, x + ((n + 1 : Nat) : Int) * c) = _
    rw [jstep_snoc]
    have e2 : x + ((n + 1 : Nat) : Int) * c - (x + (n : Int) * c) = c := by
      rw [Int.natCast_add, Int.add_mul]
      show x + ((n : Int) * c + ((1 : Nat) : Int) * c) - (x + (n : Int) * c) = c
      rw [show ((1 : Nat) : Int) * c = c from Int.one_mul c]
      omega
    rw [if_pos]
    show absI (x + ((n + 1 : Nat) : Int) * c - (x + (n : Int) * c)) = 1
    rw [e2]
    rcases hc with rfl | rfl <;> rfl
theorem fold_rd (acc : List Sc) (s : Sc) : (dup (rd s)).foldl jstep acc = jstep acc s := by
  have p := slen_pos s
  obtain ⟨n, hn⟩ : ∃ n : Nat, (slen s).toNat = n + 1 := ⟨(slen s).toNat - 1, by omega⟩
  have e : rd s = al s.1 (stp s) (n + 1) := by
    unfold rd al
    rw [hn]
  have hc : stp s = 1 ∨ stp s = -1 := by
    unfold stp
    split
    · exact .inl rfl
    · exact .inr rfl
  rw [e, fold_al acc _ _ hc]
  congr 1
  have z := hn
  unfold slen at z
  unfold stp
  refine Prod.ext rfl ?_
  show s.1 + (n : Int) * (if s.1 ≤ s.2 then 1 else -1) = s.2
  revert z
  split <;> split <;> intro z <;> omega
theorem fold_rdL : ∀ (ss : List Sc) (acc : List Sc), (dup (rdL ss)).foldl jstep acc = ss.foldl jstep acc
  | [], acc => rfl
  | s :: r, acc => by
    show ((rd s ++ rdL r).map fun a => (a, a)).foldl jstep acc = (r.foldl jstep (jstep acc s))
    rw [List.map_append, List.foldl_append]
    have h1 := fold_rd acc s
    have h2 := fold_rdL r (jstep acc s)
    unfold dup at h1 h2
    rw [h1, h2]
theorem jn_rdL (ss : List Sc) : jn (dup (rdL ss)) = jn ss := fold_rdL ss []
def swp (s : Sc) : Sc := (s.2, s.1)
theorem rd_swp (s : Sc) : rd (swp s) = (rd s).reverse := by
  have l : slen (swp s) = slen s := by
    unfold slen swp
    show (if s.1 - s.2 < 0 then -(s.1 - s.2) else s.1 - s.2) + 1 = _
    split <;> split <;> omega
  refine List.ext_getElem? fun i => ?_
  by_cases h : i < (slen s).toNat
  · rw [rd_get (by rw [l]; exact h), List.getElem?_reverse (by rw [rd_len]; exact h), rd_len, rd_get (by omega)]
    congr 1
    have z2 : (((slen s).toNat : Nat) : Int) = (if s.2 - s.1 < 0 then -(s.2 - s.1) else s.2 - s.1) + 1 := by
      have := slen_pos s
      show _ = slen s
      omega
    generalize (slen s).toNat = n at h z2 ⊢
    show (if s.2 ≤ s.1 then s.2 + (i : Int) else s.2 - (i : Int)) = _
    revert z2
    split <;> split <;> split <;> intro z2 <;> omega
  · rw [List.getElem?_eq_none (by rw [rd_len, l]; omega), List.getElem?_eq_none (by rw [List.length_reverse, rd_len]; omega)]
theorem rdL_rev : ∀ ss : List Sc, rdL (ss.reverse.map swp) = (rdL ss).reverse
  | [] => rfl
  | s :: r => by
    rw [List.reverse_cons, List.map_append, rdL_app, rdL_rev r]
    show (rdL r).reverse ++ (rd (swp s) ++ []) = (rd s ++ rdL r).reverse
    rw [List.append_nil, rd_swp, List.reverse_append]
theorem jn_len : ∀ (ss : List Sc), (jn ss).length ≤ ss.length := by
  have key : ∀ (ss acc : List Sc), (ss.foldl jstep acc).length ≤ acc.length + ss.length := by
    intro ss
    induction ss with
    | nil => intro acc; exact Nat.le_refl _
    | cons s r ih =>
      intro acc
      have h := ih (jstep acc s)
      have h2 : (jstep acc s).length ≤ acc.length + 1 := by
        rcases List.eq_nil_or_concat acc with e | ⟨pre, t, e⟩
        · subst e
          exact Nat.le_refl _
        · rw [List.concat_eq_append] at e
          subst e
          rw [jstep_snoc]
          split
          · rw [List.length_append, List.length_append]
            show pre.length + 1 ≤ pre.length + 1 + 1
            omega
          · rw [List.length_append]
            exact Nat.le_refl _
      show (r.foldl jstep (jstep acc s)).length ≤ acc.length + (r.length + 1)
      omega
  intro ss
  have := key ss []
  simpa [jn] using this
/-- what a joined list's ends are -/
def Cd (B : Int) (ss : List Sc) : Prop := ∀ s ∈ ss, 0 ≤ s.1 ∧ s.1 < B ∧ 0 ≤ s.2 ∧ s.2 < B
/-! ### joined lists as they are printed -/
/-! ### a joined list stays so -/
def Loose (l : List Sc) : Prop := ∀ (i : Nat) (a b : Sc), l[i]? = some a → l[i + 1]? = some b → absI (b.1 - a.2) ≠ 1
theorem lo_hi (s : Sc) : lo s ≤ hi s := spn_le s
theorem merge {t s : Sc} (a : Apart t s) (h : absI (s.1 - t.2) = 1) : (lo (t.1, s.2) = lo t ∧ hi (t.1, s.2) = hi s ∧ hi t + 1 = lo s) ∨ (lo (t.1, s.2) = lo s ∧ hi (t.1, s.2) = hi t ∧ hi s + 1 = lo t) := by
  obtain ⟨u, v⟩ := t
  obtain ⟨x, y⟩ := s
  unfold Apart lo hi absI at *
  revert a h
  show ((if v > u then v else u) < (if y < x then y else x) ∨ (if y > x then y else x) < (if v < u then v else u)) → (if x - v < 0 then -(x - v) else x - v) = 1 →
    ((if y < u then y else u) = (if v < u then v else u) ∧ (if y > u then y else u) = (if y > x then y else x) ∧ (if v > u then v else u) + 1 = (if y < x then y else x)) ∨
    ((if y < u then y else u) = (if y < x then y else x) ∧ (if y > u then y else u) = (if v > u then v else u) ∧ (if y > x then y else x) + 1 = (if v < u then v else u))
  split <;> split <;> split <;> split <;> split <;> split <;> split <;> intros <;> omega
theorem merge_apart {t s z : Sc} (a : Apart t s) (h : absI (s.1 - t.2) = 1) (h1 : Apart z t) (h2 : Apart z s) : Apart z (t.1, s.2) := by
  have m := merge a h
  have c := lo_hi z
  unfold Apart at h1 h2 ⊢
  omega
theorem Apart.symm {s t : Sc} (h : Apart s t) : Apart t s := Or.symm h
theorem apart_step {acc r : List Sc} {s : Sc} (h : (acc ++ s :: r).Pairwise Apart) : (jstep acc s ++ r).Pairwise Apart := by
  rcases List.eq_nil_or_concat acc with e | ⟨pre, t, e⟩
  · subst e
    exact h
  · rw [List.concat_eq_append] at e
    subst e
    rw [jstep_snoc]
    by_cases hc : absI (s.1 - t.2) = 1
    · rw [if_pos hc]
      rw [List.append_assoc] at h ⊢
      obtain ⟨p1, p2, p3⟩ := List.pairwise_append.mp h
      obtain ⟨q1, q2⟩ := List.pairwise_cons.mp (show (t :: (s :: r)).Pairwise Apart from p2)
      obtain ⟨q3, q4⟩ := List.pairwise_cons.mp q2
      have ats := q1 s List.mem_cons_self
      refine List.pairwise_append.mpr ⟨p1, List.pairwise_cons.mpr ⟨fun z hz => ?_, q4⟩, fun a ha b hb => ?_⟩
      · exact (merge_apart ats hc (q1 z (List.mem_cons_of_mem _ hz)).symm (q3 z hz).symm).symm
      · rcases List.mem_cons.mp (show b ∈ (t.1, s.2) :: r from hb) with e | e
        · rw [e]
          exact merge_apart ats hc (p3 a ha t (List.mem_append_left _ (List.mem_singleton.mpr rfl))) (p3 a ha s (List.mem_append_right _ List.mem_cons_self))
        · exact p3 a ha b (List.mem_append_right _ (List.mem_cons_of_mem _ e))
    · rw [if_neg hc, List.append_assoc]
      exact h
theorem apart_jn {ss : List Sc} (h : ss.Pairwise Apart) : (jn ss).Pairwise Apart := by
  have key : ∀ (r acc : List Sc), (acc ++ r).Pairwise Apart → (r.foldl jstep acc).Pairwise Apart := by
    intro r
    induction r with
    | nil =>
      intro acc h
      rw [List.append_nil] at h
      exact h
    | cons s r ih => intro acc h; exact ih _ (apart_step h)
  exact key ss [] h
end Kb

namespace Kb
open PySem PySem.Spec PyProof.Rows L2
theorem small20 {n : Nat} (h : n ≤ 2 ^ 20) : n < sizeLine := Nat.lt_of_le_of_lt h (by decide)
theorem Pa.concat {H : Hp} {pre : List V} {v : V} {l : List Sc} (h : Paired (IsSc H) (pre ++ [v]) l) : ∃ (pre' : List Sc) (t : Sc), l = pre' ++ [t] ∧ Paired (IsSc H) pre pre' ∧ IsSc H v t := by
  have r : Paired (IsSc H) (v :: pre.reverse) l.reverse := by
    have z := Pa.rev h
    rw [List.reverse_append] at z
    exact z
  generalize e : l.reverse = m at r
  cases r with
  | @cons _ t _ q h1 h2 =>
    have z := congrArg List.reverse e
    rw [List.reverse_reverse, List.reverse_cons] at z
    have y := Pa.rev h2
    rw [List.reverse_reverse] at y
    exact ⟨q.reverse, t, z, y, h1⟩
theorem ix_last {α : Type} (pre : List α) (v : α) : ixN (pre ++ [v]).length (-1) = some pre.length := by
  unfold ixN
  rw [List.length_append]
  show (if (0 : Int) ≤ -1 then _ else if -(((pre.length + 1 : Nat)) : Int) ≤ -1 then some ((-1 : Int) + ((pre.length + 1 : Nat) : Int)).toNat else none) = _
  rw [if_neg (by decide), if_pos (by omega)]
  congr 1
  omega
theorem set_last {α : Type} (pre : List α) (v u : α) : (pre ++ [v]).set pre.length u = pre ++ [u] := by
  rw [List.set_append_right (h := Nat.le_refl _), Nat.sub_self]
  rfl
theorem eq_nil_or_snoc {α : Type} (l : List α) : l = [] ∨ ∃ (pre : List α) (t : α), l = pre ++ [t] := by
  rcases List.eq_nil_or_concat l with e | ⟨pre, t, e⟩
  · exact .inl e
  · exact .inr ⟨pre, t, by rw [e, List.concat_eq_append]⟩
def spJoined : Sp := fun vs H Q _ => ∃ (a : Addr) (ss : List Sc), vs = [.ref a] ∧ Scs H a ss ∧ ss.length ≤ 2 ^ 20 ∧ ∀ p H', H p = none → Ex H H' → Scs H' p (jn ss) → Q (.ref p) H'
def JW (H : Hp) (a p : Addr) (ss : List Sc) (i : Nat) (σ : L2.St) (H1 : Hp) : Prop := ∃ y2 y3 us, σ = [some (.ref a), some (.ref p), y2, y3] ∧ Ex H H1 ∧ H1 p = some (.lst us) ∧ Paired (IsSc H1) us (jn (ss.take i))
theorem jw_snoc {H : Hp} {a p : Addr} {ss : List Sc} {i : Nat} {s : Sc} (gs : ss[i]? = some s) : jn (ss.take (i + 1)) = jstep (jn (ss.take i)) s := by
  rw [List.take_add_one, gs]
  exact jn_snoc _ _
theorem jw_app {H H1 : Hp} {a p q : Addr} {ss : List Sc} {i : Nat} {x y : Int} {us : List V} (np : H p = none) (gs : ss[i]? = some (x, y)) (e : Ex H H1) (hp : H1 p = some (.lst us)) (pu : Paired (IsSc H1) us (jn (ss.take i))) (nq : H1 q = none)
    (hj : jstep (jn (ss.take i)) (x, y) = jn (ss.take i) ++ [(x, y)]) {σ : L2.St} (es : ∃ y2 y3, σ = [some (.ref a), some (.ref p), y2, y3]) : JW H a p ss (i + 1) σ (upd (upd H1 q (.tup [.int x, .int y])) p (.lst (us ++ [.ref q]))) := by
  obtain ⟨y2, y3, rfl⟩ := es
  have n : p ≠ q := ne_of_none hp nq
  refine ⟨y2, y3, us ++ [.ref q], rfl, (e.add nq).mut np, upd_same, ?_⟩
  rw [jw_snoc (H := H) (a := a) (p := p) gs, hj]
  exact Pa.lset ((upd_ne n).trans hp) (Pa.snoc (Pa.mono (Ex.new nq) pu) ⟨q, rfl, upd_same⟩)
theorem jw_set {H H1 : Hp} {a p q : Addr} {ss : List Sc} {i : Nat} {x y : Int} {pre : List V} {v : V} {pre' : List Sc} {t : Sc} (np : H p = none) (gs : ss[i]? = some (x, y)) (e : Ex H H1) (hp : H1 p = some (.lst (pre ++ [v]))) (pu : Paired (IsSc H1) pre pre') (nq : H1 q = none)
    (ej : jn (ss.take i) = pre' ++ [t]) (hc : absI (x - t.2) = 1) {σ : L2.St} (es : ∃ y2 y3, σ = [some (.ref a), some (.ref p), y2, y3]) : JW H a p ss (i + 1) σ (upd (upd H1 q (.tup [.int t.1, .int y])) p (.lst ((pre ++ [v]).set pre.length (.ref q)))) := by
  obtain ⟨y2, y3, rfl⟩ := es
  have n : p ≠ q := ne_of_none hp nq
  refine ⟨y2, y3, _, rfl, (e.add nq).mut np, upd_same, ?_⟩
  rw [jw_snoc (H := H) (a := a) (p := p) gs, ej, jstep_snoc, if_pos hc, set_last]
  exact Pa.lset ((upd_ne n).trans hp) (Pa.snoc (Pa.mono (Ex.new nq) pu) ⟨q, rfl, upd_same⟩)
def Sm (ss : List Sc) : Prop := Small ss ∧ ss.length ≤ 60
end Kb

namespace Kb
open PySem PySem.Spec PyProof.Rows L2
/-! ### min, max of a pair -/
section
variable {prog : Program} {w : World} {A : Around} {E : Value → Shared → Prop} {s : Shared}
theorem tup_iter {l : Addr} {its : Array Value} {Q : Value → Shared → Prop} (hl : s.heap.IsTuple l its)
    (h : ∀ s2 : Shared, s2 = { s with heap := s.heap.push { cls := .type "tuple_iterator", data := .fields #[.ref l, .int 0 0] } } → (s2.heap.IsTupleIter s.heap.objs.size l 0 ∧ s2.heap.IsTuple l its) → (∀ b ∈ [s.heap.objs.size, l], b < s2.heap.objs.size) → l ≠ s.heap.objs.size → Q (.ref s.heap.objs.size) s2) :
    wpAny (model prog w) A (pyIter (.ref l)) Q E s := by
  have lt : l < s.heap.objs.size := by
    obtain ⟨_, e, _⟩ := hl
    exact Heap.lt_size e
  refine wpAny_pyIter_tuple hl (h _ rfl ⟨⟨_, Heap.get?_push_size _ rfl, rfl, rfl⟩, hl.push _⟩ (fun b hb => ?_) (Nat.ne_of_lt lt))
  show b < (s.heap.push _).objs.size
  rw [Heap.size_push]
  rcases List.mem_cons.mp hb with e | e
  · rw [e]
    exact Nat.lt_succ_self _
  · rw [List.mem_singleton.mp e]
    exact Nat.lt_succ_of_lt lt
end
def fn2 (x y : Int) : Nat → Int := fun i => if i = 0 then x else y
theorem pair_at {x y : Int} {t u : Tok} (i : Nat) (v : Value) (h : (#[Value.int x t, Value.int y u] : Array Value)[i]? = some v) : ∃ k, v = .int (fn2 x y i) k := by
  match i, h with
  | 0, h =>
    cases h
    exact ⟨t, rfl⟩
  | 1, h =>
    cases h
    exact ⟨u, rfl⟩
  | i + 2, h => simp at h
section
variable {X : Cx}
theorem cr_minT (hc : X.calm = true) : CallR X (.builtin "min") (fun vs H Q => ∃ (a : Addr) (x y : Int), vs = [.ref a] ∧ H a = some (.tup [.int x, .int y]) ∧ Q (.int (if y < x then y else x)) H) := by
  intro pins s σ H vs us Q I r h
  obtain ⟨a, x, y, rfl, ha, q⟩ := h
  rw [Vals.ref1 r]
  obtain ⟨its, rv, pt, _⟩ := I.tuple (SqT.of ha)
  obtain ⟨u1, u2, rfl, ⟨t, rfl⟩, ⟨u, rfl⟩⟩ := vals2 rv
  refine call_min_walk (tup_iter (its := #[Value.int x t, Value.int y u]) pt fun s2 e st hfp ne => ?_)
  subst e
  refine ⟨_, _, _, _, _, _, _, rfl, Walks.tuple (A := X.A.in1) (I.ok.hd hc) _ a ne _, st, hfp, Nat.succ_pos 1, CmpOf.ints_lt (fn2 x y) pair_at, fun v h' tk hP hk => ?_⟩
  obtain ⟨k, rfl⟩ := pair_at _ _ hP
  obtain ⟨b1, b2⟩ := argBest_lt (fn2 x y) 1
  have c0 := b2 0 (by decide)
  have c1 := b2 1 (by decide)
  have e : fn2 x y (argBest (fun i j => decide (fn2 x y i < fn2 x y j)) 1) = if y < x then y else x := by
    generalize argBest (fun i j => decide (fn2 x y i < fn2 x y j)) 1 = m at b1 c0 c1
    have d : m = 0 ∨ m = 1 := by omega
    rcases d with rfl | rfl
    · have z : x ≤ y := c1
      show x = _
      rw [if_neg (by omega)]
    · have z : y ≤ x := c0
      show y = _
      split <;> omega
  refine ⟨.int _, H, I.kept (t' := tk) fun b o eo => hk b o (fun hm => ?_) (Heap.get?_push_of_some _ eo), ⟨k, rfl⟩, ?_⟩
  · rcases List.mem_cons.mp hm with e1 | hm
    · exact absurd (e1 ▸ Heap.lt_size eo) (Nat.lt_irrefl _)
    · cases hm
  · show Q (.int (fn2 x y (argBest (fun i j => decide (fn2 x y i < fn2 x y j)) 1))) H
    rw [e]
    exact q
theorem cr_maxT (hc : X.calm = true) : CallR X (.builtin "max") (fun vs H Q => ∃ (a : Addr) (x y : Int), vs = [.ref a] ∧ H a = some (.tup [.int x, .int y]) ∧ Q (.int (if y > x then y else x)) H) := by
  intro pins s σ H vs us Q I r h
  obtain ⟨a, x, y, rfl, ha, q⟩ := h
  rw [Vals.ref1 r]
  obtain ⟨its, rv, pt, _⟩ := I.tuple (SqT.of ha)
  obtain ⟨u1, u2, rfl, ⟨t, rfl⟩, ⟨u, rfl⟩⟩ := vals2 rv
  refine call_max_walk (tup_iter (its := #[Value.int x t, Value.int y u]) pt fun s2 e st hfp ne => ?_)
  subst e
  refine ⟨_, _, _, _, _, _, _, rfl, Walks.tuple (A := X.A.in1) (I.ok.hd hc) _ a ne _, st, hfp, Nat.succ_pos 1, CmpOf.ints_gt (fn2 x y) pair_at, fun v h' tk hP hk => ?_⟩
  obtain ⟨k, rfl⟩ := pair_at _ _ hP
  obtain ⟨b1, b2⟩ := argBest_gt (fn2 x y) 1
  have c0 := b2 0 (by decide)
  have c1 := b2 1 (by decide)
  have e : fn2 x y (argBest (fun i j => decide (fn2 x y i > fn2 x y j)) 1) = if y > x then y else x := by
    generalize argBest (fun i j => decide (fn2 x y i > fn2 x y j)) 1 = m at b1 c0 c1
    have d : m = 0 ∨ m = 1 := by omega
    rcases d with rfl | rfl
    · have z : y ≤ x := c1
      show x = _
      rw [if_neg (by omega)]
    · have z : x ≤ y := c0
      show y = _
      split <;> omega
  refine ⟨.int _, H, I.kept (t' := tk) fun b o eo => hk b o (fun hm => ?_) (Heap.get?_push_of_some _ eo), ⟨k, rfl⟩, ?_⟩
  · rcases List.mem_cons.mp hm with e1 | hm
    · exact absurd (e1 ▸ Heap.lt_size eo) (Nat.lt_irrefl _)
    · cases hm
  · show Q (.int (fn2 x y (argBest (fun i j => decide (fn2 x y i > fn2 x y j)) 1))) H
    rw [e]
    exact q
end
/-! ### parts of scans -/
def seg (a b : Int) : List Int := (List.range (b + 1 - a).toNat).map fun (m : Nat) => a + (m : Int)
theorem seg_nil {a b : Int} (h : b < a) : seg a b = [] := by
  unfold seg
  rw [show (b + 1 - a).toNat = 0 by omega]
  rfl
theorem seg_cons {a b : Int} (h : a ≤ b) : seg a b = a :: seg (a + 1) b := by
  unfold seg
  obtain ⟨n, hn⟩ : ∃ n : Nat, (b + 1 - a).toNat = n + 1 := ⟨(b + 1 - a).toNat - 1, by omega⟩
  rw [hn, show (b + 1 - (a + 1)).toNat = n by omega, List.range_succ_eq_map, List.map_cons, List.map_map]
  congr 1
  · show a + ((0 : Nat) : Int) = a
    omega
  · refine List.map_congr_left fun m _ => ?_
    show a + ((m + 1 : Nat) : Int) = a + 1 + (m : Int)
    omega
theorem rd_up {s : Sc} (h : s.1 ≤ s.2) : rd s = seg s.1 s.2 := by
  unfold rd seg stp slen
  rw [if_pos h, if_neg (by omega), show (s.2 - s.1 + 1).toNat = (s.2 + 1 - s.1).toNat by omega]
  refine List.map_congr_left fun m _ => ?_
  omega
theorem rd_dn {s : Sc} (h : s.2 ≤ s.1) : rd s = (seg s.2 s.1).reverse := by
  have e : s = swp (swp s) := rfl
  rw [e, rd_swp, rd_up (s := swp s) h]
  rfl
def ends (s : Sc) (l h : Int) : List Sc := [(lo s, if l - 1 < hi s then l - 1 else hi s), (if h + 1 > lo s then h + 1 else lo s, hi s)]
def hd (s : Sc) (m : Int) : Sc := (s.1, if s.1 ≤ s.2 then s.1 + ((if slen s < m then slen s else m) - 1) else s.1 - ((if slen s < m then slen s else m) - 1))
end Kb

namespace Kb
open PySem PySem.Spec PyProof.Rows L2
/-! ### a comprehension of two loops -/
section
variable {K : PySem.W.Frag} {a b : Addr} {xs ys : List V} {g g1 : TG} {tt tt1 : TT} {wi1 : TI} {te : TE} {vs vs1 : List Nat} {σ σ2 : L2.St} {H1 H4 : Hp} {D : Addr} {Qd N : Hp → Prop}
def InOk (g1 : TG) (tt1 : TT) (te : TE) (vs1 : List Nat) (σ2 : L2.St) (D : Addr) (N : Hp → Prop) (J : It) (H4 : Hp) : Prop :=
  ∃ W1 : Nat → Nat → Hp → Prop, (∃ m, W1 0 m H4) ∧ ∀ j k H, W1 j k H →
    (J.stop j H ∧ N H) ∨ (J.go j H ∧ ∃ N1 : Hp → Prop, (∀ H', N1 H' → ∃ k', k' < k ∧ W1 (j + 1) k' H') ∧ ∀ x H', J.yld j H x H' →
      g1 x (wipe σ2 vs1) H' fun σ3 H5 => wipe σ3 vs1 = wipe σ2 vs1 ∧ tt1 σ3 H5 fun c H6 => if c = true then te σ3 H6 fun y H7 => ∃ acc, H7 D = some (.lst acc) ∧ acc.length < sizeLine ∧ N1 (upd H7 D (.lst (acc ++ [y]))) else N1 H6)
theorem in_list (Pw : Nat → Hp → Prop) (h0 : Pw 0 H4) (hl : ∀ j H, j ≤ ys.length → Pw j H → SqL K H b ys)
    (hs : ∀ j x H, ys[j]? = some x → Pw j H → g1 x (wipe σ2 vs1) H fun σ3 H5 => wipe σ3 vs1 = wipe σ2 vs1 ∧ tt1 σ3 H5 fun c H6 => if c = true then te σ3 H6 fun y H7 => ∃ acc, H7 D = some (.lst acc) ∧ acc.length < sizeLine ∧ Pw (j + 1) (upd H7 D (.lst (acc ++ [y]))) else Pw (j + 1) H6)
    (hd : ∀ H, Pw ys.length H → N H) : InOk g1 tt1 te vs1 σ2 D N (Itl K b) H4 := by
  refine ⟨fun j k H => k = ys.length - j ∧ j ≤ ys.length ∧ Pw j H, ⟨ys.length, by simp, Nat.zero_le _, h0⟩, ?_⟩
  rintro j k H ⟨rfl, hj, p⟩
  have q := hl j H hj p
  by_cases lt : j < ys.length
  · refine .inr ⟨⟨ys, ys[j], q, List.getElem?_eq_getElem lt⟩, Pw (j + 1), fun H' p' => ⟨ys.length - (j + 1), by omega, rfl, lt, p'⟩, fun x H' y => ?_⟩
    rw [y.1]
    exact hs j x _ (y.2 ys q) p
  · rw [show j = ys.length by omega] at p ⊢
    exact .inl ⟨⟨ys, q, Nat.le_refl _⟩, hd H p⟩
theorem two_list (Pv : Nat → Hp → Prop) (h0 : Pv 0 (upd H1 D (.lst []))) (hl : ∀ i H, i ≤ xs.length → Pv i H → SqL K H a xs)
    (hs : ∀ i x H, xs[i]? = some x → Pv i H → g x (wipe σ vs) H fun σ2 H2 => wipe σ2 vs = wipe σ vs ∧ tt σ2 H2 fun c H3 => if c = true then wi1 σ2 H3 (InOk g1 tt1 te vs1 σ2 D (Pv (i + 1))) else Pv (i + 1) H3)
    (hd : ∀ H, Pv xs.length H → Qd H) :
    ∃ W : Nat → Nat → Hp → Prop, (∃ m, W 0 m (upd H1 D (.lst []))) ∧ ∀ i m H, W i m H →
      ((Itl K a).stop i H ∧ Qd H) ∨ ((Itl K a).go i H ∧ ∃ N : Hp → Prop, (∀ H', N H' → ∃ m', m' < m ∧ W (i + 1) m' H') ∧ ∀ x H', (Itl K a).yld i H x H' →
        g x (wipe σ vs) H' fun σ2 H2 => wipe σ2 vs = wipe σ vs ∧ tt σ2 H2 fun c H3 => if c = true then wi1 σ2 H3 (InOk g1 tt1 te vs1 σ2 D N) else N H3) := by
  refine ⟨fun i m H => m = xs.length - i ∧ i ≤ xs.length ∧ Pv i H, ⟨xs.length, by simp, Nat.zero_le _, h0⟩, ?_⟩
  rintro i m H ⟨rfl, hi, p⟩
  have q := hl i H hi p
  by_cases lt : i < xs.length
  · refine .inr ⟨⟨xs, xs[i], q, List.getElem?_eq_getElem lt⟩, Pv (i + 1), fun H' p' => ⟨xs.length - (i + 1), by omega, rfl, lt, p'⟩, fun x H' y => ?_⟩
    rw [y.1]
    exact hs i x _ (y.2 xs q) p
  · rw [show i = xs.length by omega] at p ⊢
    exact .inl ⟨⟨xs, q, Nat.le_refl _⟩, hd H p⟩
end
/-! ### promises of the parts -/
end Kb

namespace Kb
open PySem PySem.Spec PyProof.Rows L2
abbrev AscP (ps : List Pc) : Prop := ps.Pairwise fun a b => a.2.1 < b.1
def spIsPiece : Sp := fun vs H Q _ => ∃ (v : V) (p : Pc), vs = [v] ∧ IsPc H v p ∧ Pok p ∧ RetV (.bl true) H Q
def spArePieces : Sp := fun vs H Q _ => ∃ (a : Addr) (ps : List Pc), vs = [.ref a] ∧ Pcs H a ps ∧ (∀ p ∈ ps, Pok p) ∧ AscP ps ∧ ps.length ≤ 400000 ∧ RetV (.bl true) H Q
def spCheckDist : Sp := fun vs H Q _ => ∃ (c : Int) (a : Addr) (ps : List Pc), vs = [.int c, .ref a] ∧ 0 ≤ c ∧ Pcs H a ps ∧ (∀ p ∈ ps, Pok p) ∧ AscP ps ∧ ps.length ≤ 400000 ∧ RetV .non H Q
def spFlat : Sp := fun vs H Q _ => ∃ (a : Addr) (ps : List Pc), vs = [.ref a] ∧ Pcs H a ps ∧ ps.length ≤ 200000 ∧ ∀ p H' rs, H p = none → Ex H H' → Pcs H' p rs → Tells ps rs → rs.length ≤ 2 * ps.length → Q (.ref p) H'
/-- a profile as the methods want it -/
structure Pf (C : Addr) (H : Hp) (x : Addr) (c : Int) (rs : List Pc) : Prop where
  at_ : PfAt C H x c rs
  bd : Bd rs
  can : Can rs
  few : rs.length ≤ 400000
theorem Pf.nx {C : Addr} {H H' : Hp} {x : Addr} {c : Int} {rs : List Pc} (e : Nx H H') (h : Pf C H x c rs) : Pf C H' x c rs := ⟨h.at_.nx e, h.bd, h.can, h.few⟩
theorem Pf.mono {C : Addr} {H H' : Hp} {x : Addr} {c : Int} {rs : List Pc} (e : Ex H H') (h : Pf C H x c rs) : Pf C H' x c rs := h.nx e.nx
end Kb

namespace Kb
open PySem PySem.Spec PyProof.Rows L2
/-! ### a dict of ints to ints -/
structure DI (kvs : List (Key × V)) (f : Int → Int) (ks : List Int) : Prop where
  keys : kvs.map (·.1) = ks.map Sum.inl
  nd : ks.Nodup
  val : ∀ n : Int, valV kvs (Sum.inl n) = if n ∈ ks then some (.int (f n)) else none
  zero : ∀ n, n ∉ ks → f n = 0
theorem DI.nil : DI [] (fun _ => 0) [] := ⟨rfl, List.nodup_nil, fun n => rfl, fun _ _ => rfl⟩
theorem DI.getD {kvs : List (Key × V)} {f : Int → Int} {ks : List Int} (h : DI kvs f ks) (n : Int) : (valV kvs (Sum.inl n)).getD (.int 0) = .int (f n) := by
  rw [h.val]
  by_cases c : n ∈ ks
  · rw [if_pos c]
    rfl
  · rw [if_neg c, h.zero n c]
    rfl
theorem DI.len {kvs : List (Key × V)} {f : Int → Int} {ks : List Int} (h : DI kvs f ks) : kvs.length = ks.length := by
  have := congrArg List.length h.keys
  rwa [List.length_map, List.length_map] at this
theorem DI.put {kvs : List (Key × V)} {f : Int → Int} {ks : List Int} (h : DI kvs f ks) (k v : Int) :
    ∃ ks', DI (putK kvs (Sum.inl k) (.int v)) (fun x => if x = k then v else f x) ks' ∧ k ∈ ks' ∧ (∀ x ∈ ks, x ∈ ks') ∧ ks'.length ≤ ks.length + 1 := by
  by_cases c : k ∈ ks
  · refine ⟨ks, ⟨?_, h.nd, fun n => ?_, fun n hn => ?_⟩, c, fun _ x => x, Nat.le_succ _⟩
    · unfold putK
      rw [valV_any, h.val, if_pos c, if_pos (show (some (V.int (f k))).isSome = true from rfl), List.map_map, ← h.keys]
      refine List.map_congr_left fun kv _ => ?_
      show (if kv.1 = Sum.inl k then (kv.1, V.int v) else kv).1 = kv.1
      split <;> rfl
    · rw [valV_put, h.val]
      by_cases e : n = k
      · subst e
        rw [if_pos rfl, if_pos c, if_pos rfl]
      · rw [if_neg (fun z => e (Sum.inl.inj z)), if_neg e]
    · show (if n = k then v else f n) = 0
      rw [if_neg (fun z : n = k => hn (by rw [z]; exact c)), h.zero n hn]
  · refine ⟨ks ++ [k], ⟨?_, ?_, fun n => ?_, fun n hn => ?_⟩, by simp, fun x hx => List.mem_append_left _ hx, by simp⟩
    · rw [putK_new _ (by rw [h.val, if_neg c]), List.map_append, List.map_append, h.keys]
      rfl
    · rw [List.nodup_append]
      refine ⟨h.nd, by simp, fun x hx y hy e => ?_⟩
      rw [List.mem_singleton.mp hy] at e
      exact c (e ▸ hx)
    · rw [valV_put, h.val]
      by_cases e : n = k
      · subst e
        rw [if_pos rfl, if_pos (by simp), if_pos rfl]
      · rw [if_neg (fun z => e (Sum.inl.inj z)), if_neg e]
        by_cases m : n ∈ ks
        · rw [if_pos m, if_pos (List.mem_append_left _ m)]
        · rw [if_neg m, if_neg (by simp [m, e])]
    · show (if n = k then v else f n) = 0
      rw [if_neg (fun z : n = k => hn (by simp [z])), h.zero n (fun z => hn (List.mem_append_left _ z))]
theorem DI.at {kvs : List (Key × V)} {f : Int → Int} {ks : List Int} (h : DI kvs f ks) {i : Nat} {k : Key} {v : V} (e : kvs[i]? = some (k, v)) : ∃ n, ks[i]? = some n ∧ k = Sum.inl n ∧ valV kvs (Sum.inl n) = some (.int (f n)) := by
  have z : (kvs.map (·.1))[i]? = some k := by rw [List.getElem?_map, e]; rfl
  rw [h.keys, List.getElem?_map] at z
  cases g : ks[i]? with
  | none => rw [g] at z; cases z
  | some n =>
    rw [g] at z
    cases z
    exact ⟨n, rfl, rfl, by rw [h.val, if_pos (List.mem_of_getElem? g)]⟩
theorem DI.congr {kvs : List (Key × V)} {f g : Int → Int} {ks : List Int} (h : DI kvs f ks) (e : ∀ x, g x = f x) : DI kvs g ks := by
  have : g = f := funext e
  rw [this]
  exact h
/-! ### the turns of flattened -/
theorem chg_snoc {ps : List Pc} {i : Nat} {p : Pc} (e : ps[i]? = some p) (x : Int) : chg (ps.take (i + 1)) x = chg (ps.take i) x + (if x = p.1 then p.2.2 else 0) - (if x = p.2.1 + 1 then p.2.2 else 0) := by
  rw [List.take_add_one, e]
  unfold chg
  rw [wt_app]
  show _ + (p.2.2 * (ind x p.1 - ind x (p.2.1 + 1)) + 0) = _
  unfold ind
  by_cases a : p.1 = x
  · by_cases b : p.2.1 + 1 = x
    · rw [if_pos a, if_pos b, if_pos a.symm, if_pos b.symm]
      omega
    · rw [if_pos a, if_neg b, if_pos a.symm, if_neg (fun z => b z.symm)]
      omega
  · by_cases b : p.2.1 + 1 = x
    · rw [if_neg a, if_pos b, if_neg (fun z => a z.symm), if_pos b.symm]
      omega
    · rw [if_neg a, if_neg b, if_neg (fun z => a z.symm), if_neg (fun z => b z.symm)]
      omega
theorem rowsG_step {c : Int → Int} {ts : List Int} {i : Nat} {s f now : Int} (e1 : ts[i]? = some s) (e2 : ts[i + 1]? = some f) :
    rowsG c (ts.drop i) now = (if now + c s ≠ 0 then [(s, f - 1, now + c s)] else []) ++ rowsG c (ts.drop (i + 1)) (now + c s) := by
  obtain ⟨l1, rfl⟩ := List.getElem?_eq_some_iff.mp e1
  obtain ⟨l2, rfl⟩ := List.getElem?_eq_some_iff.mp e2
  rw [List.drop_eq_getElem_cons l1, List.drop_eq_getElem_cons l2]
  show (if now + c ts[i] ≠ 0 then _ else _) = _
  split <;> rfl
theorem rowsG_end {c : Int → Int} {ts : List Int} {now : Int} (i : Nat) (h : ts.length - 1 ≤ i) : rowsG c (ts.drop i) now = [] := by
  have : (ts.drop i).length ≤ 1 := by rw [List.length_drop]; omega
  match ts.drop i, this with
  | [], _ => rfl
  | [_], _ => rfl
  | _ :: _ :: _, h => exact absurd h (by simp)
theorem cut_one (vs : List V) : cutV vs (some 1) none = vs.drop 1 := by
  unfold cutV
  rw [show HT.sIx vs.length 0 (some 1) = min 1 vs.length from HT.sIx_nat vs.length 0 1, HT.sIx_none]
  cases vs with
  | nil => rfl
  | cons z r =>
    rw [List.length_cons, show min 1 (r.length + 1) = 1 by omega]
    exact List.take_of_length_le (by rw [List.length_drop, List.length_cons]; exact Nat.le_refl _)
/-- what has no attributes but its own -/
structure Ptx (K : PySem.W.Frag) (C : Addr) : Prop where
  cl : Cls K C
  nC : NoAttr K C "cold"
  nP : NoAttr K C "_pieces"
theorem mk_ex0 {C : Addr} {H : Hp} {x dx : Addr} (nx : H x = none) (ndx : H dx = none) : Ex H (upd (upd H dx (.own x)) x (.ins C dx [])) := fun b o hb => by
  rw [upd_ne (ne_of_none hb nx), upd_ne (ne_of_none hb ndx)]
  exact hb
theorem mk_ex {C : Addr} {H H' : Hp} {x dx : Addr} (nx : H x = none) (ndx : H dx = none) (fr : ∀ b o, b ≠ x → (upd (upd H dx (.own x)) x (.ins C dx [])) b = some o → H' b = some o) : Ex H H' := fun b o hb => by
  refine fr b o (ne_of_none hb nx) ?_
  rw [upd_ne (ne_of_none hb nx), upd_ne (ne_of_none hb ndx)]
  exact hb
theorem ne_refl {α : Type} [DecidableEq α] {a b : α} (h : a = b) {A B : Prop} (k : B) : if (!decide (a = b)) = true then A else B := by
  rw [decide_eq_true h]
  exact iteF k
end Kb

namespace Kb
open PySem PySem.Spec PyProof.Rows L2
/-! ### ascending intervals, and what of a scan is in none of them -/
structure Asc (zs : List Sc) : Prop where
  le : ∀ t ∈ zs, t.1 ≤ t.2
  up : zs.Pairwise fun a b => a.2 < b.1
theorem Asc.next {zs : List Sc} (A : Asc zs) {i j : Nat} {a b : Sc} (hi : zs[i]? = some a) (hj : zs[j]? = some b) (h : i < j) : a.2 < b.1 := by
  obtain ⟨l1, rfl⟩ := List.getElem?_eq_some_iff.mp hi
  obtain ⟨l2, rfl⟩ := List.getElem?_eq_some_iff.mp hj
  exact List.pairwise_iff_getElem.mp A.up i j l1 l2 h
theorem Asc.leAt {zs : List Sc} (A : Asc zs) {i : Nat} {a : Sc} (hi : zs[i]? = some a) : a.1 ≤ a.2 := A.le _ (List.mem_of_getElem? hi)
theorem asc_of {ss zs : List Sc} (d : ss.Pairwise Apart) (p : zs.Perm (ss.map spn)) (o : zs.Pairwise fun a b => a.1 ≤ b.1) : Asc zs := by
  have d1 : (ss.map spn).Pairwise fun a b => a.2 < b.1 ∨ b.2 < a.1 := List.pairwise_map.mpr (d.imp fun h => h)
  have d2 : zs.Pairwise fun a b => a.2 < b.1 ∨ b.2 < a.1 := (p.pairwise_iff (R := fun a b : Sc => a.2 < b.1 ∨ b.2 < a.1) (fun {a b} h => h.symm)).mpr d1
  have w : ∀ z ∈ zs, z.1 ≤ z.2 := fun z hz => by
    obtain ⟨s, _, rfl⟩ := List.mem_map.mp (p.mem_iff.mp hz)
    exact spn_le s
  refine ⟨w, List.pairwise_iff_getElem.mpr fun i j hi hj h => ?_⟩
  have a := List.pairwise_iff_getElem.mp d2 i j hi hj h
  have b := List.pairwise_iff_getElem.mp o i j hi hj h
  have c := w _ (List.getElem_mem hi)
  have d := w _ (List.getElem_mem hj)
  omega
def out (zs : List Sc) (z : Int) : Bool := zs.all fun t => decide (z < t.1 ∨ t.2 < z)
theorem out_iff {zs : List Sc} {z : Int} : out zs z = true ↔ ∀ t ∈ zs, z < t.1 ∨ t.2 < z := by
  unfold out
  rw [List.all_eq_true]
  exact ⟨fun h t ht => of_decide_eq_true (h t ht), fun h t ht => decide_eq_true (h t ht)⟩
def outL (ts : List Sc) (z : Int) : Bool := !decide (z ∈ rdL ts)
theorem out_eq {ts zs : List Sc} (p : zs.Perm (ts.map spn)) (z : Int) : out zs z = outL ts z := by
  refine Bool.eq_iff_iff.mpr ⟨fun h => ?_, fun h => ?_⟩
  · have h := out_iff.mp h
    unfold outL
    rw [decide_eq_false]
    · rfl
    · intro m
      obtain ⟨s, hs, a, b⟩ := mem_rdL.mp m
      have k := h (spn s) (p.mem_iff.mpr (List.mem_map.mpr ⟨s, hs, rfl⟩))
      have k : z < lo s ∨ hi s < z := k
      omega
  · refine out_iff.mpr fun t ht => ?_
    obtain ⟨s, hs, rfl⟩ := List.mem_map.mp (p.mem_iff.mp ht)
    show z < lo s ∨ hi s < z
    have h : z ∉ rdL ts := fun m => by
      unfold outL at h
      rw [decide_eq_true m] at h
      cases h
    by_cases c : lo s ≤ z ∧ z ≤ hi s
    · exact (h (mem_rdL.mpr ⟨s, hs, c.1, c.2⟩)).elim
    · omega
theorem mem_seg {a b z : Int} : z ∈ seg a b ↔ a ≤ z ∧ z ≤ b := by
  unfold seg
  rw [List.mem_map]
  constructor
  · rintro ⟨m, hm, rfl⟩
    rw [List.mem_range] at hm
    omega
  · rintro ⟨h1, h2⟩
    exact ⟨(z - a).toNat, by rw [List.mem_range]; omega, by omega⟩
theorem seg_app {b c : Int} (h2 : b ≤ c) : ∀ (n : Nat) (a : Int), (b + 1 - a).toNat = n → a ≤ b + 1 → seg a b ++ seg (b + 1) c = seg a c
  | 0, a, e, h => by
    have : a = b + 1 := by omega
    rw [seg_nil (show b < a by omega), this]
    rfl
  | n + 1, a, e, h => by
    rw [seg_cons (show a ≤ b by omega), seg_cons (show a ≤ c by omega), List.cons_append, seg_app h2 n (a + 1) (by omega) (by omega)]
theorem seg_out {f : Int → Bool} {a b : Int} (h : ∀ z, a ≤ z → z ≤ b → f z = true) : (seg a b).filter f = seg a b :=
  List.filter_eq_self.mpr fun z hz => h z (mem_seg.mp hz).1 (mem_seg.mp hz).2
theorem seg_in {f : Int → Bool} {a b : Int} (h : ∀ z, a ≤ z → z ≤ b → f z = false) : (seg a b).filter f = [] :=
  List.filter_eq_nil_iff.mpr fun z hz => by rw [h z (mem_seg.mp hz).1 (mem_seg.mp hz).2]; decide
def ins (l g : Int) (t : Sc) : Bool := decide (l < t.1 ∧ t.2 < g)
/-- the walk along the intervals: k of them are behind, st is where the next row begins -/
structure OI (zs : List Sc) (l g : Int) (k : Nat) (st : Int) (L : List Sc) : Prop where
  rows : rdL L = (seg l (st - 1)).filter (out zs)
  ge : l ≤ st
  bel : ∀ (i : Nat) (t : Sc), zs[i]? = some t → i < k → t.2 < st
  abv : ∀ (i : Nat) (t : Sc), zs[i]? = some t → k ≤ i → st ≤ t.2
  src : st = l ∨ ∃ (j : Nat) (t : Sc), j < k ∧ zs[j]? = some t ∧ t.1 ≤ g ∧ st = t.2 + 1
  few : L.length ≤ ((zs.take k).filter (ins l g)).length + if st ≤ g then 0 else 1
theorem OI.start {zs : List Sc} {l g : Int} {k : Nat} (b : ∀ (i : Nat) (t : Sc), zs[i]? = some t → i < k → t.2 < l) (a : ∀ (i : Nat) (t : Sc), zs[i]? = some t → k ≤ i → l ≤ t.2) : OI zs l g k l [] := by
  refine ⟨?_, Int.le_refl _, b, a, .inl rfl, Nat.zero_le _⟩
  rw [seg_nil (by omega)]
  rfl
theorem rd_seg {a b : Int} (h : a ≤ b) : rd (a, b) = seg a b := rd_up h
theorem out_no {zs : List Sc} {z : Int} {t : Sc} (h : t ∈ zs) (a : t.1 ≤ z) (b : z ≤ t.2) : out zs z = false := by
  refine Bool.eq_false_iff.mpr fun y => ?_
  have := out_iff.mp y t h
  omega
/-- between what is behind and the next interval all addresses are outside -/
theorem OI.free {zs : List Sc} (A : Asc zs) {l g : Int} {k : Nat} {st : Int} {L : List Sc} (I : OI zs l g k st L) {z : Int} (h1 : st ≤ z) (h2 : ∀ t, zs[k]? = some t → z < t.1) : out zs z = true := by
  refine out_iff.mpr fun t ht => ?_
  obtain ⟨i, hi⟩ := List.getElem?_of_mem ht
  by_cases c : i < k
  · have := I.bel i t hi c
    omega
  · by_cases e : i = k
    · subst e
      exact .inl (h2 t hi)
    · have lk : k < zs.length := by
        have := (List.getElem?_eq_some_iff.mp hi).1
        omega
      have hk := List.getElem?_eq_getElem lk
      have a := A.next hk hi (by omega)
      have b := A.leAt hk
      have := h2 _ hk
      omega
theorem OI.le_at {zs : List Sc} (A : Asc zs) {l g : Int} {k : Nat} {st : Int} {L : List Sc} (I : OI zs l g k st L) {t : Sc} (hk : zs[k]? = some t) (lg : l ≤ g) (hg : t.1 ≤ g) : st ≤ g := by
  rcases I.src with e | ⟨j, u, hj, hu, _, e⟩
  · omega
  · have := A.next hu hk hj
    omega
theorem OI.step {zs : List Sc} (A : Asc zs) {l g : Int} {k : Nat} {st : Int} {L : List Sc} (I : OI zs l g k st L) {t : Sc} (hk : zs[k]? = some t) (lg : l ≤ g) (hg : t.1 ≤ g) :
    OI zs l g (k + 1) (t.2 + 1) (if st < t.1 then L ++ [(st, t.1 - 1)] else L) := by
  have tl := A.leAt hk
  have ta := I.abv k t hk (Nat.le_refl _)
  have sg := I.le_at A hk lg hg
  have ge := I.ge
  have tm := List.mem_of_getElem? hk
  refine ⟨?_, by omega, fun i u hu hi => ?_, fun i u hu hi => ?_, .inr ⟨k, t, Nat.lt_succ_self _, hk, hg, rfl⟩, ?_⟩
  · rw [show t.2 + 1 - 1 = t.2 by omega]
    by_cases c : st < t.1
    · rw [if_pos c, rdL_app, I.rows, show rdL [(st, t.1 - 1)] = rd (st, t.1 - 1) from List.append_nil _, rd_seg (by omega)]
      have e1 := seg_app (b := t.1 - 1) (c := t.2) (by omega) _ l rfl (by omega)
      have e2 := seg_app (b := st - 1) (c := t.1 - 1) (by omega) _ l rfl (by omega)
      rw [show st - 1 + 1 = st by omega] at e2
      rw [← e1, ← e2, List.filter_append, List.filter_append, seg_out (a := st) (b := t.1 - 1) fun z h1 h2 => I.free A h1 fun u hu => ?_, seg_in (a := t.1 - 1 + 1) fun z h1 h2 => out_no tm (by omega) h2, List.append_nil]
      rw [hk] at hu
      cases hu
      omega
    · rw [if_neg c, I.rows]
      have e1 := seg_app (b := st - 1) (c := t.2) (by omega) _ l rfl (by omega)
      rw [← e1, List.filter_append, seg_in (a := st - 1 + 1) fun z h1 h2 => out_no tm (by omega) h2, List.append_nil]
  · by_cases c : i < k
    · have := A.next hu hk c
      omega
    · have : i = k := by omega
      subst this
      rw [hk] at hu
      cases hu
      omega
  · have a := A.next hk hu (by omega)
    have b := A.leAt hu
    omega
  · have f := I.few
    rw [if_pos sg] at f
    have e : (zs.take (k + 1)).filter (ins l g) = (zs.take k).filter (ins l g) ++ if ins l g t = true then [t] else [] := by
      rw [List.take_add_one, hk, List.filter_append]
      congr 1
      show [t].filter _ = _
      rw [List.filter_cons]
      rfl
    rw [e, List.length_append]
    by_cases c : st < t.1
    · rw [if_pos c, List.length_append, List.length_singleton]
      by_cases d : t.2 + 1 ≤ g
      · rw [if_pos d, if_pos (show ins l g t = true from decide_eq_true ⟨by omega, by omega⟩), List.length_singleton]
        omega
      · rw [if_neg d]
        omega
    · rw [if_neg c]
      omega
theorem OI.stop {zs : List Sc} (A : Asc zs) {l g : Int} {k : Nat} {st : Int} {L : List Sc} (I : OI zs l g k st L) (hk : ∀ t, zs[k]? = some t → g < t.1) (lg : l ≤ g) :
    rdL (if st ≤ g then L ++ [(st, g)] else L) = (seg l g).filter (out zs) ∧ (if st ≤ g then L ++ [(st, g)] else L).length ≤ 1 + (zs.filter (ins l g)).length := by
  have ge := I.ge
  have f := I.few
  have tk : ((zs.take k).filter (ins l g)).length ≤ (zs.filter (ins l g)).length := ((List.take_sublist k zs).filter _).length_le
  by_cases c : st ≤ g
  · rw [if_pos c]
    rw [if_pos c] at f
    refine ⟨?_, by rw [List.length_append, List.length_singleton]; omega⟩
    rw [rdL_app, I.rows, show rdL [(st, g)] = rd (st, g) from List.append_nil _, rd_seg c]
    have e2 := seg_app (b := st - 1) (c := g) (by omega) _ l rfl (by omega)
    rw [show st - 1 + 1 = st by omega] at e2
    rw [← e2, List.filter_append, seg_out (a := st) fun z h1 h2 => I.free A h1 fun u hu => by have := hk u hu; omega]
  · rw [if_neg c]
    rw [if_neg c] at f
    refine ⟨?_, by omega⟩
    rcases I.src with e | ⟨j, u, hj, hu, hg, e⟩
    · omega
    · rw [I.rows]
      have e2 := seg_app (b := g) (c := st - 1) (by omega) _ l rfl (by omega)
      rw [← e2, List.filter_append, seg_in (a := g + 1) fun z h1 h2 => out_no (List.mem_of_getElem? hu) (by omega) (by omega), List.append_nil]
theorem OI.all {zs : List Sc} (A : Asc zs) {s : Sc} {k : Nat} {st : Int} {L : List Sc} (I : OI zs (lo s) (hi s) k st L) (hk : ∀ t, zs[k]? = some t → hi s < t.1) :
    rdL (if s.1 ≤ s.2 then (if st ≤ hi s then L ++ [(st, hi s)] else L) else (if st ≤ hi s then L ++ [(st, hi s)] else L).reverse.map swp) = (rd s).filter (out zs) := by
  have z := (I.stop A hk (lo_hi s)).1
  by_cases c : s.1 ≤ s.2
  · rw [if_pos c, z, rd_up c]
    unfold lo hi
    rw [if_neg (by omega)]
    congr 2
    split <;> omega
  · rw [if_neg c, rdL_rev, z, rd_dn (by omega), ← List.filter_reverse]
    unfold lo hi
    rw [if_pos (by omega), if_neg (by omega)]
/-! ### how many rows there are -/
def cntS (ss zs : List Sc) : Nat := (ss.map fun s => (zs.filter (ins (lo s) (hi s))).length).sum
theorem cntS_le (ss zs : List Sc) : cntS ss zs ≤ ss.length * zs.length := by
  unfold cntS
  induction ss with
  | nil => exact Nat.zero_le _
  | cons s r ih =>
    rw [List.map_cons, List.sum_cons, List.length_cons, Nat.succ_mul]
    have := List.length_filter_le (ins (lo s) (hi s)) zs
    omega
theorem cntS_apart {ss : List Sc} (d : ss.Pairwise Apart) : ∀ {zs : List Sc}, (∀ t ∈ zs, t.1 ≤ t.2) → cntS ss zs ≤ zs.length
  | [], _ => by
    unfold cntS
    rw [show (ss.map fun s => (([] : List Sc).filter (ins (lo s) (hi s))).length) = ss.map fun _ => 0 from rfl]
    clear d
    induction ss with
    | nil => exact Nat.le_refl _
    | cons s r ih => rw [List.map_cons, List.sum_cons]; exact (Nat.zero_add _).symm ▸ ih
  | z :: zs, h => by
    have ih := cntS_apart d (zs := zs) fun t ht => h t (List.mem_cons_of_mem _ ht)
    have hz := h z List.mem_cons_self
    have e : ∀ l : List Sc, cntS l (z :: zs) = cntS l zs + (l.filter fun s => ins (lo s) (hi s) z).length := by
      intro l
      induction l with
      | nil => rfl
      | cons s r ihr =>
        unfold cntS at ihr ⊢
        rw [List.map_cons, List.sum_cons, List.map_cons, List.sum_cons, ihr, List.filter_cons, List.filter_cons]
        split
        · rw [List.length_cons, List.length_cons]
          omega
        · omega
    have o : (ss.filter fun s => ins (lo s) (hi s) z).length ≤ 1 := by
      clear e ih h
      induction ss with
      | nil => exact Nat.zero_le _
      | cons s r ihr =>
        obtain ⟨d1, d2⟩ := List.pairwise_cons.mp d
        rw [List.filter_cons]
        split
        · rename_i c
          have c : lo s < z.1 ∧ z.2 < hi s := of_decide_eq_true c
          rw [List.filter_eq_nil_iff.mpr fun t ht y => ?_]
          · exact Nat.le_refl _
          · have y : lo t < z.1 ∧ z.2 < hi t := of_decide_eq_true y
            rcases d1 t ht with q | q <;> omega
        · exact ihr d2
    rw [e, List.length_cons]
    omega
/-! ### promises -/
def spReach : Sp := fun vs H Q _ => ∃ (p : Addr) (zs : List Sc) (a : Int), vs = [.ref p, .int a] ∧ Scs H p zs ∧ zs.length ≤ 2 ^ 20 ∧ Asc zs ∧
  ∀ k : Nat, k ≤ zs.length → (∀ (i : Nat) (t : Sc), zs[i]? = some t → i < k → t.2 < a) → (∀ (i : Nat) (t : Sc), zs[i]? = some t → k ≤ i → a ≤ t.2) → RetV (.int k) H Q
def spOutside : Sp := fun vs H Q _ => ∃ (v : V) (p : Addr) (s : Sc) (zs : List Sc), vs = [v, .ref p] ∧ IsSc H v s ∧ Scs H p zs ∧ zs.length ≤ 1000 ∧ Asc zs ∧
  ∀ q H' rows, H q = none → Ex H H' → Scs H' q rows → rdL rows = (rd s).filter (out zs) → rows.length ≤ 1 + (zs.filter (ins (lo s) (hi s))).length → Q (.ref q) H'
def spOthers : Sp := fun vs H Q _ => ∃ (a t : Addr) (ss ts : List Sc), vs = [.ref a, .ref t] ∧ Scs H a ss ∧ Scs H t ts ∧ ss.length ≤ 1000 ∧ ts.length ≤ 1000 ∧ ts.Pairwise Apart ∧
  ∀ p H' rows, H p = none → Ex H H' → Scs H' p rows → rdL rows = (rdL ss).filter (outL ts) → rows.length ≤ ss.length * (ts.length + 1) → (ss.Pairwise Apart → rows.length ≤ ss.length + ts.length) → Q (.ref p) H'
def ahead (ts ss : List Sc) : List Sc := jn (dup (rdL ts ++ (rdL ss).filter (outL ts)))
def spAhead : Sp := fun vs H Q _ => ∃ (t a : Addr) (ts ss : List Sc), vs = [.ref t, .ref a] ∧ Scs H t ts ∧ Scs H a ss ∧ ts.length ≤ 1000 ∧ ss.length ≤ 1000 ∧ ts.Pairwise Apart ∧
  ∀ p H', H p = none → Ex H H' → Scs H' p (ahead ts ss) → (ss.Pairwise Apart → (ahead ts ss).length ≤ 2 * ts.length + ss.length) → Q (.ref p) H'
end Kb

namespace Kb
open PySem PySem.Spec PyProof.Rows L2 TL
/-! ### the parts of programs -/
inductive Pg where
  | nil
  | sc (s : Sc) (r : Pg)
  | rp (n : Int) (b r : Pg)
deriving DecidableEq
namespace Pg
def app : Pg → Pg → Pg
  | nil, g => g
  | sc s r, g => sc s (r.app g)
  | rp n b r, g => rp n b (r.app g)
def scs : Pg → List Sc
  | nil => []
  | sc s r => s :: r.scs
  | rp _ b r => b.scs ++ r.scs
def cnt : Pg → Int
  | nil => 0
  | sc s r => slen s + r.cnt
  | rp n b r => n * b.cnt + r.cnt
def dep : Pg → Nat
  | nil => 0
  | sc _ r => r.dep
  | rp _ b r => max (b.dep + 1) r.dep
def len : Pg → Nat
  | nil => 0
  | sc _ r => r.len + 1
  | rp _ _ r => r.len + 1
theorem app_nil : ∀ g : Pg, g.app nil = g
  | nil => rfl
  | sc s r => congrArg (sc s) (app_nil r)
  | rp n b r => congrArg (rp n b) (app_nil r)
theorem app_assoc : ∀ a b c : Pg, (a.app b).app c = a.app (b.app c)
  | nil, _, _ => rfl
  | sc s r, b, c => congrArg (sc s) (app_assoc r b c)
  | rp n x r, b, c => congrArg (rp n x) (app_assoc r b c)
theorem scs_app : ∀ a b : Pg, (a.app b).scs = a.scs ++ b.scs
  | nil, _ => rfl
  | sc s r, b => congrArg (s :: ·) (scs_app r b)
  | rp n x r, b => by
    show x.scs ++ (r.app b).scs = x.scs ++ r.scs ++ b.scs
    rw [scs_app r b, List.append_assoc]
theorem cnt_app : ∀ a b : Pg, (a.app b).cnt = a.cnt + b.cnt
  | nil, b => (Int.zero_add _).symm
  | sc s r, b => by
    show slen s + (r.app b).cnt = slen s + r.cnt + b.cnt
    rw [cnt_app r b, Int.add_assoc]
  | rp n x r, b => by
    show n * x.cnt + (r.app b).cnt = n * x.cnt + r.cnt + b.cnt
    rw [cnt_app r b, Int.add_assoc]
theorem len_app : ∀ a b : Pg, (a.app b).len = a.len + b.len
  | nil, b => (Nat.zero_add _).symm
  | sc s r, b => by
    show (r.app b).len + 1 = r.len + 1 + b.len
    rw [len_app r b]
    omega
  | rp n x r, b => by
    show (r.app b).len + 1 = r.len + 1 + b.len
    rw [len_app r b]
    omega
theorem dep_app : ∀ a b : Pg, (a.app b).dep = max a.dep b.dep
  | nil, b => (Nat.zero_max _).symm
  | sc s r, b => dep_app r b
  | rp n x r, b => by
    show max (x.dep + 1) (r.app b).dep = max (max (x.dep + 1) r.dep) b.dep
    rw [dep_app r b, Nat.max_assoc]
end Pg
/-- numbers within their bounds, no empty repeat -/
def SOk (B : Int) (s : Sc) : Prop := 0 ≤ s.1 ∧ s.1 ≤ B ∧ 0 ≤ s.2 ∧ s.2 ≤ B
def Pg.Ok (B : Int) : Pg → Prop
  | .nil => True
  | .sc s r => SOk B s ∧ r.Ok B
  | .rp n b r => 2 ≤ n ∧ n ≤ B ∧ b ≠ .nil ∧ b.Ok B ∧ r.Ok B
theorem Pg.Ok.app {B : Int} : ∀ {a b : Pg}, a.Ok B → b.Ok B → (a.app b).Ok B
  | .nil, _, _, h => h
  | .sc s r, b, h, k => ⟨h.1, Pg.Ok.app h.2 k⟩
  | .rp n x r, b, h, k => ⟨h.1, h.2.1, h.2.2.1, h.2.2.2.1, Pg.Ok.app h.2.2.2.2 k⟩
theorem Pg.Ok.mono {B C : Int} (le : B ≤ C) : ∀ {a : Pg}, a.Ok B → a.Ok C
  | .nil, _ => trivial
  | .sc s r, h => ⟨⟨h.1.1, Int.le_trans h.1.2.1 le, h.1.2.2.1, Int.le_trans h.1.2.2.2 le⟩, h.2.mono le⟩
  | .rp n x r, h => ⟨h.1, Int.le_trans h.2.1 le, h.2.2.1, h.2.2.2.1.mono le, h.2.2.2.2.mono le⟩
theorem Pg.Ok.mem {B : Int} : ∀ {a : Pg}, a.Ok B → ∀ s ∈ a.scs, SOk B s
  | .nil, _, s, h => by cases h
  | .sc s r, h, t, m => by
    rcases List.mem_cons.mp m with e | m
    · exact e ▸ h.1
    · exact h.2.mem t m
  | .rp n x r, h, t, m => by
    rcases List.mem_append.mp m with m | m
    · exact h.2.2.2.1.mem t m
    · exact h.2.2.2.2.mem t m
theorem Pg.len_le : ∀ {B : Int} {a : Pg}, a.Ok B → a.len ≤ a.scs.length
  | _, .nil, _ => Nat.le_refl _
  | B, .sc s r, h => Nat.succ_le_succ (Pg.len_le h.2)
  | B, .rp n x r, h => by
    show r.len + 1 ≤ (x.scs ++ r.scs).length
    rw [List.length_append]
    have a := Pg.len_le h.2.2.2.2
    have b := Pg.len_le h.2.2.2.1
    have c : 1 ≤ x.len := by
      cases x with
      | nil => exact (h.2.2.1 rfl).elim
      | sc _ _ => exact Nat.succ_le_succ (Nat.zero_le _)
      | rp _ _ _ => exact Nat.succ_le_succ (Nat.zero_le _)
    omega
/-! ### words -/
def nw (i : Int) : Str := Str.ofString (toString i)
def dash : Str := "-"
def opW : Str := "("
def clW : Str := ")"
def scw (s : Sc) : Str := if s.1 = s.2 then nw s.1 else nw s.1 ++ dash ++ nw s.2
inductive Tk where
  | op
  | cl (n : Int)
  | sc (s : Sc)
def Tk.wd : Tk → Str
  | .op => opW
  | .cl n => clW ++ nw n
  | .sc s => scw s
def Pg.toks : Pg → List Tk
  | .nil => []
  | .sc s r => .sc s :: r.toks
  | .rp n b r => .op :: (b.toks ++ .cl n :: r.toks)
def Pg.wl (g : Pg) : List Str := g.toks.map Tk.wd
theorem toks_app : ∀ a b : Pg, (a.app b).toks = a.toks ++ b.toks
  | .nil, _ => rfl
  | .sc s r, b => congrArg (Tk.sc s :: ·) (toks_app r b)
  | .rp n x r, b => by
    show Tk.op :: (x.toks ++ Tk.cl n :: (r.app b).toks) = (Tk.op :: (x.toks ++ Tk.cl n :: r.toks)) ++ b.toks
    rw [toks_app r b]
    simp
theorem wl_app (a b : Pg) : (a.app b).wl = a.wl ++ b.wl := by
  unfold Pg.wl
  rw [toks_app, List.map_append]
theorem wl_rp (n : Int) (b r : Pg) : (Pg.rp n b r).wl = opW :: (b.wl ++ (clW ++ nw n) :: r.wl) := by
  show List.map Tk.wd (Tk.op :: (b.toks ++ Tk.cl n :: r.toks)) = _
  rw [List.map_cons, List.map_append, List.map_cons]
  rfl
/-- how many words there are -/
theorem toks_len : ∀ {B : Int} {g : Pg}, g.Ok B → g.toks.length ≤ (2 * g.dep + 1) * g.scs.length
  | _, .nil, _ => Nat.zero_le _
  | B, .sc s r, h => by
    have a := toks_len h.2
    show r.toks.length + 1 ≤ (2 * r.dep + 1) * (r.scs.length + 1)
    rw [Nat.mul_succ]
    omega
  | B, .rp n x r, h => by
    have a := toks_len h.2.2.2.2
    have b := toks_len h.2.2.2.1
    have c : 1 ≤ x.scs.length := by
      have := Pg.len_le h.2.2.2.1
      cases x with
      | nil => exact (h.2.2.1 rfl).elim
      | sc _ _ => exact Nat.le_trans (Nat.succ_le_succ (Nat.zero_le _)) this
      | rp _ _ _ => exact Nat.le_trans (Nat.succ_le_succ (Nat.zero_le _)) this
    show (x.toks ++ Tk.cl n :: r.toks).length + 1 ≤ (2 * max (x.dep + 1) r.dep + 1) * (x.scs ++ r.scs).length
    rw [List.length_append, List.length_append, List.length_cons]
    obtain ⟨d, hd⟩ : ∃ d, d = max (x.dep + 1) r.dep := ⟨_, rfl⟩
    rw [← hd]
    have h1 : x.dep + 1 ≤ d := by omega
    have h2 : r.dep ≤ d := by omega
    have k1 : (2 * x.dep + 1) * x.scs.length ≤ (2 * d - 1) * x.scs.length := Nat.mul_le_mul_right _ (by omega)
    have k2 : (2 * r.dep + 1) * r.scs.length ≤ (2 * d + 1) * r.scs.length := Nat.mul_le_mul_right _ (by omega)
    have k3 : (2 * d + 1) * x.scs.length = (2 * d - 1) * x.scs.length + 2 * x.scs.length := by rw [← Nat.add_mul]; congr 1; omega
    rw [Nat.mul_add, k3]
    omega
end Kb

namespace Kb
open PySem PySem.Spec PyProof.Rows L2 TL
/-! ### the letters of words -/
theorem tl_nw {i : Int} (h : 0 ≤ i) : tl (nw i) = numL i.toNat := by
  obtain ⟨n, rfl⟩ := Int.eq_ofNat_of_zero_le h
  rw [Int.toNat_natCast]
  exact tl_num n
theorem nw_digit {i : Int} (h : 0 ≤ i) : ∀ c ∈ tl (nw i), 48 ≤ c ∧ c ≤ 57 := by
  rw [tl_nw h]
  exact numL_digits _
theorem nw_ne {i : Int} (h : 0 ≤ i) : tl (nw i) ≠ [] := by
  rw [tl_nw h]
  exact numL_ne _
theorem nw_len {i : Int} (h : 0 ≤ i) {k : Nat} (hk : 0 < k) (b : i < 10 ^ k) : (nw i).length ≤ k := by
  rw [len_tl, tl_nw h]
  refine numL_len hk ?_
  have e : (((10 : Nat) ^ k : Nat) : Int) = (10 : Int) ^ k := by simp
  omega
theorem nw_pos {i : Int} (h : 0 ≤ i) : 1 ≤ (nw i).length := by
  rw [len_tl]
  exact List.length_pos_iff.mpr (nw_ne h)
theorem nw_int {i : Int} (h : 0 ≤ i) (b : i < 10 ^ 600) : intText? (nw i) = some i := by
  obtain ⟨n, rfl⟩ := Int.eq_ofNat_of_zero_le h
  refine int_num ?_
  have l := nw_len (i := (n : Int)) h (k := 600) (by decide) b
  rw [len_tl, tl_nw h, Int.toNat_natCast] at l
  omega
theorem all_tl (x : Str) (p : Nat → Bool) : x.cps.all p = (tl x).all p := by
  rw [← Array.all_toList]
theorem nw_ascii {i : Int} (h : 0 ≤ i) : Txt.isascii (nw i) = true := by
  unfold Txt.isascii
  rw [all_tl, List.all_eq_true]
  intro c hc
  have := nw_digit h c hc
  exact decide_eq_true (by omega)
theorem dig10 : ∀ k : Fin 10, Unicode.isDigit (48 + k.val) = true := by decide +kernel
theorem isDig {c : Nat} (a : 48 ≤ c) (b : c ≤ 57) : Unicode.isDigit c = true := by
  have := dig10 ⟨c - 48, by omega⟩
  rwa [show 48 + (⟨c - 48, by omega⟩ : Fin 10).val = c from by show 48 + (c - 48) = c; omega] at this
theorem nw_isdigit {i : Int} (h : 0 ≤ i) : Txt.isdigit (nw i) = true := by
  unfold Txt.isdigit
  have := nw_pos h
  rw [decide_eq_true (show (nw i).length > 0 by omega), Bool.true_and, all_tl, List.all_eq_true]
  intro c hc
  have := nw_digit h c hc
  exact isDig this.1 this.2
theorem starts1 (x : Str) (c : Nat) : Txt.startswith x ⟨#[c]⟩ = decide ((tl x)[0]? = some c) := by
  have h := PySem.StrLaws.subAt_one x c 0
  unfold Txt.startswith
  refine Bool.eq_iff_iff.mpr ⟨fun y => ?_, fun y => ?_⟩
  · obtain ⟨y1, y2⟩ := Bool.and_eq_true_iff.mp y
    exact decide_eq_true (h.mp ⟨of_decide_eq_true y1, y2⟩)
  · obtain ⟨y1, y2⟩ := h.mpr (of_decide_eq_true y)
    exact Bool.and_eq_true_iff.mpr ⟨decide_eq_true y1, y2⟩
theorem cl_eq : clW = ⟨#[41]⟩ := by decide +kernel
theorem op_eq' : opW = ⟨#[40]⟩ := by decide +kernel
theorem dash_eq : dash = ⟨#[45]⟩ := by decide +kernel
theorem tl_cl : tl clW = [41] := by rw [cl_eq]
theorem tl_op : tl opW = [40] := by rw [op_eq']
theorem tl_dash : tl dash = [45] := by rw [dash_eq]
theorem numL_head {n : Nat} (h : n ≠ 0) : ∃ c r, numL n = c :: r ∧ 49 ≤ c := by
  induction n using Nat.strongRecOn with
  | _ n ih =>
    by_cases l : n < 10
    · exact ⟨48 + n, [], numL_lt l, by omega⟩
    · obtain ⟨c, r, e, k⟩ := ih (n / 10) (by omega) (by omega)
      exact ⟨c, r ++ [48 + n % 10], by rw [numL_step (by omega), e]; rfl, k⟩
/-- no number but 0 begins with 0 -/
theorem nw_zero {i : Int} (h : 0 ≤ i) : (tl (nw i))[0]? = some 48 ↔ i = 0 := by
  rw [tl_nw h]
  constructor
  · intro e
    by_cases z : i.toNat = 0
    · omega
    · obtain ⟨c, r, e2, k⟩ := numL_head z
      rw [e2] at e
      cases e
      omega
  · intro e
    subst e
    rw [show (0 : Int).toNat = 0 from rfl, numL_lt (by decide)]
    rfl
theorem nw_free {i : Int} (h : 0 ≤ i) {c : Nat} (k : c < 48 ∨ 57 < c) : c ∉ tl (nw i) := fun m => by
  have := nw_digit h c m
  omega
theorem nw_first {i : Int} (h : 0 ≤ i) : ∃ c r, tl (nw i) = c :: r ∧ 48 ≤ c ∧ c ≤ 57 := by
  cases e : tl (nw i) with
  | nil => exact (nw_ne h e).elim
  | cons c r =>
    have := nw_digit h c (by rw [e]; exact List.mem_cons_self)
    exact ⟨c, r, rfl, this.1, this.2⟩
theorem tl_scw (s : Sc) : tl (scw s) = if s.1 = s.2 then tl (nw s.1) else tl (nw s.1) ++ 45 :: tl (nw s.2) := by
  unfold scw
  split
  · rfl
  · rw [tl_append, tl_append, tl_dash, List.append_assoc]
    rfl
def TkOk (B : Int) : Tk → Prop
  | .op => True
  | .cl n => 2 ≤ n ∧ n ≤ B
  | .sc s => SOk B s
theorem toks_ok {B : Int} : ∀ {g : Pg}, g.Ok B → ∀ t ∈ g.toks, TkOk B t
  | .nil, _, t, h => by cases h
  | .sc s r, h, t, m => by
    rcases List.mem_cons.mp m with e | m
    · exact e ▸ h.1
    · exact toks_ok h.2 t m
  | .rp n x r, h, t, m => by
    rcases List.mem_cons.mp m with e | m
    · exact e ▸ trivial
    rcases List.mem_append.mp m with m | m
    · exact toks_ok h.2.2.2.1 t m
    rcases List.mem_cons.mp m with e | m
    · exact e ▸ ⟨h.1, h.2.1⟩
    · exact toks_ok h.2.2.2.2 t m
theorem scw_first {B : Int} {s : Sc} (h : SOk B s) : ∃ c r, tl (scw s) = c :: r ∧ 48 ≤ c ∧ c ≤ 57 := by
  obtain ⟨c, r, e, k⟩ := nw_first h.1
  rw [tl_scw]
  split
  · exact ⟨c, r, e, k⟩
  · exact ⟨c, r ++ 45 :: tl (nw s.2), by rw [e]; rfl, k⟩
theorem wd_space {B : Int} {t : Tk} (h : TkOk B t) : 32 ∉ tl t.wd := by
  cases t with
  | op =>
    show 32 ∉ tl opW
    rw [tl_op]
    decide
  | cl n =>
    show 32 ∉ tl (clW ++ nw n)
    have h : 2 ≤ n ∧ n ≤ B := h
    rw [tl_append, tl_cl]
    intro m
    rcases List.mem_append.mp m with m | m
    · revert m
      decide
    · exact nw_free (show 0 ≤ n by omega) (.inl (by decide)) m
  | sc s =>
    have h : SOk B s := h
    show 32 ∉ tl (scw s)
    rw [tl_scw]
    split
    · exact nw_free h.1 (.inl (by decide))
    · intro m
      rcases List.mem_append.mp m with m | m
      · exact nw_free h.1 (.inl (by decide)) m
      · rcases List.mem_cons.mp m with m | m
        · revert m
          decide
        · exact nw_free h.2.2.1 (.inl (by decide)) m
theorem wd_len {B : Int} {t : Tk} (h : TkOk B t) {k : Nat} (hk : 0 < k) (hB : B < 10 ^ k) : 1 ≤ t.wd.length ∧ t.wd.length ≤ 2 * k + 1 := by
  cases t with
  | op =>
    show 1 ≤ opW.length ∧ opW.length ≤ _
    rw [len_tl, tl_op]
    show 1 ≤ 1 ∧ 1 ≤ 2 * k + 1
    omega
  | cl n =>
    show 1 ≤ (clW ++ nw n).length ∧ (clW ++ nw n).length ≤ _
    have h : 2 ≤ n ∧ n ≤ B := h
    have := nw_len (show 0 ≤ n by omega) hk (by omega)
    rw [len_tl] at this
    rw [len_tl, tl_append, tl_cl, List.length_append]
    show 1 ≤ 1 + _ ∧ 1 + _ ≤ _
    omega
  | sc s =>
    have h : SOk B s := h
    show 1 ≤ (scw s).length ∧ (scw s).length ≤ _
    have a := nw_len h.1 hk (by have := h.2.1; omega)
    have b := nw_len h.2.2.1 hk (by have := h.2.2.2; omega)
    have c := nw_pos h.1
    rw [len_tl] at a b c
    rw [len_tl, tl_scw]
    split
    · omega
    · rw [List.length_append, List.length_cons]
      omega
theorem wl_space {B : Int} {g : Pg} (h : g.Ok B) : ∀ w ∈ g.wl, 32 ∉ tl w := fun w m => by
  obtain ⟨t, ht, rfl⟩ := List.mem_map.mp m
  exact wd_space (toks_ok h t ht)
def spW : Str := " "
theorem tl_sp : tl spW = [32] := by
  rw [show spW = ⟨#[32]⟩ from by decide +kernel]
/-- the text of a program -/
def txt (g : Pg) : Str := Txt.join spW g.wl
theorem toks_ne {g : Pg} (h : g ≠ .nil) : g.toks ≠ [] := by
  cases g with
  | nil => exact (h rfl).elim
  | sc s r => simp [Pg.toks]
  | rp n b r => simp [Pg.toks]
theorem wl_ne {g : Pg} (h : g ≠ .nil) : g.wl ≠ [] := fun e => toks_ne h (List.map_eq_nil_iff.mp e)
theorem txt_split {B : Int} {g : Pg} (h : g.Ok B) (ne : g ≠ .nil) : Txt.split (txt g) spW = g.wl :=
  split_join tl_sp (by decide +kernel) (wl_ne ne) (wl_space h)
theorem sum_le_of {ws : List Str} {k : Nat} (h : ∀ w ∈ ws, w.length ≤ k) : (ws.map (·.length)).sum ≤ ws.length * k := by
  induction ws with
  | nil => exact Nat.zero_le _
  | cons w r ih =>
    rw [List.map_cons, List.sum_cons, List.length_cons, Nat.succ_mul]
    have := h w List.mem_cons_self
    have := ih fun x hx => h x (List.mem_cons_of_mem _ hx)
    omega
theorem join_len (ws : List Str) : (Txt.join spW ws).length ≤ (ws.map (·.length)).sum + ws.length * spW.length := by
  rw [join_eq]
  have s1 : spW.length = 1 := by rw [len_tl, tl_sp]; rfl
  have go : ∀ ps : List Str, (Str.join spW ps).length ≤ (ps.map (·.length)).sum + ps.length * spW.length := by
    intro ps
    rw [s1]
    induction ps with
    | nil => exact Nat.zero_le _
    | cons p r ih =>
      cases r with
      | nil =>
        show p.length ≤ p.length + 0 + _
        omega
      | cons q r =>
        show (p ++ spW ++ Str.join spW (q :: r)).length ≤ _
        rw [len_tl, tl_append, tl_append, List.length_append, List.length_append, ← len_tl, ← len_tl, ← len_tl, s1, List.map_cons, List.sum_cons, List.length_cons]
        omega
  exact go ws
theorem txt_big {B : Int} {g : Pg} (h : g.Ok B) {k : Nat} (hk : 0 < k) (hB : B < 10 ^ k) : (g.wl.map (·.length)).sum + g.wl.length * spW.length ≤ g.toks.length * (2 * k + 2) := by
  have a := sum_le_of (ws := g.wl) (k := 2 * k + 1) fun w m => by
    obtain ⟨t, ht, rfl⟩ := List.mem_map.mp m
    exact (wd_len (toks_ok h t ht) hk hB).2
  have s1 : spW.length = 1 := by rw [len_tl, tl_sp]; rfl
  have e : g.wl.length = g.toks.length := List.length_map _
  rw [s1]
  rw [e] at a ⊢
  rw [show 2 * k + 2 = (2 * k + 1) + 1 from rfl, Nat.mul_add, Nat.mul_one]
  omega
theorem txt_pos {B : Int} {g : Pg} (h : g.Ok B) (ne : g ≠ .nil) : txt g ≠ Str.empty := fun e => by
  have s := txt_split h ne
  have a : tl (txt g) = [] := by rw [e]; rfl
  unfold txt at a
  rw [join_eq, tl_join, tl_sp] at a
  cases hg : g.wl with
  | nil => exact wl_ne ne hg
  | cons w r =>
    rw [hg] at a
    have wn : tl w ≠ [] := by
      have m : w ∈ g.wl := by rw [hg]; exact List.mem_cons_self
      obtain ⟨t, ht, rfl⟩ := List.mem_map.mp m
      have tk := toks_ok h t ht
      cases t with
      | op => show tl opW ≠ []; rw [tl_op]; decide
      | cl n => show tl (clW ++ nw n) ≠ []; rw [tl_append, tl_cl]; simp
      | sc s =>
        obtain ⟨c, r, e, _⟩ := scw_first tk
        show tl (scw s) ≠ []
        rw [e]
        simp
    cases r with
    | nil => exact wn a
    | cons q r =>
      have a : tl w ++ ([32] ++ joinL [32] ((q :: r).map tl)) = [] := a
      exact wn (List.append_eq_nil_iff.mp a).1
/-! ### reading words -/
theorem scw_part {B : Int} {s : Sc} (h : SOk B s) : Txt.partition (scw s) dash = if s.1 = s.2 then (nw s.1, Str.empty, Str.empty) else (nw s.1, dash, nw s.2) := by
  unfold scw
  split
  · exact partition_none tl_dash (nw_free h.1 (.inl (by decide)))
  · exact partition_app tl_dash (nw_free h.1 (.inl (by decide)))
theorem scw_split {B : Int} {s : Sc} (h : SOk B s) : Txt.split (scw s) dash = if s.1 = s.2 then [nw s.1] else [nw s.1, nw s.2] := by
  have go : ∀ ps : List Str, ps ≠ [] → (∀ p ∈ ps, 45 ∉ tl p) → Txt.split (Txt.join dash ps) dash = ps := fun ps ne hp => split_join tl_dash (by decide +kernel) ne hp
  have a := nw_free h.1 (c := 45) (.inl (by decide))
  have b := nw_free h.2.2.1 (c := 45) (.inl (by decide))
  unfold scw
  split
  · have e := go [nw s.1] (by simp) (fun p m => by rw [List.mem_singleton.mp m]; exact a)
    rw [join_eq] at e
    exact e
  · have e := go [nw s.1, nw s.2] (by simp) (fun p m => by
      rcases List.mem_cons.mp m with e | m
      · rw [e]; exact a
      · rw [List.mem_singleton.mp m]; exact b)
    rw [join_eq] at e
    exact e
theorem cl_ne_op (n : Int) : clW ++ nw n ≠ opW := fun e => by
  have e2 : tl (clW ++ nw n) = tl opW := by rw [e]
  rw [tl_append, tl_cl, tl_op] at e2
  simp at e2
theorem sc_ne_op {B : Int} {s : Sc} (h : SOk B s) : scw s ≠ opW := fun e => by
  have e2 : tl (scw s) = tl opW := by rw [e]
  obtain ⟨c, r, e3, k⟩ := scw_first h
  rw [e3, tl_op] at e2
  simp at e2
  omega
theorem cl_starts (n : Int) : Txt.startswith (clW ++ nw n) clW = true := by
  have := starts1 (clW ++ nw n) 41
  rw [← cl_eq] at this
  rw [this, tl_append, tl_cl]
  rfl
theorem sc_starts {B : Int} {s : Sc} (h : SOk B s) : Txt.startswith (scw s) clW = false := by
  have := starts1 (scw s) 41
  rw [← cl_eq] at this
  obtain ⟨c, r, e3, k⟩ := scw_first h
  rw [this, e3]
  refine decide_eq_false fun e => ?_
  cases e
  omega
/-! ### the words of a program, read by a stack of at most D bodies, at most M scans -/
def step (D M : Nat) : Tk → List Pg × Nat → Option (List Pg × Nat)
  | .op, (st, m) => if st.length < D then some (.nil :: st, m) else none
  | .cl n, (b :: c :: st, m) => if b ≠ .nil then some (c.app (.rp n b .nil) :: st, m) else none
  | .cl _, _ => none
  | .sc s, (b :: st, m) => if m + 1 ≤ M then some (b.app (.sc s .nil) :: st, m + 1) else none
  | .sc _, ([], _) => none
def run (D M : Nat) : List Tk → List Pg × Nat → Option (List Pg × Nat)
  | [], u => some u
  | t :: r, u => (step D M t u).bind (run D M r)
theorem run_app (D M : Nat) : ∀ (a b : List Tk) (u : List Pg × Nat), run D M (a ++ b) u = (run D M a u).bind (run D M b)
  | [], b, u => rfl
  | t :: r, b, u => by
    show (step D M t u).bind (run D M (r ++ b)) = ((step D M t u).bind (run D M r)).bind (run D M b)
    cases step D M t u with
    | none => rfl
    | some v => exact run_app D M r b v
theorem run_toks {D M : Nat} {B : Int} : ∀ (g b : Pg) (st : List Pg) (m : Nat), g.Ok B → st.length + 1 + g.dep ≤ D → m + g.scs.length ≤ M → run D M g.toks (b :: st, m) = some (b.app g :: st, m + g.scs.length)
  | .nil, b, st, m, _, _, _ => by
    rw [Pg.app_nil]
    rfl
  | .sc s r, b, st, m, h, d, l => by
    have l : m + (r.scs.length + 1) ≤ M := l
    show ((if m + 1 ≤ M then some (b.app (.sc s .nil) :: st, m + 1) else none).bind (run D M r.toks)) = _
    rw [if_pos (by omega)]
    show run D M r.toks (b.app (.sc s .nil) :: st, m + 1) = _
    rw [run_toks r _ st (m + 1) h.2 d (by omega), Pg.app_assoc]
    show some (b.app (.sc s r) :: st, m + 1 + r.scs.length) = some (b.app (.sc s r) :: st, m + (r.scs.length + 1))
    rw [show m + 1 + r.scs.length = m + (r.scs.length + 1) by omega]
  | .rp n x r, b, st, m, h, d, l => by
    have l : m + (x.scs ++ r.scs).length ≤ M := l
    rw [List.length_append] at l
    have d : st.length + 1 + max (x.dep + 1) r.dep ≤ D := d
    show ((if (b :: st).length < D then some (Pg.nil :: b :: st, m) else none).bind (run D M (x.toks ++ Tk.cl n :: r.toks))) = _
    rw [if_pos (by rw [List.length_cons]; omega)]
    show run D M (x.toks ++ Tk.cl n :: r.toks) (Pg.nil :: b :: st, m) = _
    rw [run_app, run_toks x .nil (b :: st) m h.2.2.2.1 (by rw [List.length_cons]; omega) (by omega)]
    show run D M (Tk.cl n :: r.toks) (x :: b :: st, m + x.scs.length) = _
    show ((if x ≠ .nil then some (b.app (.rp n x .nil) :: st, m + x.scs.length) else none).bind (run D M r.toks)) = _
    rw [if_pos h.2.2.1]
    show run D M r.toks (b.app (.rp n x .nil) :: st, m + x.scs.length) = _
    rw [run_toks r _ st _ h.2.2.2.2 (by omega) (by omega), Pg.app_assoc]
    show some (b.app (.rp n x r) :: st, m + x.scs.length + r.scs.length) = some (b.app (.rp n x r) :: st, m + (x.scs ++ r.scs).length)
    rw [List.length_append, Nat.add_assoc]
/-- a run that comes to its end takes each of its steps -/
theorem run_at {D M : Nat} {l : List Tk} {u f : List Pg × Nat} (h : run D M l u = some f) {i : Nat} {t : Tk} (ht : l[i]? = some t) {v : List Pg × Nat} (hv : run D M (l.take i) u = some v) : ∃ v', step D M t v = some v' ∧ run D M (l.take (i + 1)) u = some v' := by
  have e : l = l.take i ++ t :: l.drop (i + 1) := by
    obtain ⟨hi, rfl⟩ := List.getElem?_eq_some_iff.mp ht
    rw [← List.drop_eq_getElem_cons hi, List.take_append_drop]
  have h2 := h
  rw [e, run_app, hv] at h2
  have h2 : (step D M t v).bind (run D M (l.drop (i + 1))) = some f := h2
  cases hs : step D M t v with
  | none =>
    rw [hs] at h2
    cases h2
  | some v' =>
    refine ⟨v', rfl, ?_⟩
    rw [List.take_add_one, ht, run_app, hv]
    show (step D M t v).bind (run D M []) = _
    rw [hs]
    rfl
theorem step_op {D M : Nat} {st : List Pg} {m : Nat} {v' : List Pg × Nat} (h : step D M .op (st, m) = some v') : st.length < D ∧ v' = (.nil :: st, m) := by
  have h : (if st.length < D then some (Pg.nil :: st, m) else none) = some v' := h
  split at h
  · cases h
    exact ⟨by assumption, rfl⟩
  · cases h
theorem step_cl {D M : Nat} {n : Int} {st : List Pg} {m : Nat} {v' : List Pg × Nat} (h : step D M (.cl n) (st, m) = some v') : ∃ b c r, st = b :: c :: r ∧ b ≠ .nil ∧ v' = (c.app (.rp n b .nil) :: r, m) := by
  match st, h with
  | [], h => cases h
  | [_], h => cases h
  | b :: c :: r, h =>
    have h : (if b ≠ .nil then some (c.app (.rp n b .nil) :: r, m) else none) = some v' := h
    split at h
    · cases h
      exact ⟨b, c, r, rfl, by assumption, rfl⟩
    · cases h
theorem step_sc {D M : Nat} {s : Sc} {st : List Pg} {m : Nat} {v' : List Pg × Nat} (h : step D M (.sc s) (st, m) = some v') : ∃ b r, st = b :: r ∧ m + 1 ≤ M ∧ v' = (b.app (.sc s .nil) :: r, m + 1) := by
  match st, h with
  | [], h => cases h
  | b :: r, h =>
    have h : (if m + 1 ≤ M then some (b.app (.sc s .nil) :: r, m + 1) else none) = some v' := h
    split at h
    · cases h
      exact ⟨b, r, rfl, by assumption, rfl⟩
    · cases h
/-- what holds of the open bodies -/
def Dp0 (D : Nat) : List Pg → Prop
  | [] => True
  | x :: r => x.dep + (r.length + 1) ≤ D ∧ Dp0 D r
def lens (st : List Pg) : Nat := (st.map Pg.len).sum
def scss (st : List Pg) : Nat := (st.map fun g => g.scs.length).sum
theorem step_inv {D M : Nat} {B : Int} {t : Tk} {st st' : List Pg} {m m' : Nat} (h : step D M t (st, m) = some (st', m')) (tk : TkOk B t) (d : Dp0 D st) (o : ∀ x ∈ st, x.Ok B) (sm : scss st ≤ m) : Dp0 D st' ∧ lens st' ≤ lens st + 1 ∧ (∀ x ∈ st', x.Ok B) ∧ scss st' ≤ m' ∧ (m ≤ M → m' ≤ M) := by
  cases t with
  | op =>
    obtain ⟨l5, e⟩ := step_op h
    cases e
    refine ⟨⟨?_, d⟩, ?_, fun x hx => ?_, ?_, id⟩
    · show 0 + _ ≤ D
      omega
    · show 0 + lens st ≤ _
      omega
    · rcases List.mem_cons.mp hx with e | hx
      · rw [e]; trivial
      · exact o x hx
    · show 0 + scss st ≤ _
      omega
  | cl n =>
    obtain ⟨b, c, r, rfl, bn, e⟩ := step_cl h
    cases e
    obtain ⟨d1, d2, d3⟩ := d
    have tk : 2 ≤ n ∧ n ≤ B := tk
    refine ⟨⟨?_, d3⟩, ?_, fun x hx => ?_, ?_, id⟩
    · rw [Pg.dep_app]
      show max c.dep (max (b.dep + 1) 0) + _ ≤ D
      rw [List.length_cons] at d1
      omega
    · show (c.app (.rp n b .nil)).len + lens r ≤ b.len + (c.len + lens r) + 1
      rw [Pg.len_app]
      show c.len + 1 + _ ≤ _
      omega
    · rcases List.mem_cons.mp hx with e | hx
      · rw [e]
        exact (o c (List.mem_cons_of_mem _ List.mem_cons_self)).app ⟨tk.1, tk.2, bn, o b List.mem_cons_self, trivial⟩
      · exact o x (List.mem_cons_of_mem _ (List.mem_cons_of_mem _ hx))
    · have sm : b.scs.length + (c.scs.length + scss r) ≤ m := sm
      show (c.app (.rp n b .nil)).scs.length + scss r ≤ m
      rw [Pg.scs_app, List.length_append]
      show c.scs.length + (b.scs ++ []).length + _ ≤ _
      rw [List.append_nil]
      omega
  | sc s =>
    obtain ⟨b, r, rfl, l, e⟩ := step_sc h
    cases e
    obtain ⟨d1, d2⟩ := d
    refine ⟨⟨?_, d2⟩, ?_, fun x hx => ?_, ?_, fun _ => l⟩
    · rw [Pg.dep_app]
      show max b.dep 0 + _ ≤ D
      omega
    · show (b.app (.sc s .nil)).len + lens r ≤ b.len + lens r + 1
      rw [Pg.len_app]
      show b.len + 1 + _ ≤ _
      omega
    · rcases List.mem_cons.mp hx with e | hx
      · rw [e]
        exact (o b List.mem_cons_self).app ⟨tk, trivial⟩
      · exact o x (List.mem_cons_of_mem _ hx)
    · have sm : b.scs.length + scss r ≤ m := sm
      show (b.app (.sc s .nil)).scs.length + scss r ≤ m + 1
      rw [Pg.scs_app, List.length_append]
      show b.scs.length + 1 + _ ≤ _
      omega
/-! ### scans among the words -/
def Tk.isSc : Tk → Bool
  | .sc _ => true
  | _ => false
theorem isSc_len : ∀ g : Pg, (g.toks.filter Tk.isSc).length = g.scs.length
  | .nil => rfl
  | .sc s r => by
    show (List.filter Tk.isSc (Tk.sc s :: r.toks)).length = r.scs.length + 1
    rw [List.filter_cons_of_pos rfl, List.length_cons, isSc_len r]
  | .rp n b r => by
    show (List.filter Tk.isSc (Tk.op :: (b.toks ++ Tk.cl n :: r.toks))).length = (b.scs ++ r.scs).length
    rw [List.filter_cons_of_neg (by decide), List.filter_append, List.filter_cons_of_neg (show ¬ (Tk.cl n).isSc = true from fun h => by cases h), List.length_append, List.length_append, isSc_len b, isSc_len r]
theorem wd_head {B : Int} {t : Tk} (h : TkOk B t) : ∃ c r, tl t.wd = c :: r ∧ (!decide (c ∈ [40, 41])) = t.isSc := by
  cases t with
  | op => exact ⟨40, [], tl_op, by decide⟩
  | cl n =>
    refine ⟨41, tl (nw n), ?_, (by decide : (!decide (41 ∈ [40, 41])) = false)⟩
    show tl (clW ++ nw n) = _
    rw [tl_append, tl_cl]
    rfl
  | sc s =>
    obtain ⟨c, r, e, k⟩ := scw_first h
    refine ⟨c, r, e, ?_⟩
    rw [decide_eq_false]
    · rfl
    · intro m
      rcases List.mem_cons.mp m with m | m
      · omega
      · have := List.mem_singleton.mp m
        omega
end Kb

namespace Kb
open PySem PySem.Spec PyProof.Rows L2 TL
/-! ### parts in the heap -/
/-- tuples stay -/
def Kp (H H' : Hp) : Prop := ∀ a xs, H a = some (.tup xs) → H' a = some (.tup xs)
theorem Ex.kp {H H' : Hp} (e : Ex H H') : Kp H H' := fun a xs h => e a _ h
theorem Nx.kp {H H' : Hp} (e : Nx H H') : Kp H H' := fun a xs h => e.at h
theorem Kp.trans {H H1 H2 : Hp} (a : Kp H H1) (b : Kp H1 H2) : Kp H H2 := fun x xs h => b x xs (a x xs h)
theorem Kp.lst {H : Hp} {p : Addr} {xs : List V} {o : HO} (h : H p = some (.lst xs)) : Kp H (upd H p o) := fun a ys e => by
  rw [upd_ne]
  · exact e
  · intro z
    rw [z, h] at e
    cases e
def Its (H : Hp) : Pg → List V → Prop
  | .nil, vs => vs = []
  | .sc s r, vs => ∃ v us, vs = v :: us ∧ IsSc H v s ∧ Its H r us
  | .rp n b r, vs => ∃ t u bs us, vs = .ref t :: us ∧ H t = some (.tup [.int n, .ref u]) ∧ H u = some (.tup bs) ∧ Its H b bs ∧ Its H r us
def IsPg (H : Hp) (v : V) (g : Pg) : Prop := ∃ t vs, v = .ref t ∧ H t = some (.tup vs) ∧ Its H g vs
theorem IsSc.kp {H H' : Hp} (k : Kp H H') {v : V} {s : Sc} (h : IsSc H v s) : IsSc H' v s := by
  obtain ⟨t, h1, h2⟩ := h
  exact ⟨t, h1, k _ _ h2⟩
theorem Its.kp {H H' : Hp} (k : Kp H H') : ∀ {g : Pg} {vs : List V}, Its H g vs → Its H' g vs
  | .nil, _, h => h
  | .sc s r, _, ⟨v, us, e, h, t⟩ => ⟨v, us, e, h.kp k, t.kp k⟩
  | .rp n b r, _, ⟨t, u, bs, us, e, h1, h2, h3, h4⟩ => ⟨t, u, bs, us, e, k _ _ h1, k _ _ h2, h3.kp k, h4.kp k⟩
theorem IsPg.kp {H H' : Hp} (k : Kp H H') {v : V} {g : Pg} (h : IsPg H v g) : IsPg H' v g := by
  obtain ⟨t, vs, e, h1, h2⟩ := h
  exact ⟨t, vs, e, k _ _ h1, h2.kp k⟩
theorem IsPg.mono {H H' : Hp} (e : Ex H H') {v : V} {g : Pg} (h : IsPg H v g) : IsPg H' v g := h.kp e.kp
theorem Its.len {H : Hp} : ∀ {g : Pg} {vs : List V}, Its H g vs → vs.length = g.len
  | .nil, _, h => by rw [show _ = [] from h]; rfl
  | .sc s r, _, ⟨v, us, e, h, t⟩ => by rw [e, List.length_cons, t.len]; rfl
  | .rp n b r, _, ⟨t, u, bs, us, e, h1, h2, h3, h4⟩ => by rw [e, List.length_cons, h4.len]; rfl
theorem Its.app {H : Hp} : ∀ {a b : Pg} {vs us : List V}, Its H a vs → Its H b us → Its H (a.app b) (vs ++ us)
  | .nil, b, vs, us, h, k => by
    rw [show vs = [] from h]
    exact k
  | .sc s r, b, _, us, ⟨v, ws, e, h, t⟩, k => ⟨v, ws ++ us, by rw [e]; rfl, h, t.app k⟩
  | .rp n x r, b, _, us, ⟨t, u, bs, ws, e, h1, h2, h3, h4⟩, k => ⟨t, u, bs, ws ++ us, by rw [e]; rfl, h1, h2, h3, h4.app k⟩
/-- the part with an index, what is ahead of it and what is behind it -/
theorem Its.get {H : Hp} {v : V} {b : Pg} : ∀ {a : Pg} {vs : List V}, Its H (a.app b) vs → vs[a.len]? = some v →
    (∃ s r, b = .sc s r ∧ IsSc H v s) ∨ ∃ n x r t u bs, b = .rp n x r ∧ v = .ref t ∧ H t = some (.tup [.int n, .ref u]) ∧ H u = some (.tup bs) ∧ Its H x bs
  | .nil, vs, h, e => by
    have h : Its H b vs := h
    have e : vs[0]? = some v := e
    cases b with
    | nil =>
      rw [show vs = [] from h] at e
      cases e
    | sc s r =>
      obtain ⟨w, us, rfl, h1, _⟩ := h
      cases e
      exact .inl ⟨s, r, rfl, h1⟩
    | rp n x r =>
      obtain ⟨t, u, bs, us, rfl, h1, h2, h3, _⟩ := h
      cases e
      exact .inr ⟨n, x, r, t, u, bs, rfl, rfl, h1, h2, h3⟩
  | .sc s r, _, ⟨w, us, rfl, h, t⟩, e => Its.get (a := r) t e
  | .rp n x r, _, ⟨t, u, bs, us, rfl, h1, h2, h3, h4⟩, e => Its.get (a := r) h4 e
theorem Pg.len_zero {g : Pg} (h : g.len = 0) : g = .nil := by
  cases g with
  | nil => rfl
  | sc s r => exact (Nat.succ_ne_zero _ h).elim
  | rp n b r => exact (Nat.succ_ne_zero _ h).elim
/-- a walk that has come to the end -/
theorem Its.done {H : Hp} {a b : Pg} {vs : List V} (h : Its H (a.app b) vs) (e : a.len = vs.length) : b = .nil := by
  have := h.len
  rw [Pg.len_app] at this
  exact Pg.len_zero (by omega)
theorem Pg.sc_app (a : Pg) (s : Sc) (r : Pg) : a.app (.sc s r) = (a.app (.sc s .nil)).app r := by
  rw [Pg.app_assoc]
  rfl
theorem Pg.rp_app (a : Pg) (n : Int) (x r : Pg) : a.app (.rp n x r) = (a.app (.rp n x .nil)).app r := by
  rw [Pg.app_assoc]
  rfl
/-! ### parts as data -/
def pdG : Pg → List PyData
  | .nil => []
  | .sc s r => pdS s :: pdG r
  | .rp n b r => .tuple [.int n, .tuple (pdG b)] :: pdG r
def pdP (g : Pg) : PyData := .tuple (pdG g)
theorem its_dp {K : PySem.W.Frag} {H : Hp} : ∀ {g : Pg} {vs : List V}, Its H g vs → DpAll K H vs (pdG g)
  | .nil, vs, h => by
    rw [show vs = [] from h]
    exact .nil
  | .sc s r, vs, h => by
    obtain ⟨v, us, rfl, ⟨t0, rfl, ht⟩, t⟩ := h
    exact .cons (.tup (SqT.of ht) (.cons (.int _) (.cons (.int _) .nil))) (its_dp t)
  | .rp n b r, _, ⟨t, u, bs, us, rfl, h1, h2, h3, h4⟩ => .cons (.tup (SqT.of h1) (.cons (.int _) (.cons (.tup (SqT.of h2) (its_dp h3)) .nil))) (its_dp h4)
theorem IsPg.dp {K : PySem.W.Frag} {H : Hp} {v : V} {g : Pg} (h : IsPg H v g) : Dp K H v (pdP g) := by
  obtain ⟨t, vs, rfl, h1, h2⟩ := h
  exact .tup (SqT.of h1) (its_dp h2)
theorem eqv_G : ∀ g h : Pg, PyData.eqvAll (pdG g) (pdG h) = decide (g = h)
  | .nil, .nil => rfl
  | .nil, .sc _ _ => rfl
  | .nil, .rp _ _ _ => rfl
  | .sc _ _, .nil => rfl
  | .rp _ _ _, .nil => rfl
  | .sc s r, .sc t q => by
    show (PyData.eqv (pdS s) (pdS t) && PyData.eqvAll (pdG r) (pdG q)) = _
    rw [eqv_S, eqv_G r q, Bool.eq_iff_iff]
    simp
  | .sc s r, .rp n b q => by
    show (((s.1 == n) && (false && true)) && _) = _
    rw [Bool.false_and, Bool.and_false, Bool.false_and]
    exact (decide_eq_false (by intro z; cases z)).symm
  | .rp n b r, .sc t q => by
    show (((n == t.1) && (false && true)) && _) = _
    rw [Bool.false_and, Bool.and_false, Bool.false_and]
    exact (decide_eq_false (by intro z; cases z)).symm
  | .rp n b r, .rp m c q => by
    show (((n == m) && (PyData.eqvAll (pdG b) (pdG c) && true)) && PyData.eqvAll (pdG r) (pdG q)) = _
    rw [eqv_G b c, eqv_G r q, Bool.eq_iff_iff]
    simp [and_assoc]
theorem eqv_Pg (g h : Pg) : PyData.eqv (pdP g) (pdP h) = decide (g = h) := eqv_G g h
theorem lay_G : ∀ g : Pg, PyData.canLayAll0 (pdG g) = true
  | .nil => rfl
  | .sc s r => by
    show (PyData.canLay0 (pdS s) && PyData.canLayAll0 (pdG r)) = true
    rw [lay_G r]
    rfl
  | .rp n b r => by
    show ((true && (PyData.canLayAll0 (pdG b) && true)) && PyData.canLayAll0 (pdG r)) = true
    rw [lay_G b, lay_G r]
    rfl
theorem dep_G : ∀ g : Pg, PyData.depthAll (pdG g) ≤ 2 * g.dep + 1
  | .nil => Nat.zero_le _
  | .sc s r => by
    show max (PyData.depth (pdS s)) (PyData.depthAll (pdG r)) ≤ 2 * r.dep + 1
    have := dep_G r
    have : PyData.depth (pdS s) = 1 := rfl
    omega
  | .rp n b r => by
    show max (max 0 (max (PyData.depthAll (pdG b) + 1) 0) + 1) (PyData.depthAll (pdG r)) ≤ 2 * max (b.dep + 1) r.dep + 1
    have := dep_G r
    have := dep_G b
    omega
theorem shaped_Pg {g : Pg} (h : g.dep ≤ 30) : SeqAt.shaped (pdP g) = true := by
  show (PyData.canLayAll0 (pdG g) && decide (PyData.depthAll (pdG g) + 1 ≤ 64)) = true
  have := dep_G g
  rw [lay_G, decide_eq_true (by omega)]
  rfl
/-! ### how many accesses there are -/
theorem Pg.cnt_nn : ∀ {B : Int} {g : Pg}, g.Ok B → 0 ≤ g.cnt
  | _, .nil, _ => Int.le_refl 0
  | B, .sc s r, h => by
    have := Pg.cnt_nn h.2
    have := slen_pos s
    show 0 ≤ slen s + r.cnt
    omega
  | B, .rp n x r, h => by
    have a := Pg.cnt_nn h.2.2.2.2
    have b := Pg.cnt_nn h.2.2.2.1
    have c := Int.mul_nonneg (show 0 ≤ n by have := h.1; omega) b
    show 0 ≤ n * x.cnt + r.cnt
    omega
theorem slen_le {B : Int} {s : Sc} (h : SOk B s) : slen s ≤ B + 1 := by
  obtain ⟨a, b, c, d⟩ := h
  unfold slen
  split <;> omega
theorem Pg.cnt_le : ∀ {B : Int} {g : Pg} {k : Nat}, 0 ≤ B → g.Ok B → g.dep ≤ k → g.cnt ≤ (g.scs.length : Int) * (B + 1) ^ (k + 1)
  | B, .nil, k, _, _, _ => by
    show (0 : Int) ≤ ((0 : Nat) : Int) * _
    simp
  | B, .sc s r, k, hB, h, d => by
    have a := Pg.cnt_le (k := k) hB h.2 d
    have b := slen_le h.1
    have p : (1 : Int) ≤ (B + 1) ^ k := by
      have := Int.pow_pos (n := B + 1) (m := k) (by omega)
      omega
    have c : B + 1 ≤ (B + 1) ^ (k + 1) := by
      rw [Int.pow_succ]
      have := Int.mul_le_mul_of_nonneg_right p (show 0 ≤ B + 1 by omega)
      omega
    show slen s + r.cnt ≤ ((r.scs.length + 1 : Nat) : Int) * _
    rw [Int.natCast_add, Int.add_mul]
    omega
  | B, .rp n x r, k, hB, h, d => by
    have d : max (x.dep + 1) r.dep ≤ k := d
    obtain ⟨j, rfl⟩ : ∃ j, k = j + 1 := ⟨k - 1, by omega⟩
    have a := Pg.cnt_le (k := j + 1) hB h.2.2.2.2 (by omega)
    have b := Pg.cnt_le (k := j) hB h.2.2.2.1 (by omega)
    have z := Pg.cnt_nn h.2.2.2.1
    have m := Int.mul_le_mul (show n ≤ B + 1 by have := h.2.1; omega) b z (show 0 ≤ B + 1 by omega)
    have e : (B + 1) * ((x.scs.length : Int) * (B + 1) ^ (j + 1)) = (x.scs.length : Int) * (B + 1) ^ (j + 1 + 1) := by
      rw [Int.pow_succ (B + 1) (j + 1), ← Int.mul_assoc, Int.mul_comm (B + 1) (x.scs.length : Int), Int.mul_assoc, Int.mul_comm (B + 1) ((B + 1) ^ (j + 1))]
    rw [e] at m
    show n * x.cnt + r.cnt ≤ ((x.scs ++ r.scs).length : Int) * _
    rw [List.length_append, Int.natCast_add, Int.add_mul]
    omega
end Kb

namespace Kb
open PySem PySem.Spec PyProof.Rows L2 TL
/-! ### names that are still the built-in ones -/
structure Bt2 (mg : Str → Option Value) : Prop extends Bt mg where
  str : mg "str" = none
  enumerate : mg "enumerate" = none
  reversed : mg "reversed" = none
/-! ### promises -/
def spIsRep : Sp := fun vs H Q _ => ∃ v : V, vs = [v] ∧ ((∃ s, IsSc H v s ∧ RetV (.bl false) H Q) ∨ (∃ t n u bs, v = .ref t ∧ H t = some (.tup [.int n, .ref u]) ∧ H u = some (.tup bs) ∧ RetV (.bl true) H Q))
def BB (B : Int) : Prop := 0 ≤ B ∧ B + 1 ≤ 2 ^ 400
def spCnt (d : Nat) : Sp := fun vs H Q _ => ∃ (v : V) (g : Pg) (B : Int), vs = [v] ∧ IsPg H v g ∧ g.dep < d ∧ d ≤ 100 ∧ BB B ∧ g.Ok B ∧ g.scs.length ≤ 2 ^ 18 ∧ RetV (.int g.cnt) H Q
def spDigits (e : Nat) : Sp := fun vs H Q _ => ∃ (n : Int), vs = [.int n] ∧ 0 ≤ n ∧ n < 10 ^ e ∧ RetV (.str (nw n)) H Q
def spScw (e : Nat) : Sp := fun vs H Q _ => ∃ (v : V) (s : Sc) (B : Int), vs = [v] ∧ IsSc H v s ∧ SOk B s ∧ B < 10 ^ e ∧ RetV (.str (scw s)) H Q
def spWords (e d : Nat) : Sp := fun vs H Q _ => ∃ (v : V) (g : Pg) (B : Int), vs = [v] ∧ IsPg H v g ∧ g.dep < d ∧ g.Ok B ∧ B < 10 ^ e ∧ g.toks.length ≤ 2 ^ 18 ∧ ∀ p H', H p = none → Ex H H' → H' p = some (.lst (g.wl.map V.str)) → Q (.ref p) H'
def spRdD : Sp := fun vs H Q _ => ∃ (i : Int) (m : Int), vs = [.str (nw i), .int m] ∧ 0 ≤ i ∧ i < 10 ^ 600 ∧ ((nw i).length : Int) ≤ m ∧ RetV (.int i) H Q
def spRdN : Sp := fun vs H Q _ => ∃ (i : Int), vs = [.str (nw i)] ∧ 0 ≤ i ∧ i ≤ 10 ^ 30 ∧ RetV (.int i) H Q
def spRdS : Sp := fun vs H Q _ => ∃ (s : Sc), vs = [.str (scw s)] ∧ SOk (10 ^ 30) s ∧ ∀ t H', H t = none → Ex H H' → H' t = some (.tup [.int s.1, .int s.2]) → Q (.ref t) H'
def spRdT : Sp := fun vs H Q _ => ∃ (n : Int), vs = [.str (clW ++ nw n)] ∧ 2 ≤ n ∧ n ≤ 10 ^ 30 ∧ RetV (.int n) H Q
/-- a text that is that of a program within the limits -/
structure Lim (g : Pg) : Prop where
  ok : g.Ok (10 ^ 30)
  dep : g.dep ≤ 5
  few : g.scs.length ≤ 40
def spRead : Sp := fun vs H Q _ => ∃ (g : Pg), vs = [.str (txt g)] ∧ Lim g ∧ ∀ v H', Ex H H' → IsPg H' v g → Q v H'
theorem Lim.toks {g : Pg} (h : Lim g) : g.toks.length ≤ 440 := by
  have := toks_len h.ok
  have a := Nat.mul_le_mul (show 2 * g.dep + 1 ≤ 11 by have := h.dep; omega) h.few
  omega
theorem Lim.big {g : Pg} (h : Lim g) : (g.wl.map (·.length)).sum + g.wl.length * spW.length ≤ 2 ^ 18 := by
  have a := txt_big h.ok (k := 31) (by decide) (by decide +kernel)
  have b := Nat.mul_le_mul_right (2 * 31 + 2) h.toks
  omega
theorem Lim.txt {g : Pg} (h : Lim g) : (txt g).length ≤ 2 ^ 18 := Nat.le_trans (join_len _) h.big
theorem log_nw {n : Int} (h : 0 ≤ n) (b : n < 10 ^ 500) : n.natAbs.log2 < 1920 := by
  refine Nat.lt_of_lt_of_le (PySem.Flt.log2_lt_of (k := 1661) (by decide) ?_) (by decide)
  have e : ((10 : Int) ^ 500) = ((10 ^ 500 : Nat) : Int) := by simp
  have : n.natAbs < 10 ^ 500 := by omega
  exact Nat.lt_of_lt_of_le this (by decide +kernel)
end Kb

namespace Kb
open PySem PySem.Spec PyProof.Rows L2 TL
section
variable {K : PySem.W.Frag} {a : Addr} {xs : List V} {g : TG}
/-- for i, x in enumerate(xs) -/
theorem for_enum {tb : TS} {D : Ends} {σ : L2.St} {H : Hp} (Pv : Nat → L2.St → Hp → Prop) (h0 : Pv 0 σ H) (hl : ∀ i σ H, i ≤ xs.length → Pv i σ H → SqL K H a xs)
    (hs : ∀ i x T σ H, xs[i]? = some x → H T = none → Pv i σ H → g (.ref T) σ (upd H T (.tup [.int (i : Nat), x])) fun σ2 H2 => tb { D with nx := Pv (i + 1), ct := Pv (i + 1), bk := D.nx } σ2 H2) (hd : ∀ σ H, Pv xs.length σ H → D.nx σ H) :
    ∃ W : Nat → Nat → L2.St → Hp → Prop, (∃ m, W 0 m σ H) ∧ ∀ i m σ H, W i m σ H →
      ((Ite K a).stop i H ∧ D.nx σ H) ∨ ((Ite K a).go i H ∧ ∃ N : L2.St → Hp → Prop, (∀ σ' H', N σ' H' → ∃ m', m' < m ∧ W (i + 1) m' σ' H') ∧ ∀ x H', (Ite K a).yld i H x H' → g x σ H' fun σ2 H2 => tb { D with nx := N, ct := N, bk := D.nx } σ2 H2) := by
  refine ⟨fun i m σ H => m = xs.length - i ∧ i ≤ xs.length ∧ Pv i σ H, ⟨xs.length, by simp, Nat.zero_le _, h0⟩, ?_⟩
  rintro i m σ H ⟨rfl, hi, p⟩
  have q1 := hl i σ H hi p
  by_cases hlt : i < xs.length
  · have g1 : xs[i]? = some xs[i] := List.getElem?_eq_getElem hlt
    refine .inr ⟨⟨_, _, q1, g1⟩, Pv (i + 1), fun σ' H' p' => ⟨xs.length - (i + 1), by omega, rfl, hlt, p'⟩, fun v H' y => ?_⟩
    obtain ⟨T, x1, rfl, nT, rfl, f1⟩ := y
    exact hs i x1 T σ H (f1 xs q1) nT p
  · have e : i = xs.length := by omega
    subst e
    exact .inl ⟨⟨xs, q1, Nat.le_refl _⟩, hd σ H p⟩
end
theorem cut_cl (n : Int) : cutS (clW ++ nw n) (some 1) none = nw n := by
  refine ext_tl ?_
  unfold cutS
  show ((clW ++ nw n).cps.toList.drop _).take _ = _
  have e : (clW ++ nw n).cps.toList = 41 :: tl (nw n) := by
    show tl (clW ++ nw n) = _
    rw [tl_append, tl_cl]
    rfl
  have l : (clW ++ nw n).length = (tl (nw n)).length + 1 := by rw [len_tl, tl_append, tl_cl, List.length_append]; exact Nat.add_comm _ _
  rw [e, l, HT.sIx_none, show HT.sIx ((tl (nw n)).length + 1) 0 (some 1) = min 1 ((tl (nw n)).length + 1) from HT.sIx_nat _ 0 1, show min 1 ((tl (nw n)).length + 1) = 1 by omega]
  show (tl (nw n)).take _ = _
  rw [show (tl (nw n)).length + 1 - 1 = (tl (nw n)).length by omega, List.take_length]
/-- the open bodies, the innermost one first -/
def Bod (H : Hp) (p : Addr) (st : List Pg) : Prop := ∃ us, H p = some (.lst us.reverse) ∧ Paired (IsPg H) us st
theorem Pp.kp {H H' : Hp} (k : Kp H H') : ∀ {vs : List V} {gs : List Pg}, Paired (IsPg H) vs gs → Paired (IsPg H') vs gs
  | _, _, .nil => .nil
  | _, _, .cons h t => .cons (h.kp k) (Pp.kp k t)
theorem Pp.len {H : Hp} : ∀ {vs : List V} {gs : List Pg}, Paired (IsPg H) vs gs → vs.length = gs.length
  | _, _, .nil => rfl
  | _, _, .cons h t => congrArg (· + 1) (Pp.len t)
theorem Bod.mono {H H' : Hp} (e : Ex H H') {p : Addr} {st : List Pg} (h : Bod H p st) : Bod H' p st := by
  obtain ⟨us, h1, h2⟩ := h
  exact ⟨us, e _ _ h1, Pp.kp e.kp h2⟩
end Kb

namespace Kb
open PySem PySem.Spec PyProof.Rows L2 StX
/-! ### own operators: ==, !=, +, * of instances of an own class -/
inductive Ty2 (H : Hp) : V → Value → Prop where
  | non : Ty2 H .non (.type "NoneType")
  | bl (b : Bool) : Ty2 H (.bl b) (.type "bool")
  | int (i : Int) : Ty2 H (.int i) (.type "int")
  | str (x : Str) : Ty2 H (.str x) (.type "str")
  | lst {a : Addr} {xs : List V} (e : H a = some (.lst xs)) : Ty2 H (.ref a) (.type "list")
  | tup {a : Addr} {xs : List V} (e : H a = some (.tup xs)) : Ty2 H (.ref a) (.type "tuple")
  | dK {a : Addr} {kvs : List (Key × V)} (e : H a = some (.dK kvs)) : Ty2 H (.ref a) (.type "dict")
  | ins {a C dx : Addr} {fs : List (Str × V)} (e : H a = some (.ins C dx fs)) : Ty2 H (.ref a) (.ref C)
section
variable {X : Cx} {pins : List (Addr × Obj)} {σ : L2.St} {H : Hp} {s : Shared}
theorem looks_cls {M : Model} {h : Heap} {a : Addr} {o : Obj} (e : h.get? a = some o) : PySem.W.Looks M h (typeOf (.ref a)) o.cls := (PySem.W.Looks.ld e).andThen .now
theorem looks_typeIs {M : Model} {a : Addr} {T : String} (e : s.TypeIs (.ref a) T) : PySem.W.Looks M s.heap (typeOf (.ref a)) (.type T) := by
  obtain ⟨o, h1, h2⟩ := e
  rw [← h2]
  exact looks_cls h1
theorem ty_looks {M : Model} {y : V} {u t : Value} (I : Inv X pins σ H s) (r : RelV y u) (ty : Ty2 H y t) : PySem.W.Looks M s.heap (typeOf u) t := by
  cases ty with
  | non =>
    cases (show u = Value.none from r)
    exact PySem.W.Looks.of_pure rfl
  | bl b =>
    cases (show u = Value.bool b from r)
    exact PySem.W.Looks.of_pure rfl
  | int i =>
    obtain ⟨tk, rfl⟩ := r
    exact PySem.W.Looks.of_pure rfl
  | str x =>
    obtain ⟨tk, rfl⟩ := r
    exact PySem.W.Looks.of_pure rfl
  | lst e =>
    cases (show u = Value.ref _ from r)
    obtain ⟨its, rv, hl, hz⟩ := I.list (SqL.of e)
    exact looks_typeIs hl.isList.typeIs
  | tup e =>
    cases (show u = Value.ref _ from r)
    obtain ⟨its, rv, hl, hz⟩ := I.tuple (SqT.of e)
    exact looks_typeIs hl.typeIs
  | dK e =>
    cases (show u = Value.ref _ from r)
    exact looks_typeIs (dict_typeIs I (DGet.k (k := Sum.inl 0) e))
  | ins e =>
    cases (show u = Value.ref _ from r)
    obtain ⟨mA, J, _⟩ := ins_get I.hok e
    obtain ⟨od, J, _⟩ := J.look
    exact J.type
/-- an own def run on values, somewhere below the running body -/
theorem own_run {C : Addr} {k : Nat} {f : Addr} {fd : FuncData} {ps : List Str} {sp : Sp} {A : Around} {us : List Value} {vs : List V} {Q : VK} {E' : Value → Shared → Prop} (F : FnOk X.prog X.w X.K X.mg X.base CX0 k f fd ps sp) (hb : Binds X.K fd ps []) (hr : Room k A) (hfr : A.frames = X.A.frames)
    (I : Inv X pins σ H s) (r : Vals vs us) (h : sp vs H Q E0) : wpAny (model X.prog X.w) A (call (.ref f) us) (fun w' s' => ∃ v H', Inv X pins σ H' s' ∧ RelV v w' ∧ Q v H') E' s := by
  have e0 : Env0 X.prog X.w X.K X.mg X.base A X.stack s H := by
    have e := I.env0
    exact ⟨by rw [hfr]; exact e.frames, e.mod, e.bs, e.bsz, e.funs, e.frf, e.hok, e.bare⟩
  have hl := F.len _ _ _ _ h
  refine wpAny_call (codeAny_mono (F.run A X.stack s H ⟨us, []⟩ us vs Q E0 hr e0 (by
    have := hb s us I.kIn (by rw [List.append_nil, ← r.length]; exact hl)
    rw [List.append_nil] at this
    exact this) r h) fun fr s' hq => ?_)
  cases fr with
  | error e => exact hq.elim
  | ok fl =>
    cases fl with
    | ret w' =>
      obtain ⟨z, H', I', rz, q⟩ := I.after hq
      exact ⟨z, H', I', rz, q⟩
    | next => exact False.elim hq
    | brk => exact False.elim hq
    | cont => exact False.elim hq
/-- its answer is a truth -/
def rOwnB (K : PySem.W.Frag) (C : Addr) (sp : Sp) (flip : Bool) : R2 := fun x y H Q => ∃ a dx fs t, x = .ref a ∧ H a = some (.ins C dx fs) ∧ Ty2 H y t ∧ PySem.W.notFirst K C t = true ∧ sp [x, y] H (fun v H' => ∃ k : Bool, v = .bl k ∧ Q (.bl (if flip then !k else k)) H') E0
theorem op_ownEq {C : Addr} {k k' : Nat} {sp : Sp} (D : DMt X.prog X.w X.K X.mg X.base C "__eq__" k ["self", "other"] sp) (hr : Room k' X.A) (hk : k ≤ k' := by decide) : OpR X (compareOp .Eq) (rOwnB X.K C sp false) := by
  intro pins s σ H x y v u Q I rx ry hq
  obtain ⟨f, fd, hcl, hm, hb, F⟩ := D.ex
  obtain ⟨a, dx, fs, t, rfl, ha, ty, nf, q⟩ := hq
  cases (show v = Value.ref a from rx)
  obtain ⟨mA, J, _⟩ := ins_get I.hok ha
  obtain ⟨od, J, _⟩ := J.look
  obtain ⟨m, hF⟩ := I.fr
  refine PySem.W.cmp_K (op := .Eq) (tb := t) (hr.mono hk).units0 hF I.ok.mod.kin J (ty_looks I ry ty) nf hm.at_ hm.fn ?_
  refine wpAny_mono (own_run (C := C) F hb (hr.mono hk) rfl I (.cons (show RelV (V.ref a) (Value.ref a) from rfl) (.cons ry .nil)) q) (fun w' s' z => ?_) fun _ _ e => e
  obtain ⟨v', H', I', rv, b, rfl, q'⟩ := z
  cases (show w' = Value.bool b from rv)
  exact ⟨.bl b, H', I', rfl, q'⟩
end
end Kb

namespace Kb
/-! ### pieces put together -/
def jst (acc : List Pc) (p : Pc) : List Pc := match acc.getLast? with
  | some q => if q.2.1 = p.1 - 1 ∧ q.2.2 = p.2.2 then acc.dropLast ++ [(q.1, p.2.1, p.2.2)] else acc ++ [p]
  | none => [p]
def jnP (ps : List Pc) : List Pc := ps.foldl jst []
theorem atP_app (a b : List Pc) (d : Int) : atP (a ++ b) d = atP a d + atP b d := by simp [atP]
end Kb

namespace Kb
open PySem PySem.Spec PyProof.Rows L2 StX
/-! ### lists of pieces as data -/
def pdPc (p : Pc) : PyData := .tuple [.int p.1, .int p.2.1, .int p.2.2]
def pdPs (ps : List Pc) : PyData := .list (ps.map pdPc)
theorem lay_P (ps : List Pc) : PyData.canLayAll0 (ps.map pdPc) = true := by
  induction ps with
  | nil => rfl
  | cons s r ih =>
    show (PyData.canLay0 (pdPc s) && PyData.canLayAll0 (r.map pdPc)) = true
    rw [ih]
    rfl
theorem depth_P (ps : List Pc) : PyData.depthAll (ps.map pdPc) ≤ 1 := by
  induction ps with
  | nil => exact Nat.zero_le _
  | cons s r ih =>
    show max (PyData.depth (pdPc s)) (PyData.depthAll (r.map pdPc)) ≤ 1
    have : PyData.depth (pdPc s) = 1 := rfl
    omega
theorem shaped_P (ps : List Pc) : SeqAt.shaped (pdPs ps) = true := by
  show (PyData.canLayAll0 (ps.map pdPc) && decide (PyData.depthAll (ps.map pdPc) + 1 ≤ 64)) = true
  have := depth_P ps
  rw [lay_P, decide_eq_true (by omega)]
  rfl
theorem eqv_Pc (s t : Pc) : PyData.eqv (pdPc s) (pdPc t) = decide (s = t) := by
  obtain ⟨a, b, e⟩ := s
  obtain ⟨c, d, f⟩ := t
  show ((a == c) && ((b == d) && ((e == f) && true))) = _
  rw [Bool.eq_iff_iff]
  simp
theorem eqv_P : ∀ ss ts : List Pc, PyData.eqv (pdPs ss) (pdPs ts) = decide (ss = ts)
  | [], [] => rfl
  | [], _ :: _ => rfl
  | _ :: _, [] => rfl
  | s :: r, t :: q => by
    show (PyData.eqv (pdPc s) (pdPc t) && PyData.eqv (pdPs r) (pdPs q)) = _
    rw [eqv_Pc, eqv_P r q, Bool.eq_iff_iff]
    simp
theorem Pcs.dp {K : PySem.W.Frag} {H : Hp} {a : Addr} {ps : List Pc} (h : Pcs H a ps) : Dp K H (.ref a) (pdPs ps) := by
  obtain ⟨vs, ha, pa⟩ := h
  have all : ∀ {vs : List V} {ps : List Pc}, PaP H vs ps → DpAll K H vs (ps.map pdPc) := by
    intro vs ps p
    induction p with
    | nil => exact .nil
    | cons h t ih =>
      obtain ⟨t0, rfl, ht⟩ := h
      exact .cons (.tup (SqT.of ht) (.cons (.int _) (.cons (.int _) (.cons (.int _) .nil)))) ih
  exact .lst (SqL.of ha) (all pa)
def Bn (n : Int) : Prop := 0 ≤ n ∧ n < 10 ^ 500
/-! ### promises -/
/-- what isinstance, == and != want of the class, beside its own attributes -/
structure Pof (K : PySem.W.Frag) (C : Addr) : Prop where
  cl : Cls K C
  ha : PySem.W.findIn K (.ref C) "__class__" = some (some (.builtin "object.__class__"))
  hn : PySem.W.specialIn K (.builtin "object.__class__") "__get__" = some (some (.builtin "getset_descriptor.__get__"))
  htk : PySem.W.takesIn K (.builtin "object.__class__") = some true
  hm : PySem.W.mroIn K C (.type "object") = some true
  me : PySem.W.kitOne K (.ref C) (.ref C) = some true
/-- a kind of values that is not of the class -/
def Oth (K : PySem.W.Frag) (C : Addr) (t : Value) : Prop := PySem.W.kitOne K t (.ref C) = some false ∧ PySem.W.notFirst K C t = true
theorem Ty2.tyx {K : PySem.W.Frag} {H : Hp} {y : V} {t : Value} (h : Ty2 H y t) (ni : ∀ a dx fs, ¬ (y = V.ref a ∧ ∃ C, H a = some (.ins C dx fs))) : TyX K H y t := by
  cases h with
  | non => exact .base .non
  | bl b => exact .base (.bl b)
  | int i => exact .base (.int i)
  | str x => exact .base (.str x)
  | lst e => exact .base (.lst e)
  | tup e => exact .base (.tup e)
  | dK e => exact .base (.dK e)
  | ins e => exact absurd ⟨rfl, _, e⟩ (ni _ _ _)
def spInitF (C : Addr) : Sp := fun vs H Q _ => ∃ (x dx : Addr) (c : Int) (a : Addr) (ps : List Pc), vs = [.ref x, .int c, .ref a] ∧ H x = some (.ins C dx []) ∧ 0 ≤ c ∧ Pcs H a ps ∧ Val ps ∧
  ∀ H' rs l, (∀ b o, b ≠ x → H b = some o → H' b = some o) → Pf C H' x c rs → Tells ps rs → H l = none → H' x = some (.ins C dx (pf c l)) → Q .non H'
def spPiecesP (C : Addr) : Sp := fun vs H Q _ => ∃ (x : Addr) (c : Int) (rs : List Pc), vs = [.ref x] ∧ Pf C H x c rs ∧ ∀ p H', H p = none → Ex H H' → Pcs H' p rs → Q (.ref p) H'
def spEqP (K : PySem.W.Frag) (C : Addr) : Sp := fun vs H Q _ => ∃ (x : Addr) (c : Int) (rs : List Pc) (y : V), vs = [.ref x, y] ∧ Pf C H x c rs ∧
  ((∃ z c' rs', y = .ref z ∧ Pf C H z c' rs' ∧ RetV (.bl (decide (c = c' ∧ rs = rs'))) H Q) ∨ (∃ t, Ty2 H y t ∧ (∀ a dx fs, ¬ (y = V.ref a ∧ ∃ C, H a = some (.ins C dx fs))) ∧ Oth K C t ∧ RetV (.bl false) H Q))
/-- a pair of a number of cold accesses and a list of pieces -/
def IsNr (H : Hp) (v : V) (z : Int × List Pc) : Prop := ∃ t g, v = .ref t ∧ H t = some (.tup [.int z.1, .ref g]) ∧ Pcs H g z.2
end Kb

namespace Kb
open PySem PySem.Spec PyProof.Rows L2 StX
/-! ### own + and * -/
def rOwnAdd (C : Addr) (sp : Sp) : R2 := fun x y H Q => ∃ a dx fs b dy gs, x = .ref a ∧ y = .ref b ∧ H a = some (.ins C dx fs) ∧ H b = some (.ins C dy gs) ∧ sp [x, y] H (fun v H' => ∃ p : Addr, v = .ref p ∧ Q (.ref p) H') E0
def rOwnMul (C : Addr) (sp : Sp) : R2 := fun x y H Q => ∃ a dx fs i, x = .ref a ∧ y = .int i ∧ H a = some (.ins C dx fs) ∧ sp [x, y] H (fun v H' => ∃ p : Addr, v = .ref p ∧ Q (.ref p) H') E0
section
variable {X : Cx}
theorem op_ownAdd {C : Addr} {k k' : Nat} {sp : Sp} (D : DMt X.prog X.w X.K X.mg X.base C "__add__" k ["self", "other"] sp) (hc : PySem.W.selfFirst X.K C = true) (hr : Room k' X.A) (hk : k ≤ k' := by decide) : OpR X (binaryOp .Add) (rOwnAdd C sp) := by
  intro pins s σ H x y v u Q I rx ry hq
  obtain ⟨f, fd, hcl, hm, hb, Fn⟩ := D.ex
  obtain ⟨a, dx, fs, b, dy, gs, rfl, rfl, ha, hb', q⟩ := hq
  cases (show v = Value.ref a from rx)
  cases (show u = Value.ref b from ry)
  obtain ⟨mA, J, _⟩ := ins_get I.hok ha
  obtain ⟨od, J, _⟩ := J.look
  obtain ⟨mB, J', _⟩ := ins_get I.hok hb'
  obtain ⟨od', J', _⟩ := J'.look
  obtain ⟨m, hF⟩ := I.fr
  refine PySem.W.binop_K (op := .Add) hF I.ok.mod.kin J J'.type hc hm.at_ hm.fn ?_
  refine wpAny_mono (own_run (C := C) Fn hb (hr.mono hk) rfl I (.cons (show RelV (V.ref a) (Value.ref a) from rfl) (.cons (show RelV (V.ref b) (Value.ref b) from rfl) .nil)) q) (fun w' s' z => ?_) fun _ _ e => e
  obtain ⟨v', H', I', rv, p, rfl, q'⟩ := z
  cases (show w' = Value.ref p from rv)
  exact ⟨.ref p, H', I', rfl, q'⟩
theorem op_ownMul {C : Addr} {k k' : Nat} {sp : Sp} {fo ro : Option Value} (D : DMt X.prog X.w X.K X.mg X.base C "__mul__" k ["self", "times"] sp) (hc : PySem.W.selfFirst X.K C = true) (hrm : PySem.W.findIn X.K (.ref C) "__rmul__" = some none)
    (h1 : PySem.W.findIn X.K (.type "int") "__mul__" = some fo) (h2 : PySem.W.findIn X.K (.type "int") "__rmul__" = some ro) (hsub : PySem.W.subIn X.K (.type "int") (.ref C) = some false) (hr : Room k' X.A) (hk : k ≤ k' := by decide) : OpR X (binaryOp .Mult) (rOwnMul C sp) := by
  intro pins s σ H x y v u Q I rx ry hq
  obtain ⟨f, fd, hcl, hm, hb, Fn⟩ := D.ex
  obtain ⟨a, dx, fs, i, rfl, rfl, ha, q⟩ := hq
  cases (show v = Value.ref a from rx)
  obtain ⟨tk, rfl⟩ := ry
  obtain ⟨mA, J, _⟩ := ins_get I.hok ha
  obtain ⟨od, J, _⟩ := J.look
  obtain ⟨m, hF⟩ := I.fr
  refine PySem.W.ksp_binT (op := .Mult) (T := "int") hF I.ok.mod.kin J rfl hc hm.at_ hm.fn hrm (.inl rfl) h1 h2 hsub ?_
  refine wpAny_mono (own_run (C := C) Fn hb (hr.mono hk) rfl I (.cons (show RelV (V.ref a) (Value.ref a) from rfl) (.cons (show RelV (V.int i) (Value.int i tk) from ⟨tk, rfl⟩) .nil)) q) (fun w' s' z => ?_) fun _ _ e => e
  obtain ⟨v', H', I', rv, p, rfl, q'⟩ := z
  cases (show w' = Value.ref p from rv)
  exact ⟨.ref p, H', I', rfl, q'⟩
end
/-! ### sums and multiples of pieces -/
/-- numbers of at most m digits -/
structure Sz (m : Nat) (rs : List Pc) : Prop where
  can : Can rs
  pok : ∀ p ∈ rs, Pok p
  hi : ∀ p ∈ rs, p.2.1 ≤ 10 ^ 100
  tm : ∀ p ∈ rs, p.2.2 ≤ 10 ^ m
theorem Sz.val {m : Nat} {rs : List Pc} (S : Sz m rs) (hm : m ≤ 200) (l : rs.length ≤ 200000) : Val rs := by
  have g : (10 : Int) ^ 100 ≤ 10 ^ 200 := by decide +kernel
  have g2 : (10 : Int) ^ m ≤ 10 ^ 200 := by
    have := Nat.pow_le_pow_right (show 0 < 10 by decide) hm
    have e : ∀ k : Nat, ((10 : Int) ^ k) = ((10 ^ k : Nat) : Int) := fun k => by rw [Int.natCast_pow]; rfl
    rw [e, e]
    exact Int.ofNat_le.mpr this
  exact ⟨fun p hp => ⟨S.pok p hp, Int.le_trans (S.hi p hp) g, Int.le_trans (S.tm p hp) g2⟩, S.can.asc, l⟩
/-- what flattened makes of pieces that tell f, each distance up to a top and at most B times -/
theorem Sz.of {m : Nat} {qs rs : List Pc} (T : Tells qs rs) (ok : ∀ p ∈ qs, Pok p) (hi : ∀ p ∈ qs, p.2.1 ≤ 10 ^ 100) (tm : ∀ d, atP qs d ≤ 10 ^ m) : Sz m rs := by
  refine ⟨T.can, fun p hp => ?_, fun p hp => ?_, fun p hp => ?_⟩
  · obtain ⟨a, b, c, _⟩ := T.row ok hp
    exact ⟨a, b, c⟩
  · obtain ⟨a, b, c, d, q, hq, e⟩ := T.row ok hp
    exact Int.le_trans e (hi q hq)
  · have := T.can.at p hp p.1 (Int.le_refl _) (T.can.le p hp)
    rw [T.at ok] at this
    rw [← this]
    exact tm _
/-- the pieces with their times multiplied -/
def mulP (ps : List Pc) (n : Int) : List Pc := ps.map fun p => (p.1, p.2.1, p.2.2 * n)
theorem atP_mul (ps : List Pc) (n d : Int) : atP (mulP ps n) d = atP ps d * n := by
  induction ps with
  | nil => show (0 : Int) = 0 * n; simp
  | cons p r ih =>
    show atP ((p.1, p.2.1, p.2.2 * n) :: mulP r n) d = _
    rw [atP_cons, atP_cons, ih, Int.add_mul]
    congr 1
    unfold at1
    show (if p.1 ≤ d ∧ d ≤ p.2.1 then p.2.2 * n else 0) = _
    split
    · rfl
    · simp
/-! ### pieces between all ends -/
def cells (f : Int → Int) : List Int → List Pc
  | l :: u :: r => (if 0 < f l then [(l, u - 1, f l)] else []) ++ cells f (u :: r)
  | _ => []
end Kb

namespace Kb
open PySem PySem.Spec PyProof.Rows L2 TL
/-! ### the object of a program -/
structure Tpg (K : PySem.W.Frag) (C : Addr) : Prop where
  cl : Cls K C
  nP : NoAttr K C "parts"
def pgF (t : V) : List (Str × V) := [("parts", t)]
theorem pgF_put (t : V) : putF "parts" t [] = pgF t := rfl
theorem pgF_get (t : V) : (pgF t).lookup ("parts" : Str) = some t := by
  rw [← pgF_put, lookup_putF, if_pos rfl]
def PgAt (C : Addr) (H : Hp) (x : Addr) (g : Pg) : Prop := ∃ dx t, H x = some (.ins C dx (pgF t)) ∧ IsPg H t g
theorem PgAt.nx {C : Addr} {H H' : Hp} {x : Addr} {g : Pg} (e : Nx H H') (h : PgAt C H x g) : PgAt C H' x g := by
  obtain ⟨dx, t, h1, h2⟩ := h
  exact ⟨dx, t, e.at h1, h2.kp e.kp⟩
theorem PgAt.mono {C : Addr} {H H' : Hp} {x : Addr} {g : Pg} (e : Ex H H') (h : PgAt C H x g) : PgAt C H' x g := h.nx e.nx
/-- a program whose numbers and words are not too many -/
structure Med (g : Pg) : Prop where
  ok : g.Ok (10 ^ 63)
  dep : g.dep < 12
  few : g.toks.length ≤ 100000
theorem scs_toks : ∀ g : Pg, g.scs.length ≤ g.toks.length
  | .nil => Nat.le_refl _
  | .sc s r => Nat.succ_le_succ (scs_toks r)
  | .rp n b r => by
    show (b.scs ++ r.scs).length ≤ (Tk.op :: (b.toks ++ Tk.cl n :: r.toks)).length
    have := scs_toks b
    have := scs_toks r
    rw [List.length_append, List.length_cons, List.length_append, List.length_cons]
    omega
theorem Med.scs {g : Pg} (h : Med g) : g.scs.length ≤ 100000 := Nat.le_trans (scs_toks g) h.few
theorem Lim.med {g : Pg} (h : Lim g) : Med g := ⟨h.ok.mono (by decide +kernel), by have := h.dep; omega, by have := h.toks; omega⟩
theorem Med.txt {g : Pg} (h : Med g) : (g.wl.map (·.length)).sum + g.wl.length * spW.length ≤ 16777216 := by
  have a := txt_big h.ok (k := 64) (by decide) (by decide +kernel)
  have b := Nat.mul_le_mul_right (2 * 64 + 2) h.few
  omega
def spInitPg (C : Addr) : Sp := fun vs H Q _ => ∃ (x dx : Addr) (g : Pg), vs = [.ref x, .str (txt g)] ∧ H x = some (.ins C dx []) ∧ Lim g ∧ ∀ H', (∀ b o, b ≠ x → H b = some o → H' b = some o) → PgAt C H' x g → Q .non H'
def spTextP (C : Addr) : Sp := fun vs H Q _ => ∃ (x : Addr) (g : Pg), vs = [.ref x] ∧ PgAt C H x g ∧ Med g ∧ RetV (.str (txt g)) H Q
def spAccPg (C : Addr) : Sp := fun vs H Q _ => ∃ (x : Addr) (g : Pg), vs = [.ref x] ∧ PgAt C H x g ∧ Med g ∧ RetV (.int g.cnt) H Q
def spEqPg (K : PySem.W.Frag) (C : Addr) : Sp := fun vs H Q _ => ∃ (x : Addr) (g : Pg) (y : V), vs = [.ref x, y] ∧ PgAt C H x g ∧ g.dep ≤ 30 ∧
  ((∃ z h, y = .ref z ∧ PgAt C H z h ∧ h.dep ≤ 30 ∧ RetV (.bl (decide (g = h))) H Q) ∨ (∃ t, Ty2 H y t ∧ (∀ a dx fs, ¬ (y = V.ref a ∧ ∃ C, H a = some (.ins C dx fs))) ∧ Oth K C t ∧ RetV (.bl false) H Q))
end Kb

namespace Kb
open PySem PySem.Spec PyProof.Rows L2
/-! ### summaries in the heap -/
structure Smx (K : PySem.W.Frag) (C : Addr) : Prop where
  cl : Cls K C
  nF : NoAttr K C "_firsts"
  nL : NoAttr K C "_lasts"
  nP : NoAttr K C "profile"
def smF (a b c : V) : List (Str × V) := putF "profile" c (putF "_lasts" b (putF "_firsts" a []))
theorem smF_f (a b c : V) : (smF a b c).lookup ("_firsts" : Str) = some a := by
  unfold smF
  rw [lookup_putF, if_neg (by decide +kernel), lookup_putF, if_neg (by decide +kernel), lookup_putF, if_pos rfl]
theorem smF_l (a b c : V) : (smF a b c).lookup ("_lasts" : Str) = some b := by
  unfold smF
  rw [lookup_putF, if_neg (by decide +kernel), lookup_putF, if_pos rfl]
theorem smF_p (a b c : V) : (smF a b c).lookup ("profile" : Str) = some c := by
  unfold smF
  rw [lookup_putF, if_pos rfl]
/-- a summary: its firsts, its lasts, and a profile of the class D -/
def SmAt (C D : Addr) (H : Hp) (x : Addr) (X Y : List Sc) (c : Int) (rs : List Pc) : Prop := ∃ dx a b q, H x = some (.ins C dx (smF (.ref a) (.ref b) (.ref q))) ∧ Scs H a X ∧ Scs H b Y ∧ PfAt D H q c rs
theorem SmAt.mono {C D : Addr} {H H' : Hp} (e : Ex H H') {x : Addr} {X Y : List Sc} {c : Int} {rs : List Pc} (h : SmAt C D H x X Y c rs) : SmAt C D H' x X Y c rs := by
  obtain ⟨dx, a, b, q, h1, h2, h3, dq, l, h4, h5⟩ := h
  exact ⟨dx, a, b, q, e _ _ h1, h2.mono e, h3.mono e, dq, l, e _ _ h4, h5.mono e⟩
end Kb

namespace Kb
open PySem PySem.Spec PyProof.Rows L2 TL
def rSignNo : R2 := fun x y H Q => ∃ (c : Nat) (z : Str), x = .str ⟨#[c]⟩ ∧ y = .str z ∧ Q (.bl (!decide (c ∈ z.cps.toList))) H
theorem op_noSign {X : Cx} : OpR X (compareOp .NotIn) rSignNo := op_notIn_sign
/-! ### promises of the law's own words -/
def spLScan : Sp := fun vs H Q _ => ∃ (b : Addr) (wide : Int), vs = [.ref b, .int wide] ∧ H b = some (bagO b) ∧ 1 ≤ wide ∧ wide ≤ 10 ^ 30 ∧ ∀ s H', SOk (10 ^ 30) s → s.1 < wide → Ex H H' → Q (.str (scw s)) H'
/-- words that the law draws -/
structure Drw (deep most : Int) (g : Pg) : Prop where
  ok : g.Ok (10 ^ 30)
  lt : ∀ s ∈ g.scs, s.1 < 10 ^ 30
  dep : (g.dep : Int) ≤ deep
  few : (g.scs.length : Int) ≤ most
  one : 1 ≤ g.scs.length
def spLWords (d : Nat) : Sp := fun vs H Q _ => ∃ (b : Addr) (most deep wide high : Int), vs = [.ref b, .int most, .int deep, .int wide, .int high] ∧ H b = some (bagO b) ∧ 1 ≤ most ∧ most ≤ 100 ∧ 0 ≤ deep ∧ deep < d ∧ d ≤ 10 ∧ 1 ≤ wide ∧ wide ≤ 10 ^ 30 ∧ 1 ≤ high ∧ high + 1 ≤ 10 ^ 30 ∧
  ∀ p H' g, H p = none → Ex H H' → H' p = some (.lst (g.wl.map V.str)) → Drw deep most g → Q (.ref p) H'
def spLPair : Sp := fun vs H Q _ => ∃ (s : Sc), vs = [.str (scw s)] ∧ SOk (10 ^ 63) s ∧ ∀ t H', H t = none → Ex H H' → H' t = some (.tup [.int s.1, .int s.2]) → Q (.ref t) H'
def spLLen : Sp := fun vs H Q _ => ∃ (a : Addr) (g : Pg), vs = [.ref a] ∧ H a = some (.lst (g.wl.map V.str)) ∧ Med g ∧ RetV (.int g.cnt) H Q
theorem l2s (a b : Str) : (a ++ b).length = a.length + b.length := Str.length_append a b
theorem dash_len : dash.length = 1 := by rw [len_tl, tl_dash]; rfl
theorem cl_len : clW.length = 1 := by rw [len_tl, tl_cl]; rfl
theorem scw_eq {x : Int} : nw x = scw (x, x) := (if_pos rfl).symm
theorem scw_ne {x y : Int} (h : ¬ x = y) : nw x ++ dash ++ nw y = scw (x, y) := (if_neg h).symm
theorem size64 {n : Nat} (h : n ≤ 1000) : n ≤ sizeLine := by rw [sizeLine_eq]; omega
theorem toks_dep {B : Int} {g : Pg} (h : g.Ok B) {d m : Nat} (hd : g.dep ≤ d) (hm : g.scs.length ≤ m) : g.toks.length ≤ (2 * d + 1) * m :=
  Nat.le_trans (toks_len h) (Nat.mul_le_mul (by omega) hm)
theorem app_ok {B : Int} : ∀ {a b : Pg}, (a.app b).Ok B → a.Ok B ∧ b.Ok B
  | .nil, b, h => ⟨trivial, h⟩
  | .sc s r, b, h => ⟨⟨h.1, (app_ok (a := r) h.2).1⟩, (app_ok (a := r) h.2).2⟩
  | .rp n x r, b, h => ⟨⟨h.1, h.2.1, h.2.2.1, h.2.2.2.1, (app_ok (a := r) h.2.2.2.2).1⟩, (app_ok (a := r) h.2.2.2.2).2⟩
end Kb

namespace Kb
open PySem PySem.Spec PyProof.Rows L2 TL
/-! ### what is printed of a program -/
end Kb

namespace Kb
open PySem PySem.Spec PyProof.Rows L2 TL
/-! ### another word in a word's place -/
end Kb

namespace Kb
open PySem PySem.Spec PyProof.Rows L2 StX
def spCheckProf (C : Addr) : Sp := fun vs H Q _ => ∃ (z dz : Addr) (fs : List (Str × V)), vs = [.ref z] ∧ H z = some (.ins C dz fs) ∧ RetV .non H Q
def spCheckBet : Sp := fun vs H Q _ => ∃ i j k : Int, vs = [.int i, .int j, .int k] ∧ j ≤ i ∧ i ≤ k ∧ RetV .non H Q
end Kb

namespace Kb
open PySem PySem.Spec PyProof.Rows L2 TL
/-! ### own ~ -/
def rOwnInv (C : Addr) (sp : Sp) : V → Hp → VK → Prop := fun x H Q => ∃ a dx fs, x = .ref a ∧ H a = some (.ins C dx fs) ∧ sp [x] H (fun v H' => ∃ p : Addr, v = .ref p ∧ Q (.ref p) H') E0
section
variable {X : Cx}
open StX in
theorem un_ownInv {C : Addr} {k k' : Nat} {sp : Sp} (D : DMt X.prog X.w X.K X.mg X.base C "__invert__" k ["self"] sp) (hr : Room k' X.A) (hk : k ≤ k' := by decide) : UnR X (unaryOp .Invert) (rOwnInv C sp) := by
  intro pins s σ H x v Q I rx hq
  obtain ⟨f, fd, hcl, hm, hb, Fn⟩ := D.ex
  obtain ⟨a, dx, fs, rfl, ha, q⟩ := hq
  cases (show v = Value.ref a from rx)
  obtain ⟨mA, J, _⟩ := ins_get I.hok ha
  obtain ⟨od, J, _⟩ := J.look
  obtain ⟨m, hF⟩ := I.fr
  refine PySem.W.ksp_inv hF I.ok.mod.kin J hm.at_ hm.fn ?_
  refine wpAny_mono (own_run (C := C) Fn hb (hr.mono hk) rfl I (.cons (show RelV (V.ref a) (Value.ref a) from rfl) .nil) q) (fun w' s' z => ?_) fun _ _ e => e
  obtain ⟨v', H', I', rv, p, rfl, q'⟩ := z
  cases (show w' = Value.ref p from rv)
  exact ⟨.ref p, H', I', rfl, q'⟩
end
/-! ### programs backwards and repeated -/
namespace Pg
def back : Pg → Pg
  | nil => nil
  | sc s r => r.back.app (sc (swp s) nil)
  | rp n b r => r.back.app (rp n b.back nil)
theorem back_app : ∀ a b : Pg, (a.app b).back = b.back.app a.back
  | nil, b => (app_nil b.back).symm
  | sc s r, b => by
    show (r.app b).back.app (sc (swp s) nil) = b.back.app (r.back.app (sc (swp s) nil))
    rw [back_app r b, app_assoc]
  | rp n x r, b => by
    show (r.app b).back.app (rp n x.back nil) = b.back.app (r.back.app (rp n x.back nil))
    rw [back_app r b, app_assoc]
theorem back_back : ∀ g : Pg, g.back.back = g
  | nil => rfl
  | sc s r => by
    show (r.back.app (sc (swp s) nil)).back = _
    rw [back_app, back_back r]
    rfl
  | rp n x r => by
    show (r.back.app (rp n x.back nil)).back = _
    rw [back_app, back_back r]
    show rp n x.back.back r = _
    rw [back_back x]
theorem back_dep : ∀ g : Pg, g.back.dep = g.dep
  | nil => rfl
  | sc s r => by
    show (r.back.app (sc (swp s) nil)).dep = r.dep
    rw [dep_app, back_dep r]
    show max r.dep 0 = _
    omega
  | rp n x r => by
    show (r.back.app (rp n x.back nil)).dep = max (x.dep + 1) r.dep
    rw [dep_app, back_dep r]
    show max r.dep (max (x.back.dep + 1) 0) = _
    rw [back_dep x]
    omega
theorem back_toks : ∀ g : Pg, g.back.toks.length = g.toks.length
  | nil => rfl
  | sc s r => by
    show (r.back.app (sc (swp s) nil)).toks.length = r.toks.length + 1
    rw [toks_app, List.length_append, back_toks r]
    rfl
  | rp n x r => by
    show (r.back.app (rp n x.back nil)).toks.length = (x.toks ++ Tk.cl n :: r.toks).length + 1
    rw [toks_app, List.length_append, back_toks r, List.length_append, List.length_cons]
    show r.toks.length + ((x.back.toks ++ [Tk.cl n]).length + 1) = _
    rw [List.length_append, back_toks x, List.length_singleton]
    omega
theorem last : ∀ a : Pg, a ≠ nil → (∃ (b : Pg) (s : Sc), a = b.app (sc s nil)) ∨ ∃ (b : Pg) (n : Int) (x : Pg), a = b.app (rp n x nil)
  | nil, h => (h rfl).elim
  | sc s r, _ => by
    by_cases c : r = nil
    · subst c
      exact .inl ⟨nil, s, rfl⟩
    · rcases last r c with ⟨a, t, e⟩ | ⟨a, n, x, e⟩
      · exact .inl ⟨sc s a, t, congrArg (sc s) e⟩
      · exact .inr ⟨sc s a, n, x, congrArg (sc s) e⟩
  | rp m y r, _ => by
    by_cases c : r = nil
    · subst c
      exact .inr ⟨nil, m, y, rfl⟩
    · rcases last r c with ⟨a, t, e⟩ | ⟨a, n, x, e⟩
      · exact .inl ⟨rp m y a, t, congrArg (rp m y) e⟩
      · exact .inr ⟨rp m y a, n, x, congrArg (rp m y) e⟩
theorem len_toks : ∀ g : Pg, g.len ≤ g.toks.length
  | nil => Nat.le_refl _
  | sc s r => Nat.succ_le_succ (len_toks r)
  | rp n x r => by
    show r.len + 1 ≤ (x.toks ++ Tk.cl n :: r.toks).length + 1
    have := len_toks r
    rw [List.length_append, List.length_cons]
    omega
theorem mid_toks (a x r : Pg) (n : Int) : x.toks.length < (a.app (rp n x r)).toks.length := by
  rw [toks_app, List.length_append]
  show _ < _ + ((x.toks ++ Tk.cl n :: r.toks).length + 1)
  rw [List.length_append]
  omega
theorem mid_dep (a x r : Pg) (n : Int) : x.dep < (a.app (rp n x r)).dep := by
  rw [dep_app]
  show _ < max _ (max (x.dep + 1) r.dep)
  omega
def rep (g : Pg) (n : Int) : Pg := if n = 0 then nil else if n = 1 ∨ g = nil then g else rp n g nil
end Pg
/-! ### promises -/
def spBack (d : Nat) : Sp := fun vs H Q _ => ∃ (v : V) (g : Pg), vs = [v] ∧ IsPg H v g ∧ g.dep < d ∧ g.toks.length ≤ 2 ^ 18 ∧ ∀ p H', Ex H H' → IsPg H' (.ref p) g.back → Q (.ref p) H'
def spRepd : Sp := fun vs H Q _ => ∃ (v : V) (g : Pg) (n : Int), vs = [v, .int n] ∧ IsPg H v g ∧ ∀ v' H', Ex H H' → IsPg H' v' (g.rep n) → Q v' H'
def spProgOf (C : Addr) : Sp := fun vs H Q _ => ∃ (v : V) (g : Pg), vs = [v] ∧ IsPg H v g ∧ ∀ p H', H p = none → Ex H H' → PgAt C H' p g → Q (.ref p) H'
def spAddPg (C : Addr) : Sp := fun vs H Q _ => ∃ (x y : Addr) (g h : Pg), vs = [.ref x, .ref y] ∧ PgAt C H x g ∧ PgAt C H y h ∧ g.len + h.len ≤ 2 ^ 18 ∧ ∀ p H', H p = none → Ex H H' → PgAt C H' p (g.app h) → Q (.ref p) H'
def spMulPg (C : Addr) : Sp := fun vs H Q _ => ∃ (x : Addr) (g : Pg) (n : Int), vs = [.ref x, .int n] ∧ PgAt C H x g ∧ 0 ≤ n ∧ n ≤ 10 ^ 30 ∧ ∀ p H', H p = none → Ex H H' → PgAt C H' p (g.rep n) → Q (.ref p) H'
def spInvPg (C : Addr) : Sp := fun vs H Q _ => ∃ (x : Addr) (g : Pg), vs = [.ref x] ∧ PgAt C H x g ∧ g.dep < 12 ∧ g.toks.length ≤ 2 ^ 18 ∧ ∀ p H', H p = none → Ex H H' → PgAt C H' p g.back → Q (.ref p) H'
/-- what the law compares: not much wider than what a text may say -/
structure Wid (g : Pg) : Prop where
  ok : g.Ok (10 ^ 30)
  dep : g.dep ≤ 6
  few : g.scs.length ≤ 52
/-- few scans, few brackets -/
structure Few (g : Pg) : Prop where
  ok : g.Ok (10 ^ 30)
  dep : g.dep ≤ 2
  few : g.scs.length ≤ 12
/-! ### how deep words are -/
end Kb

namespace Kb
open PySem PySem.Spec PyProof.Rows L2 TL
theorem wl_len (g : Pg) : g.wl.length = g.toks.length := List.length_map _
theorem pow_bits {B : Int} (hB : BB B) {k : Nat} : (B + 1) ^ k ≤ 2 ^ (400 * k) := by
  obtain ⟨h0, h1⟩ := hB
  induction k with
  | zero => simp
  | succ k ih =>
    rw [Int.pow_succ, Nat.mul_succ, Int.pow_add]
    exact Int.mul_le_mul ih h1 (by omega) (by have := Int.pow_pos (n := 2) (m := 400 * k) (by decide); omega)
theorem cnt_bits {B : Int} {g : Pg} {d : Nat} (hB : BB B) (h : g.Ok B) (hd : g.dep < d) (few : g.scs.length ≤ 2 ^ 18) : 0 ≤ g.cnt ∧ g.cnt < 2 ^ (400 * d + 20) := by
  have a := Pg.cnt_nn h
  have b := Pg.cnt_le (k := d - 1) hB.1 h (by omega)
  rw [show d - 1 + 1 = d by omega] at b
  have c := pow_bits hB (k := d)
  have p := Int.pow_pos (n := 2) (m := 400 * d) (by decide)
  have m := Int.mul_le_mul (show (g.scs.length : Int) ≤ 2 ^ 18 by omega) c (by have := Int.pow_pos (n := B + 1) (m := d) (by have := hB.1; omega); omega) (by decide)
  refine ⟨a, ?_⟩
  rw [Int.pow_add]
  omega
theorem abs_lt {n : Int} {k : Nat} (h0 : 0 ≤ n) (h : n < 2 ^ k) : n.natAbs < 2 ^ k := by
  have e : ((2 : Int) ^ k) = ((2 ^ k : Nat) : Int) := by simp
  omega
theorem size64' {n : Nat} (h : n ≤ 2 ^ 20) : n ≤ sizeLine := Nat.le_of_lt (small20 h)
theorem sign40 : (Str.ofString "()").cps.toList = [40, 41] := by decide +kernel
theorem cntV_rev (b : Pg) (st : List Pg) : ((b :: st).map fun g => V.int g.cnt).reverse = (st.map fun g => V.int g.cnt).reverse ++ [V.int b.cnt] := by
  rw [List.map_cons, List.reverse_cons]
theorem bb63 : BB (10 ^ 63) := ⟨by decide +kernel, by decide +kernel⟩
theorem back_len : ∀ g : Pg, g.back.len = g.len
  | .nil => rfl
  | .sc s r => by
    show (r.back.app (.sc (swp s) .nil)).len = r.len + 1
    rw [Pg.len_app, back_len r]
    rfl
  | .rp n x r => by
    show (r.back.app (.rp n x.back .nil)).len = r.len + 1
    rw [Pg.len_app, back_len r]
    rfl
theorem lim_nil : Lim .nil := ⟨trivial, Nat.zero_le _, Nat.zero_le _⟩
theorem txt_none : Str.ofString "" = txt .nil := by decide +kernel
def BkAt (H : Hp) (p : Addr) (v : V) (g : Pg) : Prop := ∃ r, v = .ref r ∧ r ≠ p ∧ H r = some (.lst (g.back.wl.map V.str))
/-! ### programs as the laws draw them: tuples of words in lists -/
def scanW : Str := "scan"
def againW : Str := "again"
/-- the items of a list of nodes; its inner lists are of the kind N -/
def ItsQ (N : Addr → Prop) (H : Hp) : Pg → List V → Prop
  | .nil, vs => vs = []
  | .sc s r, vs => ∃ t us, vs = .ref t :: us ∧ H t = some (.tup [.str scanW, .int s.1, .int s.2]) ∧ ItsQ N H r us
  | .rp n b r, vs => ∃ t l bs us, vs = .ref t :: us ∧ H t = some (.tup [.str againW, .ref l, .int n]) ∧ N l ∧ H l = some (.lst bs) ∧ ItsQ N H b bs ∧ ItsQ N H r us
def IsQ (N : Addr → Prop) (H : Hp) (a : Addr) (g : Pg) : Prop := ∃ vs, H a = some (.lst vs) ∧ ItsQ N H g vs
end Kb

namespace Kb
open PySem PySem.Spec PyProof.Rows L2 TL
/-! ### what a program reads -/
def adr (s : Sc) (p : Int) : Int := if s.1 ≤ s.2 then s.1 + p else s.1 - p
def rdS (s : Sc) : List Int := (List.range (slen s).toNat).map fun (j : Nat) => adr s (j : Int)
def Pg.rd : Pg → List Int
  | .nil => []
  | .sc s r => rdS s ++ r.rd
  | .rp n b r => (List.replicate n.toNat b.rd).flatten ++ r.rd
theorem rdS_len (s : Sc) : ((rdS s).length : Int) = slen s := by
  unfold rdS
  rw [List.length_map, List.length_range]
  have := slen_pos s
  omega
theorem rd_app : ∀ a b : Pg, (a.app b).rd = a.rd ++ b.rd
  | .nil, _ => rfl
  | .sc s r, b => by
    show rdS s ++ (r.app b).rd = rdS s ++ r.rd ++ b.rd
    rw [rd_app r b, List.append_assoc]
  | .rp n x r, b => by
    show _ ++ (r.app b).rd = _ ++ r.rd ++ b.rd
    rw [rd_app r b, List.append_assoc]
theorem flat_len (n : Nat) (l : List Int) : ((List.replicate n l).flatten).length = n * l.length := by
  rw [List.length_flatten, List.map_replicate, List.sum_replicate_nat]
theorem prd_len : ∀ {B : Int} {g : Pg}, g.Ok B → (g.rd.length : Int) = g.cnt
  | _, .nil, _ => rfl
  | B, .sc s r, h => by
    show ((rdS s ++ r.rd).length : Int) = slen s + r.cnt
    rw [List.length_append, Int.natCast_add, rdS_len, prd_len h.2]
  | B, .rp n x r, h => by
    show (((List.replicate n.toNat x.rd).flatten ++ r.rd).length : Int) = n * x.cnt + r.cnt
    rw [List.length_append, Int.natCast_add, flat_len, Int.natCast_mul, prd_len h.2.2.2.1, prd_len h.2.2.2.2]
    have : (n.toNat : Int) = n := by have := h.1; omega
    rw [this]
theorem adr_bound {B : Int} {s : Sc} (h : SOk B s) {p : Int} (h0 : 0 ≤ p) (h1 : p < slen s) : 0 ≤ adr s p ∧ adr s p ≤ B := by
  obtain ⟨a, b, c, d⟩ := h
  unfold slen at h1
  unfold adr
  split <;> split at h1 <;> omega
theorem rd_bound : ∀ {B : Int} {g : Pg}, g.Ok B → ∀ z ∈ g.rd, 0 ≤ z ∧ z ≤ B
  | _, .nil, _, z, h => by cases h
  | B, .sc s r, h, z, m => by
    rcases List.mem_append.mp m with m | m
    · obtain ⟨j, hj, rfl⟩ := List.mem_map.mp m
      have := List.mem_range.mp hj
      exact adr_bound h.1 (by omega) (by omega)
    · exact rd_bound h.2 z m
  | B, .rp n x r, h, z, m => by
    rcases List.mem_append.mp m with m | m
    · obtain ⟨l, hl, m⟩ := List.mem_flatten.mp m
      rw [(List.mem_replicate.mp hl).2] at m
      exact rd_bound h.2.2.2.1 z m
    · exact rd_bound h.2.2.2.2 z m
/-! ### promises -/
def spReadAll (d : Nat) : Sp := fun vs H Q _ => ∃ (v : V) (g : Pg) (B : Int), vs = [v] ∧ IsPg H v g ∧ g.dep < d ∧ g.Ok B ∧ g.cnt ≤ 2 ^ 20 ∧ ∀ p H', H p = none → Ex H H' → H' p = some (.lst (g.rd.map V.int)) → Q (.ref p) H'
end Kb

namespace PySem
open Sem (wp)
open Builtin Builtin.Str
section
variable {prog : Program} {w : World} {A : Around} {E : Value → Shared → Prop} {s : Shared}
end
end PySem
namespace Kb
open PySem PySem.Spec PyProof.Rows L2 StX
/-! ### enumerate(tuple) -/
section
variable {K : PySem.W.Frag} {a : Addr} {xs : List V} {g : TG}
end
end Kb

namespace Kb
open PySem PySem.Spec PyProof.Rows L2 StX TL
/-! ### a program cut in two -/
end Kb

namespace Kb
open PySem PySem.Spec PyProof.Rows L2 TL
/-! ### where an address is read -/
def cnS (z : Int) (s : Sc) : Int := if lo s ≤ z ∧ z ≤ hi s then 1 else 0
def Pg.cn (z : Int) : Pg → Int
  | .nil => 0
  | .sc s r => cnS z s + r.cn z
  | .rp n b r => n * b.cn z + r.cn z
/-! ### promises -/
end Kb

namespace Kb
open PySem PySem.Spec PyProof.Rows L2 TL
def IlAt (H : Hp) (D : Addr) (v : V) (ns : List Int) : Prop := ∃ p, v = .ref p ∧ p ≠ D ∧ H p = some (.lst (ns.map V.int))
/-! ### a dict of lists, by the numbers from 0 on -/
section
variable {d : Addr} {o : Obj} {kvs : List (Key × V)} {g : TG}
end
theorem Pz.len {α β : Type} {R : α → β → Prop} {xs : List α} {ys : List β} (h : Paired R xs ys) : xs.length = ys.length := by
  induction h with
  | nil => rfl
  | cons _ _ ih => rw [List.length_cons, List.length_cons, ih]
theorem Pz.imp {α β : Type} {R S : α → β → Prop} (f : ∀ a b, R a b → S a b) {xs : List α} {ys : List β} (h : Paired R xs ys) : Paired S xs ys := by
  induction h with
  | nil => exact .nil
  | cons h _ ih => exact .cons (f _ _ h) ih
theorem Pz.snoc {α β : Type} {R : α → β → Prop} {x : α} {y : β} {xs : List α} {ys : List β} (h : Paired R xs ys) (r : R x y) : Paired R (xs ++ [x]) (ys ++ [y]) := by
  induction h with
  | nil => exact .cons r .nil
  | cons h _ ih => exact .cons h ih
end Kb

namespace Kb
open PySem PySem.Spec PyProof.Rows L2 StX TL
/-! ### the different numbers of a list -/
def lstR : List Int → List Int
  | [] => []
  | x :: xs => x :: (lstR xs).filter fun z => !decide (z = x)
/-- in the order of the last ones, the latest first -/
def lstF (xs : List Int) : List Int := lstR xs.reverse
theorem mem_lstR {z : Int} : ∀ {xs : List Int}, z ∈ lstR xs ↔ z ∈ xs
  | [] => Iff.rfl
  | x :: xs => by
    show z ∈ x :: (lstR xs).filter _ ↔ _
    rw [List.mem_cons, List.mem_cons, List.mem_filter, mem_lstR]
    by_cases c : z = x
    · simp [c]
    · simp [c]
theorem lstR_nodup : ∀ xs : List Int, (lstR xs).Nodup
  | [] => .nil
  | x :: xs => by
    refine List.nodup_cons.mpr ⟨fun h => ?_, (lstR_nodup xs).filter _⟩
    have := (List.mem_filter.mp h).2
    simp at this
theorem lstR_app : ∀ a b : List Int, lstR (a ++ b) = lstR a ++ (lstR b).filter fun z => !decide (z ∈ a)
  | [], b => by
    show lstR b = [] ++ _
    rw [List.nil_append]
    exact (List.filter_eq_self.mpr fun z _ => by simp).symm
  | x :: a, b => by
    show x :: (lstR (a ++ b)).filter _ = x :: (lstR a).filter _ ++ (lstR b).filter _
    rw [lstR_app a b, List.filter_append, List.filter_filter]
    show x :: (_ ++ _) = x :: (_ ++ _)
    congr 2
    refine List.filter_congr fun z _ => ?_
    by_cases c : z = x <;> by_cases d : z ∈ a <;> simp [c, d]
theorem lstR_id : ∀ {xs : List Int}, xs.Nodup → lstR xs = xs
  | [], _ => rfl
  | x :: xs, h => by
    obtain ⟨h1, h2⟩ := List.nodup_cons.mp h
    show x :: (lstR xs).filter _ = x :: xs
    rw [lstR_id h2]
    congr 1
    refine List.filter_eq_self.mpr fun z hz => ?_
    have : z ≠ x := fun e => h1 (e ▸ hz)
    simp [this]
theorem mem_lstF {z : Int} {xs : List Int} : z ∈ lstF xs ↔ z ∈ xs := by
  unfold lstF
  rw [mem_lstR, List.mem_reverse]
theorem lstF_nodup (xs : List Int) : (lstF xs).Nodup := lstR_nodup _
theorem lstF_app (a b : List Int) : lstF (a ++ b) = lstF b ++ (lstF a).filter fun z => !decide (z ∈ b) := by
  unfold lstF
  rw [List.reverse_append, lstR_app]
  congr 1
  refine List.filter_congr fun z _ => ?_
  simp
theorem lstF_rep (b : List Int) : ∀ n : Nat, lstF (List.replicate (n + 1) b).flatten = lstF b
  | 0 => by
    show lstF (b ++ []) = _
    rw [List.append_nil]
  | n + 1 => by
    rw [List.replicate_succ', List.flatten_append]
    show lstF (_ ++ (b ++ [])) = _
    rw [List.append_nil, lstF_app]
    have : (lstF (List.replicate (n + 1) b).flatten).filter (fun z => !decide (z ∈ b)) = [] := by
      refine List.filter_eq_nil_iff.mpr fun z hz => ?_
      rw [lstF_rep b n] at hz
      have := mem_lstF.mp hz
      simp [this]
    rw [this, List.append_nil]
/-! ### the scans of numbers that are all different -/
theorem rd_rdS (s : Sc) : rd s = rdS s := by
  unfold rd rdS
  congr 1
  funext m
  unfold adr stp
  split <;> omega
theorem rd_nodup (s : Sc) : (rd s).Nodup := by
  refine List.nodup_iff_pairwise_ne.mpr ?_
  rw [List.pairwise_iff_getElem]
  intro i j hi hj hij e
  have a := List.getElem?_eq_getElem hi
  have b := List.getElem?_eq_getElem hj
  rw [rd_len] at hi hj
  rw [rd_get hi] at a
  rw [rd_get hj, ← e, ← a] at b
  have b := Option.some.inj b
  split at b <;> omega
theorem sc_cases (t : Sc) : (t.1 ≤ t.2 ∧ slen t = t.2 - t.1 + 1 ∧ lo t = t.1 ∧ hi t = t.2) ∨ (t.2 < t.1 ∧ slen t = t.1 - t.2 + 1 ∧ lo t = t.2 ∧ hi t = t.1) := by
  unfold slen lo hi
  by_cases c : t.1 ≤ t.2
  · refine .inl ⟨c, ?_, ?_, ?_⟩
    · rw [if_neg (by omega)]
    · rw [if_neg (by omega)]
    · split <;> omega
  · refine .inr ⟨by omega, ?_, ?_, ?_⟩
    · rw [if_pos (by omega)]
      omega
    · rw [if_pos (by omega)]
    · rw [if_neg (by omega)]
theorem absI_one {x : Int} (h : absI x = 1) : x = 1 ∨ x = -1 := by
  unfold absI at h
  split at h <;> omega
theorem rd_join {t s : Sc} (a : Apart t s) (h : absI (s.1 - t.2) = 1) : rd (t.1, s.2) = rd t ++ rd s := by
  have lt := rd_len t
  have ls := rd_len s
  have pt := slen_pos t
  have ps := slen_pos s
  have eh := absI_one h
  have et := sc_cases t
  have es := sc_cases s
  have ej := sc_cases (t.1, s.2)
  dsimp only at ej
  unfold Apart at a
  have len : slen (t.1, s.2) = slen t + slen s := by omega
  refine List.ext_getElem? fun j => ?_
  by_cases c : j < (slen t).toNat
  · rw [List.getElem?_append_left (by omega), rd_get c, rd_get (by omega)]
    dsimp only
    congr 1
    split <;> split <;> omega
  · rw [List.getElem?_append_right (by omega)]
    by_cases d : j < (slen t).toNat + (slen s).toNat
    · rw [rd_get (by omega), rd_get (by omega)]
      dsimp only
      rw [lt, show ((j - (slen t).toNat : Nat) : Int) = (j : Int) - slen t by omega]
      congr 1
      split <;> split <;> omega
    · rw [List.getElem?_eq_none (by have := rd_len (t.1, s.2); omega), List.getElem?_eq_none (by omega)]
theorem rdL_jstep {acc : List Sc} {s : Sc} (h : ∀ t ∈ acc, Apart t s) : rdL (jstep acc s) = rdL acc ++ rd s := by
  rcases eq_nil_or_snoc acc with rfl | ⟨pre, t, rfl⟩
  · rw [jstep_nil]
    show rd s ++ [] = [] ++ rd s
    rw [List.append_nil, List.nil_append]
  · rw [jstep_snoc]
    split
    · rename_i c
      rw [rdL_app, rdL_app]
      show rdL pre ++ (rd (t.1, s.2) ++ []) = rdL pre ++ (rd t ++ []) ++ rd s
      rw [rd_join (h t (List.mem_append_right _ List.mem_cons_self)) c, List.append_nil, List.append_nil, List.append_assoc]
    · rw [rdL_app]
      show _ ++ (rd s ++ []) = _
      rw [List.append_nil]
theorem rdL_fold : ∀ (ss acc : List Sc), (acc ++ ss).Pairwise Apart → rdL (ss.foldl jstep acc) = rdL acc ++ rdL ss
  | [], acc, _ => (List.append_nil _).symm
  | s :: ss, acc, h => by
    have h1 := apart_step h
    show rdL (ss.foldl jstep (jstep acc s)) = rdL acc ++ (rd s ++ rdL ss)
    rw [rdL_fold ss _ h1, rdL_jstep, List.append_assoc]
    intro t ht
    exact (List.pairwise_append.mp h).2.2 t ht s List.mem_cons_self
theorem rdL_jn {ss : List Sc} (h : ss.Pairwise Apart) : rdL (jn ss) = rdL ss := rdL_fold ss [] h
theorem rdL_dup : ∀ xs : List Int, rdL (dup xs) = xs
  | [] => rfl
  | x :: xs => by
    show rd (x, x) ++ rdL (dup xs) = x :: xs
    rw [rdL_dup xs, rd_rdS]
    unfold rdS
    rw [show slen (x, x) = 1 from by unfold slen; dsimp only; split <;> omega]
    show adr (x, x) 0 :: xs = x :: xs
    unfold adr
    rw [if_pos (Int.le_refl _), Int.add_zero]
theorem apart_dup {xs : List Int} (h : xs.Nodup) : (dup xs).Pairwise Apart := by
  unfold dup
  refine List.pairwise_map.mpr (List.Pairwise.imp (fun {a b} (n : a ≠ b) => ?_) (List.nodup_iff_pairwise_ne.mp h))
  unfold Apart lo hi
  dsimp only
  split <;> split <;> omega
/-- the tidy list of different numbers -/
def tdy (xs : List Int) : List Sc := jn (dup xs)
theorem rdL_tdy {xs : List Int} (h : xs.Nodup) : rdL (tdy xs) = xs := by
  unfold tdy
  rw [rdL_jn (apart_dup h), rdL_dup]
theorem tdy_apart {xs : List Int} (h : xs.Nodup) : (tdy xs).Pairwise Apart := apart_jn (apart_dup h)
theorem tdy_rd (s : Sc) : tdy (rd s) = [s] := by
  have h := jn_rdL [s]
  rw [show rdL [s] = rd s from List.append_nil _] at h
  exact h
theorem ahead_tdy {a b : List Int} (ha : a.Nodup) (hb : b.Nodup) : ahead (tdy a) (tdy b) = tdy (a ++ b.filter fun z => !decide (z ∈ a)) := by
  unfold ahead
  rw [rdL_tdy ha, rdL_tdy hb]
  unfold tdy
  congr 3
  refine List.filter_congr fun z _ => ?_
  unfold outL
  rw [show rdL (jn (dup a)) = a from rdL_tdy ha]
/-- the place of a number -/
def ixo : List Int → Int → Option Nat
  | [], _ => none
  | y :: ys, x => if y = x then some 0 else (ixo ys x).map (· + 1)
theorem ixo_none {x : Int} : ∀ {l : List Int}, x ∉ l → ixo l x = none
  | [], _ => rfl
  | y :: ys, h => by
    show (if y = x then some 0 else (ixo ys x).map (· + 1)) = none
    rw [if_neg fun (e : y = x) => h (e ▸ List.mem_cons_self), ixo_none fun e => h (List.mem_cons_of_mem _ e)]
    rfl
theorem ixo_some {x : Int} : ∀ {l : List Int}, x ∈ l → ∃ j, ixo l x = some j ∧ l[j]? = some x ∧ ∀ m, m < j → l[m]? ≠ some x
  | [], h => by cases h
  | y :: ys, h => by
    by_cases c : y = x
    · exact ⟨0, if_pos c, by rw [← c]; rfl, fun m hm => absurd hm (Nat.not_lt_zero _)⟩
    · have h' : x ∈ ys := by
        rcases List.mem_cons.mp h with e | e
        · exact absurd e.symm c
        · exact e
      obtain ⟨j, h1, h2, h3⟩ := ixo_some h'
      refine ⟨j + 1, ?_, h2, fun m hm => ?_⟩
      · show (if y = x then some 0 else (ixo ys x).map (· + 1)) = _
        rw [if_neg c, h1]
        rfl
      · cases m with
        | zero => exact fun e => c (Option.some.inj e)
        | succ m => exact h3 m (by omega)
/-! ### promises -/
theorem rdL_snoc {ss : List Sc} {i : Nat} {s : Sc} (e : ss[i]? = some s) : rdL (ss.take (i + 1)) = rdL (ss.take i) ++ rd s := by
  rw [List.take_add_one, e, rdL_app]
  show _ ++ (rd s ++ []) = _
  rw [List.append_nil]
theorem cntS_snoc {ss zs : List Sc} {i : Nat} {s : Sc} (e : ss[i]? = some s) : cntS (ss.take (i + 1)) zs = cntS (ss.take i) zs + (zs.filter (ins (lo s) (hi s))).length := by
  unfold cntS
  rw [List.take_add_one, e, List.map_append, List.sum_append]
  rfl
end Kb

namespace Kb
open PySem PySem.Spec PyProof.Rows L2 StX TL
/-! ### lists of numbers and None -/
def farO (p : List Int) (x : Int) : Option Int := (ixo (lstF p) x).map fun (j : Nat) => (j : Int) + 1
end Kb

namespace SrtO
open PySem PySem.Spec PyProof.Rows L2
/-! ### tuples of three ints and a bool, by their first -/
abbrev Q4 := Int × Int × Int × Bool
def IsQuad (h : Heap) (v : Value) (k : Q4) : Prop := ∃ a o t u r n, v = .ref a ∧ h.get? a = some o ∧ o.cls = .type "tuple" ∧ o.data = .seq #[.int k.1 t, .int k.2.1 u, .int k.2.2.1 r, .bool k.2.2.2] n
theorem IsQuad.keeps {h h' : Heap} {v : Value} {k : Q4} (p : IsQuad h v k) (kk : ∀ b o, h.get? b = some o → o.cls = .type "tuple" → h'.get? b = some o) : IsQuad h' v k := by
  obtain ⟨a, o, t, u, r, n, e, ho, hc, hd⟩ := p
  exact ⟨a, o, t, u, r, n, e, kk _ _ ho hc, hc, hd⟩
theorem firsts_q {h : Heap} : ∀ {vs : List Value}, (∀ v ∈ vs, ∃ k, IsQuad h v k) → ∃ fs : List Value, PySem.W.KatTups h vs fs ∧ fs.length = vs.length ∧ ∀ f ∈ fs, ∃ x t, f = Value.int x t
  | [], _ => ⟨[], PySem.W.KatTups.nil, rfl, fun _ hm => by simp at hm⟩
  | v :: vs, hp => by
    obtain ⟨fs, h1, h2, h3⟩ := firsts_q (vs := vs) fun v' hm => hp v' (List.mem_cons_of_mem _ hm)
    obtain ⟨k, a, o, t, u, r, n, e, ho, hc, hd⟩ := hp v (List.mem_cons_self ..)
    subst e
    refine ⟨.int k.1 t :: fs, PySem.W.KatTups.cons ho hc hd rfl h1, by rw [List.length_cons, List.length_cons, h2], fun f hm => ?_⟩
    rcases List.mem_cons.mp hm with rfl | hm
    · exact ⟨_, t, rfl⟩
    · exact h3 f hm
section
variable {prog : Program} {w : World} {A : Around} {E : Value → Shared → Prop} {s : Shared}
theorem swo_fst (k : Value → Q4) : Swo fun v u => decide ((k v).1 < (k u).1) := by
  refine ⟨fun x y h => ?_, fun x y z h1 h2 => ?_⟩
  · have a := of_decide_eq_true h
    exact decide_eq_false (by omega)
  · have a := of_decide_eq_false h1
    have b := of_decide_eq_false h2
    exact decide_eq_false (by omega)
theorem quad_cmp {vs : List Value} {k : Value → Q4} (hp : ∀ v ∈ vs, IsQuad s.heap v (k v)) (inj : ∀ v ∈ vs, ∀ u ∈ vs, (k v).1 = (k u).1 → k v = k u) : Cmp prog w A s (tuples' true) (fun p => p.1 ∈ vs) (lt2 fun v u => decide ((k v).1 < (k u).1)) := by
  intro p q hm hm'
  have h1 := hp _ hm
  have h2 := hp _ hm'
  have ij := inj _ hm _ hm'
  show wpAny (model prog w) A (keyLt' (tuples' true) p.1 q.1) (fun r s' => s' = s ∧ r = decide ((k p.1).1 < (k q.1).1)) (fun _ _ => False) s
  generalize k p.1 = K1 at h1 ij ⊢
  generalize k q.1 = K2 at h2 ij ⊢
  obtain ⟨a, o, t, u, r, n, e, ho, hc, hd⟩ := h1
  obtain ⟨a', o', t', u', r', n', e', ho', hc', hd'⟩ := h2
  rw [e, e']
  refine PySem.W.kat_lt ho hd ho' hd' ?_
  show PySem.W.KatLex prog w A true (decide (4 < 4)) _ [(.int K1.1 t, .int K2.1 t'), (.int K1.2.1 u, .int K2.2.1 u'), (.int K1.2.2.1 r, .int K2.2.2.1 r'), (.bool K1.2.2.2, .bool K2.2.2.2)] 0 s
  refine PySem.W.kat_cons (SeqAt.EqAt.int_int K1.1 t K2.1 t' prog w _ _ ?_)
  refine PySem.W.kat_go (fun e1 => ?_) (fun e1 => ?_)
  · have ex : K1.1 = K2.1 := by simpa using e1
    have ek := ij ex
    subst ek
    refine PySem.W.kat_yes (PySem.W.kat_cons (SeqAt.EqAt.int_int K1.2.1 u K1.2.1 u' prog w _ _ ?_))
    rw [beq_self_eq_true]
    refine PySem.W.kat_yes (PySem.W.kat_cons (SeqAt.EqAt.int_int K1.2.2.1 r K1.2.2.1 r' prog w _ _ ?_))
    rw [beq_self_eq_true]
    refine PySem.W.kat_yes (PySem.W.kat_cons (SeqAt.EqAt.bool_bool K1.2.2.2 K1.2.2.2 prog w _ _ ?_))
    rw [beq_self_eq_true]
    exact PySem.W.kat_yes (PySem.W.kat_nil ⟨rfl, (decide_eq_false (Int.lt_irrefl _)).symm⟩)
  · exact PySem.W.kat_no (oneLt_int ⟨rfl, rfl⟩)
theorem quads_sortable {a : Addr} {vs : List Value} {k : Value → Q4} (h0 : 0 < vs.length) (hp : ∀ v ∈ vs, IsQuad s.heap v (k v)) (inj : ∀ v ∈ vs, ∀ u ∈ vs, (k v).1 = (k u).1 → k v = k u) (ha : ∀ o, s.heap.get? a = some o → o.cls ≠ .type "tuple") : SortableO prog w A s a vs fun v u => decide ((k v).1 < (k u).1) := by
  intro h' keep
  have hp' : ∀ v ∈ vs, IsQuad h' v (k v) := fun v hm => (hp v hm).keeps fun b o e c => keep b o (fun z => by subst z; exact ha o e c) e
  obtain ⟨fs, h1, h2, h3⟩ := firsts_q fun v hm => ⟨_, hp' v hm⟩
  refine ⟨tuples' true, fun Q E hq => ?_, quad_cmp (s := { s with heap := h' }) hp' inj⟩
  refine PySem.W.kat_kind (T := .type "int") h1 (by omega) (fun f hm => ?_) (by rfl) ?_
  · obtain ⟨x, t, rfl⟩ := h3 f hm
    exact PySem.W.Looks.now
  · have e : (Value.type "int" != Value.type "tuple") = true := by first | decide +kernel | rfl | decide
    rw [e]
    exact hq
theorem sorted_quads {l : Addr} {vs : List Value} {k : Value → Q4} {Q : Value → Shared → Prop} (hl : s.heap.IsList l vs.toArray) (hz : vs.length ≤ sizeLine) (hp : ∀ v ∈ vs, IsQuad s.heap v (k v)) (inj : ∀ v ∈ vs, ∀ u ∈ vs, (k v).1 = (k u).1 → k v = k u)
    (h : ∀ (h' : Heap) (d : Addr) (out : List Value), Srtd (fun v u => decide ((k v).1 < (k u).1)) out → out.Perm vs → (∀ b o, s.heap.get? b = some o → h'.get? b = some o) → s.heap.objs.size ≤ d → (∃ n, h'.get? d = some (seqObj "list" out.toArray n)) → Q (.ref d) { s with heap := h' }) :
    wpAny (model prog w) A (call (.builtin "sorted") [.ref l]) Q E s := by
  refine sorted_ord (swo_fst k) hl hz (fun h2 h₁ a ha kk => ?_) fun out hs hb => ?_
  · refine quads_sortable (s := { s with heap := h₁ }) (by omega) (fun v hm => (hp v hm).keeps fun b o e _ => (kk b o e).2) inj fun o e => ?_
    have e' : some o = some (seqObj "list" vs.toArray 0) := e.symm.trans ha
    cases e'
    intro c
    exact absurd (Value.type.inj c) (by decide)
  · exact h _ _ out hs hb.perm (fun b o e => sortedAll_old e) (Nat.le_succ _) (sortedAll_at s.heap vs out.toArray)
end
end SrtO
namespace Kb
open PySem PySem.Spec PyProof.Rows L2
/-- sorted(xs), xs a list of tuples of three ints and a bool, of which no two with one first are unlike -/
def rSortedQ (K : PySem.W.Frag) : List V → Hp → VK → Prop := fun vs H Q => ∃ (a : Addr) (xs : List V) (k : V → SrtO.Q4), vs = [V.ref a] ∧ SqL K H a xs ∧ (∀ x ∈ xs, ∃ t, x = V.ref t ∧ H t = some (.tup [.int (k x).1, .int (k x).2.1, .int (k x).2.2.1, .bl (k x).2.2.2])) ∧ (∀ x ∈ xs, ∀ y ∈ xs, (k x).1 = (k y).1 → k x = k y) ∧
  ∀ ys p, ys.Perm xs → ys.Pairwise (fun x y => (k x).1 ≤ (k y).1) → H p = none → Q (.ref p) (upd H p (.lst ys))
theorem vals4 {x y z b : V} {us : List Value} (r : Vals [x, y, z, b] us) : ∃ u1 u2 u3 u4, us = [u1, u2, u3, u4] ∧ RelV x u1 ∧ RelV y u2 ∧ RelV z u3 ∧ RelV b u4 := by
  cases r with
  | cons r1 r2 =>
    cases r2 with
    | cons r2 r3 =>
      cases r3 with
      | cons r3 r4 =>
        cases r4 with
        | cons r4 r5 =>
          cases r5
          exact ⟨_, _, _, _, rfl, r1, r2, r3, r4⟩
section
variable {X : Cx}
theorem cr_sortedQ : CallR X (.builtin "sorted") (rSortedQ X.K) := by
  intro pins s σ H vs us Q I r h
  obtain ⟨a, xs, k, rfl, hs, hx, inj, q⟩ := h
  obtain ⟨its, rv, hl, hz⟩ := I.list hs
  obtain ⟨u, rfl, ru⟩ := vals1 r
  obtain rfl : u = Value.ref a := ru
  obtain ⟨e1, e2⟩ := refs_back rv fun x m => by
    obtain ⟨t, e, _⟩ := hx x m
    exact ⟨t, e⟩
  have bk : ∀ v ∈ its, backV v ∈ xs := fun v hv => by
    rw [e1]
    exact List.mem_map.mpr ⟨_, hv, rfl⟩
  refine SrtO.sorted_quads (k := fun u => k (backV u)) hl.isList (by rw [← rv.length]; exact hz) (fun v hv => ?_) (fun v hv u hu e => inj _ (bk v hv) _ (bk u hu) e) fun h' d out h1 h2 kp hd hn => ?_
  · obtain ⟨t, rfl⟩ := e2 v hv
    have hm : V.ref t ∈ xs := bk _ hv
    obtain ⟨t', e, ht⟩ := hx _ hm
    cases e
    obtain ⟨_, its2, r2, o, ho, hc, n, hd⟩ := I.hok _ _ ht
    obtain ⟨u1, u2, u3, u4, rfl, ri, rj, rl, rb⟩ := vals4 r2
    obtain ⟨t1, rfl⟩ := ri
    obtain ⟨t2, rfl⟩ := rj
    obtain ⟨t3, rfl⟩ := rl
    obtain rfl : u4 = Value.bool _ := rb
    exact ⟨t, o, t1, t2, t3, n, rfl, ho, hc, hd⟩
  · have h3 : ∀ u ∈ out, ∃ a, u = Value.ref a := fun u hu => e2 u (h2.mem_iff.mp hu)
    obtain ⟨n, hn⟩ := hn
    have hb : (out.map backV).Perm xs := by
      rw [e1]
      exact h2.map backV
    refine ⟨.ref d, upd H d (.lst (out.map backV)), I.laid (t' := s.toks) kp hd ⟨?_, out, n, vals_back h3, hn⟩, rfl, q _ d hb ?_ (I.hok.fresh hd)⟩
    · rw [hb.length_eq]
      exact hz
    · refine List.pairwise_map.mpr (h1.imp fun {v u} hvu => ?_)
      have := of_decide_eq_false hvu
      omega
end
end Kb

namespace Kb
open PySem PySem.Spec PyProof.Rows L2 TL
/-! ### scans with their places; what two lists of scans have in common -/
abbrev Rw := Int × Int × Int × Bool
def pls : List Sc → Int → List Rw
  | [], _ => []
  | s :: r, acc => (lo s, hi s, acc, decide (s.1 ≤ s.2)) :: pls r (acc + slen s)
def plOf (x : Rw) (z : Int) : Int := x.2.2.1 + (if x.2.2.2 = true then z - x.1 else x.2.1 - z)
theorem pls_mem {x : Rw} : ∀ {ss : List Sc} {acc : Int}, x ∈ pls ss acc → ∃ s ∈ ss, x.1 = lo s ∧ x.2.1 = hi s
  | [], _, h => by cases h
  | s :: r, acc, h => by
    rcases List.mem_cons.mp h with rfl | h
    · exact ⟨s, List.mem_cons_self, rfl, rfl⟩
    · obtain ⟨t, ht, e⟩ := pls_mem h
      exact ⟨t, List.mem_cons_of_mem _ ht, e⟩
theorem pls_le {x : Rw} {ss : List Sc} {acc : Int} (h : x ∈ pls ss acc) : x.1 ≤ x.2.1 := by
  obtain ⟨s, _, e1, e2⟩ := pls_mem h
  have := lo_hi s
  omega
theorem pls_len : ∀ (ss : List Sc) (acc : Int), (pls ss acc).length = ss.length
  | [], _ => rfl
  | s :: r, acc => congrArg (· + 1) (pls_len r _)
theorem pls_get {x : Rw} {z : Int} : ∀ {ss : List Sc} {acc : Int}, x ∈ pls ss acc → x.1 ≤ z → z ≤ x.2.1 → 0 ≤ plOf x z - acc ∧ (rdL ss)[(plOf x z - acc).toNat]? = some z
  | [], _, h, _, _ => by cases h
  | s :: r, acc, h, h1, h2 => by
    have sp := slen_pos s
    have sc := sc_cases s
    have ls := rd_len s
    show _ ∧ (rd s ++ rdL r)[(plOf x z - acc).toNat]? = some z
    rcases List.mem_cons.mp h with rfl | h
    · unfold plOf
      dsimp only at h1 h2 ⊢
      by_cases c : s.1 ≤ s.2
      · rw [if_pos (decide_eq_true c)]
        refine ⟨by omega, ?_⟩
        rw [List.getElem?_append_left (by omega), rd_get (by omega), if_pos c]
        congr 1
        omega
      · rw [if_neg (by rw [decide_eq_false c]; exact Bool.false_ne_true)]
        refine ⟨by omega, ?_⟩
        rw [List.getElem?_append_left (by omega), rd_get (by omega), if_neg c]
        congr 1
        omega
    · obtain ⟨a, b⟩ := pls_get h h1 h2
      refine ⟨by omega, ?_⟩
      rw [List.getElem?_append_right (by omega), ← b]
      congr 1
      omega
theorem pls_of {z : Int} : ∀ {ss : List Sc} (acc : Int), z ∈ rdL ss → ∃ x ∈ pls ss acc, x.1 ≤ z ∧ z ≤ x.2.1
  | [], _, h => by cases h
  | s :: r, acc, h => by
    rcases List.mem_append.mp h with h | h
    · obtain ⟨a, b⟩ := mem_rd.mp h
      exact ⟨_, List.mem_cons_self, a, b⟩
    · obtain ⟨x, hx, e⟩ := pls_of (acc + slen s) h
      exact ⟨x, List.mem_cons_of_mem _ hx, e⟩
theorem pls_apart : ∀ {ss : List Sc} (acc : Int), ss.Pairwise Apart → (pls ss acc).Pairwise fun x y => x.2.1 < y.1 ∨ y.2.1 < x.1
  | [], _, _ => .nil
  | s :: r, acc, h => by
    obtain ⟨h1, h2⟩ := List.pairwise_cons.mp h
    refine List.pairwise_cons.mpr ⟨fun x hx => ?_, pls_apart _ h2⟩
    obtain ⟨t, ht, e1, e2⟩ := pls_mem hx
    have := h1 t ht
    unfold Apart at this
    dsimp only
    omega
def mxI (a b : Int) : Int := if b > a then b else a
def mnI (a b : Int) : Int := if b < a then b else a
theorem mxI_le (a b : Int) : a ≤ mxI a b ∧ b ≤ mxI a b ∧ (mxI a b = a ∨ mxI a b = b) := by
  unfold mxI
  split <;> omega
theorem mnI_le (a b : Int) : mnI a b ≤ a ∧ mnI a b ≤ b ∧ (mnI a b = a ∨ mnI a b = b) := by
  unfold mnI
  split <;> omega
/-- the interval that two of them have in common -/
def blo (b : Rw × Rw) : Int := mxI b.1.1 b.2.1
def bhi (b : Rw × Rw) : Int := mnI b.1.2.1 b.2.2.1
def shr : List Rw → List Rw → List (Rw × Rw)
  | x :: xs, y :: ys => (if blo (x, y) ≤ bhi (x, y) then [(x, y)] else []) ++ (if x.2.1 ≤ y.2.1 then shr xs (y :: ys) else shr (x :: xs) ys)
  | [], _ => []
  | _ :: _, [] => []
termination_by a b => a.length + b.length
theorem shr_cons (x : Rw) (xs : List Rw) (y : Rw) (ys : List Rw) : shr (x :: xs) (y :: ys) = (if blo (x, y) ≤ bhi (x, y) then [(x, y)] else []) ++ (if x.2.1 ≤ y.2.1 then shr xs (y :: ys) else shr (x :: xs) ys) := by
  rw [shr]
theorem shr_nil (b : List Rw) : shr [] b = [] := by rw [shr]
theorem shr_nil2 (a : List Rw) : shr a [] = [] := by
  cases a <;> rw [shr]
structure Asr (A : List Rw) : Prop where
  asc : A.Pairwise fun x y => x.2.1 < y.1
  le : ∀ x ∈ A, x.1 ≤ x.2.1
theorem Asr.tail {x : Rw} {A : List Rw} (h : Asr (x :: A)) : Asr A := ⟨(List.pairwise_cons.mp h.asc).2, fun y hy => h.le y (List.mem_cons_of_mem _ hy)⟩
theorem Asr.head {x : Rw} {A : List Rw} (h : Asr (x :: A)) : ∀ y ∈ A, x.2.1 < y.1 := (List.pairwise_cons.mp h.asc).1
theorem shr_mem : ∀ (n : Nat) {A B : List Rw}, A.length + B.length = n → ∀ b ∈ shr A B, b.1 ∈ A ∧ b.2 ∈ B ∧ blo b ≤ bhi b
  | n, [], B, _, b, h => by
    rw [shr_nil] at h
    cases h
  | n, x :: xs, [], _, b, h => by
    rw [shr_nil2] at h
    cases h
  | n, x :: xs, y :: ys, hn, b, h => by
    rw [shr_cons] at h
    rcases List.mem_append.mp h with h | h
    · split at h
      · rename_i c
        rw [List.mem_singleton.mp h]
        exact ⟨List.mem_cons_self, List.mem_cons_self, c⟩
      · cases h
    · simp only [List.length_cons] at hn
      split at h
      · obtain ⟨h1, h2, h3⟩ := shr_mem (n - 1) (A := xs) (B := y :: ys) (by simp only [List.length_cons]; omega) b h
        exact ⟨List.mem_cons_of_mem _ h1, h2, h3⟩
      · obtain ⟨h1, h2, h3⟩ := shr_mem (n - 1) (A := x :: xs) (B := ys) (by simp only [List.length_cons]; omega) b h
        exact ⟨h1, List.mem_cons_of_mem _ h2, h3⟩
theorem shr_asc : ∀ (n : Nat) {A B : List Rw}, A.length + B.length = n → Asr A → Asr B → (shr A B).Pairwise fun b c => bhi b < blo c
  | n, [], B, _, _, _ => by
    rw [shr_nil]
    exact .nil
  | n, x :: xs, [], _, _, _ => by
    rw [shr_nil2]
    exact .nil
  | n, x :: xs, y :: ys, hn, hA, hB => by
    rw [shr_cons]
    simp only [List.length_cons] at hn
    have m0 := mnI_le x.2.1 y.2.1
    by_cases c : x.2.1 ≤ y.2.1
    · rw [if_pos c]
      have ih := shr_asc (n - 1) (A := xs) (B := y :: ys) (by simp only [List.length_cons]; omega) hA.tail hB
      split
      · refine List.pairwise_cons.mpr ⟨fun b hb => ?_, ih⟩
        obtain ⟨h1, _, _⟩ := shr_mem _ rfl b hb
        have a := hA.head _ h1
        have m1 := mxI_le b.1.1 b.2.1
        show mnI x.2.1 y.2.1 < mxI b.1.1 b.2.1
        omega
      · exact ih
    · rw [if_neg c]
      have ih := shr_asc (n - 1) (A := x :: xs) (B := ys) (by simp only [List.length_cons]; omega) hA hB.tail
      split
      · refine List.pairwise_cons.mpr ⟨fun b hb => ?_, ih⟩
        obtain ⟨_, h1, _⟩ := shr_mem _ rfl b hb
        have a := hB.head _ h1
        have m1 := mxI_le b.1.1 b.2.1
        show mnI x.2.1 y.2.1 < mxI b.1.1 b.2.1
        omega
      · exact ih
theorem shr_all : ∀ (n : Nat) {A B : List Rw}, A.length + B.length = n → Asr A → Asr B → ∀ x ∈ A, ∀ y ∈ B, blo (x, y) ≤ bhi (x, y) → (x, y) ∈ shr A B
  | n, [], B, _, _, _, x, hx, _, _, _ => by cases hx
  | n, x0 :: xs, [], _, _, _, x, hx, y, hy, _ => by cases hy
  | n, x0 :: xs, y0 :: ys, hn, hA, hB, x, hx, y, hy, h => by
    rw [shr_cons]
    simp only [List.length_cons] at hn
    have m0 := mnI_le x.2.1 y.2.1
    have m1 := mxI_le x.1 y.1
    have h' : mxI x.1 y.1 ≤ mnI x.2.1 y.2.1 := h
    by_cases c : x0.2.1 ≤ y0.2.1
    · rw [if_pos c]
      rcases List.mem_cons.mp hx with rfl | hx
      · rcases List.mem_cons.mp hy with rfl | hy
        · rw [if_pos h]
          exact List.mem_append_left _ List.mem_cons_self
        · have := hB.head y hy
          omega
      · exact List.mem_append_right _ (shr_all (n - 1) (by simp only [List.length_cons]; omega) hA.tail hB x hx y hy h)
    · rw [if_neg c]
      rcases List.mem_cons.mp hy with rfl | hy
      · rcases List.mem_cons.mp hx with rfl | hx
        · rw [if_pos h]
          exact List.mem_append_left _ List.mem_cons_self
        · have := hA.head x hx
          omega
      · exact List.mem_append_right _ (shr_all (n - 1) (by simp only [List.length_cons]; omega) hA hB.tail x hx y hy h)
theorem shr_len : ∀ (n : Nat) {A B : List Rw}, A.length + B.length = n → (shr A B).length ≤ n
  | n, [], B, _ => by
    rw [shr_nil]
    exact Nat.zero_le _
  | n, x :: xs, [], _ => by
    rw [shr_nil2]
    exact Nat.zero_le _
  | n, x :: xs, y :: ys, hn => by
    rw [shr_cons, List.length_append]
    simp only [List.length_cons] at hn
    have l1 : (if blo (x, y) ≤ bhi (x, y) then [(x, y)] else []).length ≤ 1 := by
      split
      · exact Nat.le_refl _
      · exact Nat.zero_le _
    by_cases c : x.2.1 ≤ y.2.1
    · rw [if_pos c]
      have := shr_len (n - 1) (A := xs) (B := y :: ys) (by simp only [List.length_cons]; omega)
      omega
    · rw [if_neg c]
      have := shr_len (n - 1) (A := x :: xs) (B := ys) (by simp only [List.length_cons]; omega)
      omega
end Kb

namespace Kb
open PySem PySem.Spec PyProof.Rows L2 TL
theorem seg_length (a b : Int) : ((seg a b).length : Int) = if a ≤ b then b - a + 1 else 0 := by
  unfold seg
  rw [List.length_map, List.length_range]
  split <;> omega
theorem seg_lt {a b z : Int} (h1 : a ≤ z) (h2 : z ≤ b) : (((seg a b).filter fun w => decide (w < z)).length : Int) = z - a := by
  rw [← seg_app (b := z - 1) (c := b) (by omega) _ a rfl (by omega), List.filter_append, seg_out, seg_in, List.append_nil, seg_length]
  · split <;> omega
  · intro w h3 h4
    exact decide_eq_false (by omega)
  · intro w h3 h4
    exact decide_eq_true (by omega)
theorem seg_gt {a b z : Int} (h1 : a ≤ z) (h2 : z ≤ b) : (((seg a b).filter fun w => decide (z < w)).length : Int) = b - z := by
  rw [← seg_app (b := z) (c := b) h2 _ a rfl (by omega), List.filter_append, seg_in, seg_out, List.nil_append, seg_length]
  · split <;> omega
  · intro w h3 h4
    exact decide_eq_true (by omega)
  · intro w h3 h4
    exact decide_eq_false (by omega)
theorem seg_eq (a b z : Int) : (((seg a b).filter fun w => decide (w = z)).length : Int) = if a ≤ z ∧ z ≤ b then 1 else 0 := by
  split
  · rename_i h
    rw [← seg_app (b := z) (c := b) h.2 _ a rfl (by omega), List.filter_append, ← seg_app (b := z - 1) (c := z) (by omega) _ a rfl (by omega), List.filter_append]
    have e1 : (seg a (z - 1)).filter (fun w => decide (w = z)) = [] := seg_in fun w h3 h4 => decide_eq_false (by omega)
    have e2 : (seg (z - 1 + 1) z).filter (fun w => decide (w = z)) = seg (z - 1 + 1) z := seg_out fun w h3 h4 => decide_eq_true (by omega)
    have e3 : (seg (z + 1) b).filter (fun w => decide (w = z)) = [] := seg_in fun w h3 h4 => decide_eq_false (by omega)
    rw [e1, e2, e3, List.nil_append, List.append_nil, seg_length]
    split <;> omega
  · rename_i h
    rw [seg_in]
    · rfl
    · intro w h3 h4
      exact decide_eq_false (by omega)
/-! ### blocks -/
def stPl (x : Rw) (l h : Int) : Int := if x.2.2.2 = true then x.2.2.1 + l - x.1 else x.2.2.1 + x.2.1 - h
def bp (b : Rw × Rw) : Int := stPl b.1 (blo b) (bhi b)
def bq (b : Rw × Rw) : Int := stPl b.2 (blo b) (bhi b)
def bn (b : Rw × Rw) : Int := bhi b - blo b + 1
def bg (b : Rw × Rw) : Bool := b.1.2.2.2 == b.2.2.2.2
def off (u : Bool) (b : Rw × Rw) (z : Int) : Int := if u = true then z - blo b else bhi b - z
theorem pl_bp (b : Rw × Rw) (z : Int) : plOf b.1 z = bp b + off b.1.2.2.2 b z := by
  unfold plOf bp stPl off
  split <;> omega
theorem pl_bq (b : Rw × Rw) (z : Int) : plOf b.2 z = bq b + off b.2.2.2.2 b z := by
  unfold plOf bq stPl off
  split <;> omega
theorem off_bd (u : Bool) {b : Rw × Rw} {z : Int} (h1 : blo b ≤ z) (h2 : z ≤ bhi b) : 0 ≤ off u b z ∧ off u b z < bn b := by
  unfold off bn
  split <;> omega
structure Blk (P : List (Rw × Rw)) : Prop where
  asc : P.Pairwise fun b c => bhi b < blo c
  ne : ∀ b ∈ P, blo b ≤ bhi b
  injL : ∀ b ∈ P, ∀ c ∈ P, ∀ z w, blo b ≤ z → z ≤ bhi b → blo c ≤ w → w ≤ bhi c → plOf b.1 z = plOf c.1 w → z = w
  injF : ∀ b ∈ P, ∀ c ∈ P, ∀ z w, blo b ≤ z → z ≤ bhi b → blo c ≤ w → w ≤ bhi c → plOf b.2 z = plOf c.2 w → z = w
/-- a place within a block is that of an address -/
theorem at_off (u : Bool) {b : Rw × Rw} {t : Int} (h0 : 0 ≤ t) (h1 : t < bn b) : ∃ z, blo b ≤ z ∧ z ≤ bhi b ∧ off u b z = t := by
  unfold bn at h1
  cases u
  · exact ⟨bhi b - t, by omega, by omega, by unfold off; rw [if_neg (by decide)]; omega⟩
  · exact ⟨blo b + t, by omega, by omega, by unfold off; rw [if_pos rfl]; omega⟩
theorem apart_places {b c : Rw × Rw} (nb : blo b ≤ bhi b) (nc : blo c ≤ bhi c) (dis : bhi b < blo c ∨ bhi c < blo b)
    {p : Rw × Rw → Int} {u : Rw × Rw → Bool} (inj : ∀ z w, blo b ≤ z → z ≤ bhi b → blo c ≤ w → w ≤ bhi c → p b + off (u b) b z = p c + off (u c) c w → z = w) : p b + bn b ≤ p c ∨ p c + bn c ≤ p b := by
  by_cases h1 : p b + bn b ≤ p c
  · exact .inl h1
  by_cases h2 : p c + bn c ≤ p b
  · exact .inr h2
  exfalso
  have n1 : bn b = bhi b - blo b + 1 := rfl
  have n2 : bn c = bhi c - blo c + 1 := rfl
  -- a place of both
  by_cases h3 : p b ≤ p c
  · obtain ⟨z, z1, z2, z3⟩ := at_off (u b) (b := b) (t := p c - p b) (by omega) (by omega)
    obtain ⟨w, w1, w2, w3⟩ := at_off (u c) (b := c) (t := 0) (Int.le_refl _) (by omega)
    have := inj z w z1 z2 w1 w2 (by omega)
    omega
  · obtain ⟨z, z1, z2, z3⟩ := at_off (u b) (b := b) (t := 0) (Int.le_refl _) (by omega)
    obtain ⟨w, w1, w2, w3⟩ := at_off (u c) (b := c) (t := p b - p c) (by omega) (by omega)
    have := inj z w z1 z2 w1 w2 (by omega)
    omega
def sgB (b : Rw × Rw) : List Int := seg (blo b) (bhi b)
def czB (c b : Rw × Rw) (z : Int) : Int := (((sgB c).filter fun w => decide (plOf c.1 w < plOf b.1 z ∧ plOf c.2 w < plOf b.2 z)).length : Int)
def inB (b c : Rw × Rw) : Int := if bp c < bp b ∧ bq c < bq b then bn c else 0
theorem cz_other {P : List (Rw × Rw)} (K : Blk P) {b c : Rw × Rw} (hb : b ∈ P) (hc : c ∈ P) (dis : bhi b < blo c ∨ bhi c < blo b) {z : Int} (h1 : blo b ≤ z) (h2 : z ≤ bhi b) : czB c b z = inB b c := by
  have nb := K.ne b hb
  have nc := K.ne c hc
  have dp := apart_places nb nc dis (p := bp) (u := fun b => b.1.2.2.2) fun z w z1 z2 w1 w2 e => K.injL b hb c hc z w z1 z2 w1 w2 (by rw [pl_bp, pl_bp]; exact e)
  have dq := apart_places nb nc dis (p := bq) (u := fun b => b.2.2.2.2) fun z w z1 z2 w1 w2 e => K.injF b hb c hc z w z1 z2 w1 w2 (by rw [pl_bq, pl_bq]; exact e)
  have ob := off_bd b.1.2.2.2 h1 h2
  have ob' := off_bd b.2.2.2.2 h1 h2
  unfold czB inB sgB
  by_cases c1 : bp c < bp b ∧ bq c < bq b
  · rw [if_pos c1, seg_out, seg_length, if_pos nc]
    · rfl
    · intro w w1 w2
      have oc := off_bd c.1.2.2.2 w1 w2
      have oc' := off_bd c.2.2.2.2 w1 w2
      refine decide_eq_true ?_
      rw [pl_bp, pl_bp, pl_bq, pl_bq]
      omega
  · rw [if_neg c1, seg_in]
    · rfl
    · intro w w1 w2
      have oc := off_bd c.1.2.2.2 w1 w2
      have oc' := off_bd c.2.2.2.2 w1 w2
      refine decide_eq_false ?_
      rw [pl_bp, pl_bp, pl_bq, pl_bq]
      omega
theorem cz_self {b : Rw × Rw} {z : Int} (h1 : blo b ≤ z) (h2 : z ≤ bhi b) : czB b b z = inB b b + (if bg b = true then off b.2.2.2.2 b z else 0) := by
  unfold czB inB
  rw [if_neg (by omega), Int.zero_add]
  have e : ((sgB b).filter fun w => decide (plOf b.1 w < plOf b.1 z ∧ plOf b.2 w < plOf b.2 z)) = (sgB b).filter fun w => decide (off b.1.2.2.2 b w < off b.1.2.2.2 b z ∧ off b.2.2.2.2 b w < off b.2.2.2.2 b z) := by
    refine List.filter_congr fun w _ => ?_
    rw [pl_bp, pl_bp, pl_bq, pl_bq]
    congr 1
    exact propext ⟨fun h => by omega, fun h => by omega⟩
  rw [e]
  unfold bg sgB off
  cases b.1.2.2.2 <;> cases b.2.2.2.2
  · show (((seg (blo b) (bhi b)).filter fun w => decide (bhi b - w < bhi b - z ∧ bhi b - w < bhi b - z)).length : Int) = bhi b - z
    refine Eq.trans ?_ (seg_gt h1 h2)
    congr 2
    refine List.filter_congr fun w _ => ?_
    congr 1
    exact propext ⟨fun h => by omega, fun h => by omega⟩
  · show (((seg (blo b) (bhi b)).filter fun w => decide (bhi b - w < bhi b - z ∧ w - blo b < z - blo b)).length : Int) = 0
    rw [seg_in]
    · rfl
    · intro w w1 w2
      exact decide_eq_false (by omega)
  · show (((seg (blo b) (bhi b)).filter fun w => decide (w - blo b < z - blo b ∧ bhi b - w < bhi b - z)).length : Int) = 0
    rw [seg_in]
    · rfl
    · intro w w1 w2
      exact decide_eq_false (by omega)
  · show (((seg (blo b) (bhi b)).filter fun w => decide (w - blo b < z - blo b ∧ w - blo b < z - blo b)).length : Int) = z - blo b
    refine Eq.trans ?_ (seg_lt h1 h2)
    congr 2
    refine List.filter_congr fun w _ => ?_
    congr 1
    exact propext ⟨fun h => by omega, fun h => by omega⟩
def sumI {α : Type} (f : α → Int) : List α → Int
  | [] => 0
  | x :: xs => f x + sumI f xs
theorem sumI_app {α : Type} (f : α → Int) : ∀ a b : List α, sumI f (a ++ b) = sumI f a + sumI f b
  | [], b => (Int.zero_add _).symm
  | x :: a, b => by
    show f x + sumI f (a ++ b) = f x + sumI f a + sumI f b
    rw [sumI_app f a b, Int.add_assoc]
theorem sumI_congr {α : Type} {f g : α → Int} : ∀ {l : List α}, (∀ x ∈ l, f x = g x) → sumI f l = sumI g l
  | [], _ => rfl
  | x :: l, h => by
    show f x + sumI f l = g x + sumI g l
    rw [h x List.mem_cons_self, sumI_congr fun y hy => h y (List.mem_cons_of_mem _ hy)]
theorem filter_flat {α β : Type} (f : α → List β) (q : β → Bool) : ∀ l : List α, (((l.flatMap f).filter q).length : Int) = sumI (fun x => (((f x).filter q).length : Int)) l
  | [] => rfl
  | x :: l => by
    rw [List.flatMap_cons, List.filter_append, List.length_append, Int.natCast_add, filter_flat f q l]
    rfl
/-- how many of them are ahead in both -/
theorem cz_sum {P : List (Rw × Rw)} (K : Blk P) {b : Rw × Rw} (hb : b ∈ P) {z : Int} (h1 : blo b ≤ z) (h2 : z ≤ bhi b) : sumI (fun c => czB c b z) P = sumI (inB b) P + (if bg b = true then off b.2.2.2.2 b z else 0) := by
  obtain ⟨P1, P2, e⟩ := List.append_of_mem hb
  have m1 : ∀ c ∈ P1, c ∈ P ∧ bhi c < blo b := fun c hc => by
    have a := K.asc
    rw [e] at a
    exact ⟨by rw [e]; exact List.mem_append_left _ hc, (List.pairwise_append.mp a).2.2 c hc b List.mem_cons_self⟩
  have m2 : ∀ c ∈ P2, c ∈ P ∧ bhi b < blo c := fun c hc => by
    have a := K.asc
    rw [e] at a
    exact ⟨by rw [e]; exact List.mem_append_right _ (List.mem_cons_of_mem _ hc), (List.pairwise_cons.mp (List.pairwise_append.mp a).2.1).1 c hc⟩
  have s1 : sumI (fun c => czB c b z) P1 = sumI (inB b) P1 := sumI_congr fun c hc => cz_other K hb (m1 c hc).1 (.inr (m1 c hc).2) h1 h2
  have s2 : sumI (fun c => czB c b z) P2 = sumI (inB b) P2 := sumI_congr fun c hc => cz_other K hb (m2 c hc).1 (.inl (m2 c hc).2) h1 h2
  have s3 := cz_self h1 h2
  rw [e, sumI_app, sumI_app, s1]
  show _ + (czB b b z + sumI (fun c => czB c b z) P2) = _ + (inB b b + sumI (inB b) P2) + _
  rw [s2, s3]
  omega
/-! ### the distances -/
def cI (f g : Int → Int) (Z : List Int) (z : Int) : Int := ((Z.filter fun w => decide (f w < f z ∧ g w < g z)).length : Int)
def dI (f g : Int → Int) (Z : List Int) (z : Int) : Int := 1 + f z + g z - cI f g Z z
def hI (f g : Int → Int) (Z : List Int) (d : Int) : Int := ((Z.filter fun z => decide (dI f g Z z = d)).length : Int)
def zB (P : List (Rw × Rw)) : List Int := P.flatMap sgB
def baseB (P : List (Rw × Rw)) (b : Rw × Rw) : Int := 1 + bp b + bq b - sumI (inB b) P
def pcB (P : List (Rw × Rw)) (b : Rw × Rw) : Int × Int × Int := if bg b = true then (baseB P b, baseB P b + bn b - 1, 1) else (baseB P b + bn b - 1, baseB P b + bn b - 1, bn b)
theorem cI_perm {f g : Int → Int} {Z W : List Int} (h : Z.Perm W) (z : Int) : cI f g Z z = cI f g W z := by
  unfold cI
  rw [(h.filter _).length_eq]
theorem hI_perm {f g : Int → Int} {Z W : List Int} (h : Z.Perm W) (d : Int) : hI f g Z d = hI f g W d := by
  unfold hI dI
  rw [(h.filter _).length_eq]
  congr 2
  refine List.filter_congr fun z _ => ?_
  rw [cI_perm h]
theorem dist_B {P : List (Rw × Rw)} (K : Blk P) {f g : Int → Int} (hf : ∀ b ∈ P, ∀ z, blo b ≤ z → z ≤ bhi b → f z = plOf b.1 z ∧ g z = plOf b.2 z) (b : Rw × Rw) (hb : b ∈ P) (z : Int) (h1 : blo b ≤ z) (h2 : z ≤ bhi b) : dI f g (zB P) z = baseB P b + (if bg b = true then off b.2.2.2.2 b z else bn b - 1) := by
  have c : cI f g (zB P) z = sumI (fun c => czB c b z) P := by
    unfold cI zB
    rw [filter_flat]
    refine sumI_congr fun c hc => ?_
    unfold czB
    congr 2
    refine List.filter_congr fun w hw => ?_
    obtain ⟨w1, w2⟩ := mem_seg.mp hw
    rw [(hf c hc w w1 w2).1, (hf c hc w w1 w2).2, (hf b hb z h1 h2).1, (hf b hb z h1 h2).2]
  unfold dI baseB
  rw [c, cz_sum K hb h1 h2, (hf b hb z h1 h2).1, (hf b hb z h1 h2).2, pl_bp, pl_bq]
  by_cases g1 : bg b = true
  · rw [if_pos g1, if_pos g1]
    have : b.1.2.2.2 = b.2.2.2.2 := by
      unfold bg at g1
      simpa using g1
    rw [this]
    omega
  · rw [if_neg g1, if_neg g1]
    have : off b.1.2.2.2 b z + off b.2.2.2.2 b z = bn b - 1 := by
      unfold bg at g1
      unfold off bn
      cases h3 : b.1.2.2.2 <;> cases h4 : b.2.2.2.2 <;> rw [h3, h4] at g1
      · exact (g1 rfl).elim
      · rw [if_neg (by decide), if_pos rfl]
        omega
      · rw [if_pos rfl, if_neg (by decide)]
        omega
      · exact (g1 rfl).elim
    omega
theorem hist_B {P : List (Rw × Rw)} (K : Blk P) {f g : Int → Int} (hf : ∀ b ∈ P, ∀ z, blo b ≤ z → z ≤ bhi b → f z = plOf b.1 z ∧ g z = plOf b.2 z) (d : Int) : hI f g (zB P) d = atP (P.map (pcB P)) d := by
  have dist := dist_B K hf
  unfold hI
  rw [show zB P = P.flatMap sgB from rfl, filter_flat]
  have key : ∀ Q : List (Rw × Rw), (∀ b ∈ Q, b ∈ P) → sumI (fun b => (((sgB b).filter fun z => decide (dI f g (P.flatMap sgB) z = d)).length : Int)) Q = atP (Q.map (pcB P)) d := by
    intro Q
    induction Q with
    | nil => intro _; rfl
    | cons b Q ih =>
      intro hQ
      have hb := hQ b List.mem_cons_self
      have nb := K.ne b hb
      rw [List.map_cons, atP_cons]
      show _ + _ = at1 (pcB P b) d + _
      rw [ih fun c hc => hQ c (List.mem_cons_of_mem _ hc)]
      congr 1
      have e : ((sgB b).filter fun z => decide (dI f g (P.flatMap sgB) z = d)) = (sgB b).filter fun z => decide (baseB P b + (if bg b = true then off b.2.2.2.2 b z else bn b - 1) = d) := by
        refine List.filter_congr fun z hz => ?_
        obtain ⟨z1, z2⟩ := mem_seg.mp hz
        rw [show P.flatMap sgB = zB P from rfl, dist b hb z z1 z2]
      show (((sgB b).filter fun z => decide (dI f g (P.flatMap sgB) z = d)).length : Int) = at1 (pcB P b) d
      rw [e]
      unfold pcB at1 sgB
      have n1 : bn b = bhi b - blo b + 1 := rfl
      by_cases g1 : bg b = true
      · rw [if_pos g1]
        dsimp only
        by_cases u : b.2.2.2.2 = true
        · have e2 : ((seg (blo b) (bhi b)).filter fun z => decide (baseB P b + (if bg b = true then off b.2.2.2.2 b z else bn b - 1) = d)) = (seg (blo b) (bhi b)).filter fun z => decide (z = d - baseB P b + blo b) := by
            refine List.filter_congr fun z _ => ?_
            rw [if_pos g1]
            unfold off
            rw [if_pos u]
            congr 1
            exact propext ⟨fun h => by omega, fun h => by omega⟩
          rw [e2, seg_eq]
          split <;> split <;> omega
        · have e2 : ((seg (blo b) (bhi b)).filter fun z => decide (baseB P b + (if bg b = true then off b.2.2.2.2 b z else bn b - 1) = d)) = (seg (blo b) (bhi b)).filter fun z => decide (z = bhi b - (d - baseB P b)) := by
            refine List.filter_congr fun z _ => ?_
            rw [if_pos g1]
            unfold off
            rw [if_neg u]
            congr 1
            exact propext ⟨fun h => by omega, fun h => by omega⟩
          rw [e2, seg_eq]
          split <;> split <;> omega
      · rw [if_neg g1]
        dsimp only
        by_cases c : d = baseB P b + bn b - 1
        · rw [seg_out, seg_length, if_pos nb, if_pos (by omega)]
          · rfl
          · intro z _ _
            rw [if_neg g1]
            exact decide_eq_true (by omega)
        · rw [seg_in, if_neg (by omega)]
          · rfl
          · intro z _ _
            rw [if_neg g1]
            exact decide_eq_false (by omega)
  exact key P fun b hb => hb
end Kb

namespace Kb
open PySem PySem.Spec PyProof.Rows L2 TL
theorem rdL_nodup : ∀ {ss : List Sc}, ss.Pairwise Apart → (rdL ss).Nodup
  | [], _ => .nil
  | s :: r, h => by
    obtain ⟨h1, h2⟩ := List.pairwise_cons.mp h
    show (rd s ++ rdL r).Nodup
    rw [List.nodup_append]
    refine ⟨rd_nodup s, rdL_nodup h2, fun a ha b hb e => ?_⟩
    subst e
    obtain ⟨t, ht, a1, a2⟩ := mem_rdL.mp hb
    have m := mem_rd.mp ha
    have := h1 t ht
    unfold Apart at this
    omega
theorem asr_of {ss : List Sc} {A : List Rw} (d : ss.Pairwise Apart) (p : A.Perm (pls ss 0)) (o : A.Pairwise fun x y => x.1 ≤ y.1) : Asr A := by
  have le : ∀ x ∈ A, x.1 ≤ x.2.1 := fun x hx => pls_le (p.mem_iff.mp hx)
  have d2 : A.Pairwise fun x y => x.2.1 < y.1 ∨ y.2.1 < x.1 := (p.pairwise_iff (R := fun x y : Rw => x.2.1 < y.1 ∨ y.2.1 < x.1) (fun {a b} h => h.symm)).mpr (pls_apart 0 d)
  refine ⟨?_, le⟩
  rw [List.pairwise_iff_getElem] at *
  intro i j hi hj hij
  have a := d2 i j hi hj hij
  have b := o i j hi hj hij
  have c := le _ (List.getElem_mem hj)
  omega
theorem nodup_ix {l : List Int} (nd : l.Nodup) {i j : Nat} {z : Int} (h1 : l[i]? = some z) (h2 : l[j]? = some z) : i = j :=
  (List.getElem?_inj (List.getElem?_eq_some_iff.mp h1).1 nd).mp (h1.trans h2.symm)
/-- the place of a number in a list, as an int -/
def ixI (l : List Int) (z : Int) : Int := match ixo l z with
  | some j => (j : Int)
  | none => 0
theorem ixI_at {l : List Int} (nd : l.Nodup) {j : Nat} {z : Int} (h : l[j]? = some z) : ixI l z = (j : Int) := by
  obtain ⟨k, h1, h2, _⟩ := ixo_some (List.mem_of_getElem? h)
  unfold ixI
  rw [h1, nodup_ix nd h2 h]
theorem ixI_nn (l : List Int) (z : Int) : 0 ≤ ixI l z := by
  unfold ixI
  split <;> omega
theorem ixI_inj {l : List Int} {z w : Int} (hz : z ∈ l) (hw : w ∈ l) (e : ixI l z = ixI l w) : z = w := by
  obtain ⟨j, h1, h2, _⟩ := ixo_some hz
  obtain ⟨k, h3, h4, _⟩ := ixo_some hw
  unfold ixI at e
  rw [h1, h3] at e
  have : j = k := by
    have e : (j : Int) = (k : Int) := e
    omega
  subst this
  rw [h2] at h4
  exact Option.some.inj h4
theorem ixI_lt {l : List Int} {z : Int} (hz : z ∈ l) : ixI l z < l.length := by
  obtain ⟨j, h1, h2, _⟩ := ixo_some hz
  unfold ixI
  rw [h1]
  have := (List.getElem?_eq_some_iff.mp h2).1
  show (j : Int) < _
  omega
structure Srt (ls : List Sc) (A : List Rw) : Prop where
  dis : ls.Pairwise Apart
  perm : A.Perm (pls ls 0)
  ord : A.Pairwise fun x y => x.1 ≤ y.1
theorem Srt.asr {ls : List Sc} {A : List Rw} (h : Srt ls A) : Asr A := asr_of h.dis h.perm h.ord
theorem Srt.at {ls : List Sc} {A : List Rw} (h : Srt ls A) {x : Rw} (hx : x ∈ A) {z : Int} (h1 : x.1 ≤ z) (h2 : z ≤ x.2.1) : 0 ≤ plOf x z ∧ (rdL ls)[(plOf x z).toNat]? = some z := by
  obtain ⟨a, b⟩ := pls_get (h.perm.mem_iff.mp hx) h1 h2
  rw [Int.sub_zero] at a b
  exact ⟨a, b⟩
theorem in_blk {b : Rw × Rw} {z : Int} (h1 : blo b ≤ z) (h2 : z ≤ bhi b) : (b.1.1 ≤ z ∧ z ≤ b.1.2.1) ∧ b.2.1 ≤ z ∧ z ≤ b.2.2.1 := by
  have a := mxI_le b.1.1 b.2.1
  have c := mnI_le b.1.2.1 b.2.2.1
  unfold blo at h1
  unfold bhi at h2
  omega
theorem blk_of {ls fs : List Sc} {A B : List Rw} (hA : Srt ls A) (hB : Srt fs B) : Blk (shr A B) := by
  refine ⟨shr_asc _ rfl hA.asr hB.asr, fun b hb => (shr_mem _ rfl b hb).2.2, fun b hb c hc z w z1 z2 w1 w2 e => ?_, fun b hb c hc z w z1 z2 w1 w2 e => ?_⟩
  · obtain ⟨a1, a2⟩ := hA.at (shr_mem _ rfl b hb).1 (in_blk z1 z2).1.1 (in_blk z1 z2).1.2
    obtain ⟨a3, a4⟩ := hA.at (shr_mem _ rfl c hc).1 (in_blk w1 w2).1.1 (in_blk w1 w2).1.2
    rw [e, a4] at a2
    exact (Option.some.inj a2).symm
  · obtain ⟨a1, a2⟩ := hB.at (shr_mem _ rfl b hb).2.1 (in_blk z1 z2).2.1 (in_blk z1 z2).2.2
    obtain ⟨a3, a4⟩ := hB.at (shr_mem _ rfl c hc).2.1 (in_blk w1 w2).2.1 (in_blk w1 w2).2.2
    rw [e, a4] at a2
    exact (Option.some.inj a2).symm
theorem zB_nodup : ∀ {P : List (Rw × Rw)}, P.Pairwise (fun b c => bhi b < blo c) → (zB P).Nodup
  | [], _ => .nil
  | b :: P, h => by
    obtain ⟨h1, h2⟩ := List.pairwise_cons.mp h
    show (sgB b ++ zB P).Nodup
    rw [List.nodup_append]
    refine ⟨?_, zB_nodup h2, fun x hx y hy e => ?_⟩
    · unfold sgB seg
      refine List.nodup_iff_pairwise_ne.mpr (List.pairwise_map.mpr ((List.nodup_iff_pairwise_ne.mp List.nodup_range).imp fun {i j} hij e => hij (by omega)))
    · subst e
      obtain ⟨c, hc, hy⟩ := List.mem_flatMap.mp hy
      have := h1 c hc
      have a := mem_seg.mp hx
      have b := mem_seg.mp hy
      omega
theorem zB_mem {ls fs : List Sc} {A B : List Rw} (hA : Srt ls A) (hB : Srt fs B) {z : Int} : z ∈ zB (shr A B) ↔ z ∈ rdL fs ∧ z ∈ rdL ls := by
  constructor
  · intro h
    obtain ⟨b, hb, hz⟩ := List.mem_flatMap.mp h
    obtain ⟨z1, z2⟩ := mem_seg.mp hz
    obtain ⟨m1, m2, _⟩ := shr_mem _ rfl b hb
    exact ⟨List.mem_of_getElem? (hB.at m2 (in_blk z1 z2).2.1 (in_blk z1 z2).2.2).2, List.mem_of_getElem? (hA.at m1 (in_blk z1 z2).1.1 (in_blk z1 z2).1.2).2⟩
  · rintro ⟨h1, h2⟩
    obtain ⟨x, hx, x1, x2⟩ := pls_of 0 h2
    obtain ⟨y, hy, y1, y2⟩ := pls_of 0 h1
    have a := mxI_le x.1 y.1
    have c := mnI_le x.2.1 y.2.1
    have l1 : blo (x, y) ≤ z := by
      show mxI x.1 y.1 ≤ z
      omega
    have l2 : z ≤ bhi (x, y) := by
      show z ≤ mnI x.2.1 y.2.1
      omega
    exact List.mem_flatMap.mpr ⟨(x, y), shr_all _ rfl hA.asr hB.asr x (hA.perm.mem_iff.mpr hx) y (hB.perm.mem_iff.mpr hy) (by omega), mem_seg.mpr ⟨l1, l2⟩⟩
theorem zB_perm {ls fs : List Sc} {A B : List Rw} (hA : Srt ls A) (hB : Srt fs B) : (zB (shr A B)).Perm ((rdL fs).filter fun z => decide (z ∈ rdL ls)) := by
  refine (List.perm_ext_iff_of_nodup (zB_nodup (shr_asc _ rfl hA.asr hB.asr)) ((rdL_nodup hB.dis).filter _)).mpr fun z => ?_
  rw [zB_mem hA hB, List.mem_filter, decide_eq_true_iff]
/-- the numbers of straight distances -/
def stH (L F : List Int) (d : Int) : Int := hI (ixI L) (ixI F) (F.filter fun z => decide (z ∈ L)) d
theorem ix_blk {ls fs : List Sc} {A B : List Rw} (hA : Srt ls A) (hB : Srt fs B) : ∀ b ∈ shr A B, ∀ z, blo b ≤ z → z ≤ bhi b → ixI (rdL ls) z = plOf b.1 z ∧ ixI (rdL fs) z = plOf b.2 z := fun b hb z z1 z2 => by
  obtain ⟨m1, m2, _⟩ := shr_mem _ rfl b hb
  obtain ⟨a1, a2⟩ := hA.at m1 (in_blk z1 z2).1.1 (in_blk z1 z2).1.2
  obtain ⟨a3, a4⟩ := hB.at m2 (in_blk z1 z2).2.1 (in_blk z1 z2).2.2
  rw [ixI_at (rdL_nodup hA.dis) a2, ixI_at (rdL_nodup hB.dis) a4]
  omega
theorem straight_hist {ls fs : List Sc} {A B : List Rw} (hA : Srt ls A) (hB : Srt fs B) (d : Int) : atP ((shr A B).map (pcB (shr A B))) d = stH (rdL ls) (rdL fs) d := by
  unfold stH
  rw [← hist_B (blk_of hA hB) (ix_blk hA hB) d]
  exact hI_perm (zB_perm hA hB) d
/-- distances are 1 and more, and not beyond the numbers of both lists -/
theorem dI_bd {L F : List Int} (nL : L.Nodup) (nF : F.Nodup) {z : Int} (hz : z ∈ F) (hl : z ∈ L) : 1 ≤ dI (ixI L) (ixI F) (F.filter fun z => decide (z ∈ L)) z ∧ dI (ixI L) (ixI F) (F.filter fun z => decide (z ∈ L)) z ≤ L.length + F.length := by
  have a := ixI_lt hz
  have b := ixI_lt hl
  have a0 := ixI_nn F z
  have b0 := ixI_nn L z
  have c : cI (ixI L) (ixI F) (F.filter fun z => decide (z ∈ L)) z ≤ ixI L z := by
    unfold cI
    have sub : (((F.filter fun z => decide (z ∈ L)).filter fun w => decide (ixI L w < ixI L z ∧ ixI F w < ixI F z)).map fun w => (ixI L w).toNat).length ≤ (List.range (ixI L z).toNat).length := by
      refine List.Nodup.length_le_of_subset ?_ fun j hj => ?_
      · refine List.nodup_iff_pairwise_ne.mpr (List.pairwise_map.mpr ?_)
        have nd := List.nodup_iff_pairwise_ne.mp ((nF.filter fun z => decide (z ∈ L)).filter fun w => decide (ixI L w < ixI L z ∧ ixI F w < ixI F z))
        refine nd.imp_of_mem fun {x y} hx hy ne e => ne ?_
        have mx := of_decide_eq_true (List.mem_filter.mp (List.mem_filter.mp hx).1).2
        have my := of_decide_eq_true (List.mem_filter.mp (List.mem_filter.mp hy).1).2
        exact ixI_inj mx my (by have := ixI_nn L x; have := ixI_nn L y; omega)
      · obtain ⟨w, hw, rfl⟩ := List.mem_map.mp hj
        have := (of_decide_eq_true (List.mem_filter.mp hw).2).1
        have := ixI_nn L w
        exact List.mem_range.mpr (by omega)
    rw [List.length_map, List.length_range] at sub
    omega
  have c0 : 0 ≤ cI (ixI L) (ixI F) (F.filter fun z => decide (z ∈ L)) z := Int.natCast_nonneg _
  unfold dI
  omega
theorem pcB_ok {ls fs : List Sc} {A B : List Rw} (hA : Srt ls A) (hB : Srt fs B) : ∀ b ∈ shr A B, Pok (pcB (shr A B) b) ∧ (pcB (shr A B) b).2.1 ≤ (rdL ls).length + (rdL fs).length ∧ bn b ≤ (rdL ls).length + (rdL fs).length := fun b hb => by
  have K := blk_of hA hB
  have nb := K.ne b hb
  have n1 : bn b = bhi b - blo b + 1 := rfl
  have nL := rdL_nodup hA.dis
  have nF := rdL_nodup hB.dis
  have D : ∀ z, blo b ≤ z → z ≤ bhi b → 1 ≤ baseB (shr A B) b + (if bg b = true then off b.2.2.2.2 b z else bn b - 1) ∧ baseB (shr A B) b + (if bg b = true then off b.2.2.2.2 b z else bn b - 1) ≤ (rdL ls).length + (rdL fs).length := fun z z1 z2 => by
    have e := dist_B K (ix_blk hA hB) b hb z z1 z2
    have m : z ∈ zB (shr A B) := List.mem_flatMap.mpr ⟨b, hb, mem_seg.mpr ⟨z1, z2⟩⟩
    have m := (zB_mem hA hB).mp m
    have d := dI_bd nL nF m.1 m.2
    rw [← e]
    unfold dI at d ⊢
    rw [cI_perm (zB_perm hA hB)]
    exact d
  obtain ⟨z, z1, z2, z3⟩ := at_off b.2.2.2.2 (b := b) (t := 0) (Int.le_refl _) (by omega)
  obtain ⟨w, w1, w2, w3⟩ := at_off b.2.2.2.2 (b := b) (t := bn b - 1) (by omega) (by omega)
  have dz := D z z1 z2
  have dw := D w w1 w2
  rw [z3] at dz
  rw [w3] at dw
  unfold pcB Pok
  by_cases g : bg b = true
  · rw [if_pos g] at dz dw ⊢
    dsimp only
    omega
  · rw [if_neg g] at dz dw ⊢
    dsimp only
    have a1 := ixI_lt ((zB_mem hA hB).mp (List.mem_flatMap.mpr ⟨b, hb, mem_seg.mpr ⟨z1, z2⟩⟩)).1
    have := (ix_blk hA hB b hb z z1 z2).2
    have := (ix_blk hA hB b hb w w1 w2).2
    rw [pl_bq] at *
    have a2 := ixI_lt ((zB_mem hA hB).mp (List.mem_flatMap.mpr ⟨b, hb, mem_seg.mpr ⟨w1, w2⟩⟩)).1
    have a3 := ixI_nn (rdL fs) z
    omega
end Kb

namespace Kb
open PySem PySem.Spec PyProof.Rows L2 TL
/-! ### rows in the heap -/
def IsRw (H : Hp) (v : V) (x : Rw) : Prop := ∃ t, v = .ref t ∧ H t = some (.tup [.int x.1, .int x.2.1, .int x.2.2.1, .bl x.2.2.2])
def Rws (H : Hp) (p : Addr) (rs : List Rw) : Prop := ∃ vs, H p = some (.lst vs) ∧ Paired (IsRw H) vs rs
theorem IsRw.mono {H H' : Hp} (e : Ex H H') {v : V} {x : Rw} (h : IsRw H v x) : IsRw H' v x := by
  obtain ⟨t, rfl, h⟩ := h
  exact ⟨t, rfl, e _ _ h⟩
theorem IsRw.lset {H : Hp} {p : Addr} {us : List V} {o : HO} (hp : H p = some (.lst us)) {v : V} {x : Rw} (h : IsRw H v x) : IsRw (upd H p o) v x := by
  obtain ⟨t, rfl, h⟩ := h
  refine ⟨t, rfl, ?_⟩
  rw [upd_ne]
  · exact h
  · intro e
    rw [e, hp] at h
    cases h
theorem Pz.get {α β : Type} {R : α → β → Prop} {x : α} : ∀ {xs : List α} {ys : List β} {i : Nat}, Paired R xs ys → xs[i]? = some x → ∃ y, ys[i]? = some y ∧ R x y
  | _, _, i, .nil, e => by simp at e
  | _, _, 0, .cons h t, e => by
    cases e
    exact ⟨_, rfl, h⟩
  | _, _, i + 1, .cons h t, e => Pz.get (i := i) t e
theorem Pz.get2 {α β : Type} {R : α → β → Prop} {y : β} : ∀ {xs : List α} {ys : List β} {i : Nat}, Paired R xs ys → ys[i]? = some y → ∃ x, xs[i]? = some x ∧ R x y
  | _, _, i, .nil, e => by simp at e
  | _, _, 0, .cons h t, e => by
    cases e
    exact ⟨_, rfl, h⟩
  | _, _, i + 1, .cons h t, e => Pz.get2 (i := i) t e
/-- one item more in a list of rows -/
theorem Rws.snoc {H : Hp} {p t : Addr} {vs : List V} {rs : List Rw} {x : Rw} (hp : H p = some (.lst vs)) (h : Paired (IsRw H) vs rs) (nt : t ≠ p) (ht : H t = some (.tup [.int x.1, .int x.2.1, .int x.2.2.1, .bl x.2.2.2])) : Rws (upd H p (.lst (vs ++ [.ref t]))) p (rs ++ [x]) :=
  ⟨_, upd_same, Pz.snoc (Pz.imp (fun _ _ => IsRw.lset hp) h) ⟨t, rfl, by rw [upd_ne nt]; exact ht⟩⟩
theorem pls_app : ∀ (a : List Sc) (s : Sc) (acc : Int), pls (a ++ [s]) acc = pls a acc ++ [(lo s, hi s, acc + psum a, decide (s.1 ≤ s.2))]
  | [], s, acc => by
    show [_] = [_]
    rw [show psum [] = 0 from rfl, Int.add_zero]
  | x :: a, s, acc => by
    show _ :: pls (a ++ [s]) (acc + slen x) = _ :: (pls a (acc + slen x) ++ [_])
    rw [pls_app a s, show psum (x :: a) = slen x + psum a from rfl, Int.add_assoc]
/-- the row that a value of the heap is -/
def kR (H : Hp) : V → Rw
  | .ref t => match H t with
    | some (.tup [.int a, .int b, .int c, .bl u]) => (a, b, c, u)
    | _ => (0, 0, 0, false)
  | _ => (0, 0, 0, false)
theorem kR_of {H : Hp} {v : V} {x : Rw} (h : IsRw H v x) : kR H v = x := by
  obtain ⟨t, rfl, h⟩ := h
  unfold kR
  dsimp only
  rw [h]
theorem kR_map {H : Hp} : ∀ {vs : List V} {rs : List Rw}, Paired (IsRw H) vs rs → vs.map (kR H) = rs
  | _, _, .nil => rfl
  | _, _, .cons h t => by rw [List.map_cons, kR_of h, kR_map t]
theorem kR_pair {H : Hp} : ∀ {vs : List V}, (∀ v ∈ vs, IsRw H v (kR H v)) → Paired (IsRw H) vs (vs.map (kR H))
  | [], _ => .nil
  | v :: vs, h => .cons (h v List.mem_cons_self) (kR_pair fun u hu => h u (List.mem_cons_of_mem _ hu))
theorem kR_mem {H : Hp} {vs : List V} {rs : List Rw} (p : Paired (IsRw H) vs rs) : ∀ v ∈ vs, IsRw H v (kR H v) := fun v hv => by
  obtain ⟨i, hi⟩ := List.getElem?_of_mem hv
  obtain ⟨x, _, h⟩ := Pz.get p hi
  rw [kR_of h]
  exact h
theorem pls_inj {ss : List Sc} (d : ss.Pairwise Apart) {x y : Rw} (hx : x ∈ pls ss 0) (hy : y ∈ pls ss 0) (e : x.1 = y.1) : x = y := by
  have w := pls_apart 0 d
  have a := pls_le hx
  have b := pls_le hy
  obtain ⟨i, hi, rfl⟩ := List.getElem_of_mem hx
  obtain ⟨j, hj, rfl⟩ := List.getElem_of_mem hy
  rw [List.pairwise_iff_getElem] at w
  rcases Nat.lt_trichotomy i j with h | h | h
  · have := w i j hi hj h
    omega
  · subst h
    rfl
  · have := w j i hj hi h
    omega
theorem sort_ok {H : Hp} {us : List V} {ss : List Sc} (d : ss.Pairwise Apart) (pu : Paired (IsRw H) us (pls ss 0)) :
    (∀ x ∈ us, ∃ t, x = V.ref t ∧ H t = some (.tup [.int (kR H x).1, .int (kR H x).2.1, .int (kR H x).2.2.1, .bl (kR H x).2.2.2])) ∧ (∀ x ∈ us, ∀ y ∈ us, (kR H x).1 = (kR H y).1 → kR H x = kR H y) ∧
      ∀ ys, ys.Perm us → ys.Pairwise (fun x y => (kR H x).1 ≤ (kR H y).1) → Srt ss (ys.map (kR H)) ∧ Paired (IsRw H) ys (ys.map (kR H)) := by
  have m : ∀ x ∈ us, kR H x ∈ pls ss 0 := fun x hx => by
    rw [← kR_map pu]
    exact List.mem_map_of_mem hx
  refine ⟨kR_mem pu, fun x hx y hy e => pls_inj d (m x hx) (m y hy) e, fun ys hp ho => ⟨⟨d, ?_, ?_⟩, kR_pair fun v hv => kR_mem pu v (hp.mem_iff.mp hv)⟩⟩
  · rw [← kR_map pu]
    exact hp.map _
  · exact List.pairwise_map.mpr ho
def rwB (b : Rw × Rw) : Rw := (bp b, bq b, bn b, bg b)
def srB (P : List (Rw × Rw)) (b : Rw × Rw) : Rw := (bq b, bn b, if bg b = true then baseB P b else baseB P b + bn b - 1, bg b)
theorem in_sum (b : Rw × Rw) : ∀ P : List (Rw × Rw), ((P.filter fun c => decide (bp c < bp b ∧ bq c < bq b)).map bn).sum = sumI (inB b) P
  | [] => rfl
  | c :: P => by
    show _ = inB b c + sumI (inB b) P
    rw [← in_sum b P]
    unfold inB
    by_cases h : bp c < bp b ∧ bq c < bq b
    · rw [if_pos h]
      simp [h]
    · rw [if_neg h]
      simp [h]
theorem filtA {α : Type} {ps : List α} {i : Nat} {p : α} (f : α → Bool) (h : ps[i]? = some p) : (ps.take (i + 1)).filter f = (ps.take i).filter f ++ if f p = true then [p] else [] := by
  rw [List.take_add_one, h, List.filter_append]
  show _ ++ List.filter f [p] = _
  rw [List.filter_cons]
  rfl
theorem filtA_le {α : Type} {ps : List α} {i : Nat} (f : α → Bool) : ((ps.take i).filter f).length ≤ i := by
  have z := List.length_filter_le f (ps.take i)
  rw [List.length_take] at z
  omega
/-! ### promises -/
def spPlaced : Sp := fun vs H Q _ => ∃ (a : Addr) (ss : List Sc), vs = [.ref a] ∧ Scs H a ss ∧ ss.length ≤ 2 ^ 18 ∧ ∀ p H', H p = none → Ex H H' → Rws H' p (pls ss 0) → Q (.ref p) H'
def spStartOf : Sp := fun vs H Q _ => ∃ (v : V) (x : Rw) (l h : Int), vs = [v, .int l, .int h] ∧ IsRw H v x ∧ RetV (.int (stPl x l h)) H Q
structure Two (H : Hp) (a c : Addr) (ls fs : List Sc) : Prop where
  l : Scs H a ls
  f : Scs H c fs
  l18 : ls.length ≤ 2 ^ 18
  f18 : fs.length ≤ 2 ^ 18
  la : ls.Pairwise Apart
  fa : fs.Pairwise Apart
def spShared : Sp := fun vs H Q _ => ∃ (a c : Addr) (ls fs : List Sc), vs = [.ref a, .ref c] ∧ Two H a c ls fs ∧ ∀ p H' A B, H p = none → Ex H H' → Srt ls A → Srt fs B → Rws H' p ((shr A B).map rwB) → Q (.ref p) H'
def spRows : Sp := fun vs H Q _ => ∃ (a c : Addr) (ls fs : List Sc), vs = [.ref a, .ref c] ∧ Two H a c ls fs ∧ ∀ p H' A B, H p = none → Ex H H' → Srt ls A → Srt fs B → Rws H' p ((shr A B).map (srB (shr A B))) → Q (.ref p) H'
def spPieces : Sp := fun vs H Q _ => ∃ (a c : Addr) (ls fs : List Sc), vs = [.ref a, .ref c] ∧ Two H a c ls fs ∧ ∀ p H' A B, H p = none → Ex H H' → Srt ls A → Srt fs B → Pcs H' p ((shr A B).map (pcB (shr A B))) → Q (.ref p) H'
theorem shr_few {ls fs : List Sc} {A B : List Rw} (hA : Srt ls A) (hB : Srt fs B) : (shr A B).length ≤ ls.length + fs.length := by
  have := shr_len _ (A := A) (B := B) rfl
  have a := hA.perm.length_eq
  have b := hB.perm.length_eq
  rw [pls_len] at a b
  omega
theorem Two.mono {H H' : Hp} (e : Ex H H') {a c : Addr} {ls fs : List Sc} (h : Two H a c ls fs) : Two H' a c ls fs := ⟨h.l.mono e, h.f.mono e, h.l18, h.f18, h.la, h.fa⟩
end Kb

namespace Kb
open PySem PySem.Spec PyProof.Rows L2 TL
/-! ### between -/
theorem two_parts {α : Type} (f : α → Bool) : ∀ l : List α, (l.filter f).length + (l.filter fun z => !f z).length = l.length
  | [] => rfl
  | x :: l => by
    have ih := two_parts f l
    cases h : f x
    · simp [h]
      omega
    · simp [h]
      omega
theorem pcs_pok {ls fs : List Sc} {A B : List Rw} (hA : Srt ls A) (hB : Srt fs B) : ∀ p ∈ (shr A B).map (pcB (shr A B)), Pok p ∧ p.2.1 ≤ psum ls + psum fs ∧ p.2.2 ≤ psum ls + psum fs := fun p hp => by
  obtain ⟨b, hb, rfl⟩ := List.mem_map.mp hp
  obtain ⟨a, c, d⟩ := pcB_ok hA hB b hb
  rw [rdL_len, rdL_len] at c d
  refine ⟨a, c, ?_⟩
  have z := a.1
  have nb := (shr_mem _ rfl b hb).2.2
  have e : bn b = bhi b - blo b + 1 := rfl
  unfold pcB
  split
  · dsimp only
    omega
  · exact d
theorem stH_bd (L F : List Int) (d : Int) : 0 ≤ stH L F d ∧ stH L F d ≤ F.length := by
  unfold stH hI
  refine ⟨Int.natCast_nonneg _, ?_⟩
  have a := List.length_filter_le (fun z => decide (dI (ixI L) (ixI F) (F.filter fun z => decide (z ∈ L)) z = d)) (F.filter fun z => decide (z ∈ L))
  have b := List.length_filter_le (fun z => decide (z ∈ L)) F
  omega
end Kb

namespace Kb
open PySem PySem.Spec PyProof.Rows L2
/-! ### sorted(d), d a dict of ints -/
section
variable {P : Program} {w : World} {A : Around} {E : Value → Shared → Prop} {s : Shared} {a b : Addr} {n : Nat} {T : String} {Pv : Nat → Value → Prop} {OK : Heap → Prop}
end
section
variable {X : Cx}
end
end Kb

namespace Kb
open PySem PySem.Spec PyProof.Rows L2 TL
/-! ### the words of P17 -/
structure Dst (m : Int) (l : List Int) : Prop where
  nd : l.Nodup
  bd : ∀ z ∈ l, 0 ≤ z ∧ z < m
/-- what is drawn so far, and what is left -/
structure Mix (m : Nat) (sp fl : List Int) : Prop where
  nd : sp.Nodup
  bd : ∀ z ∈ sp, 0 ≤ z ∧ z < m
  fd : fl.Nodup
  fb : ∀ z ∈ fl, ∃ w : Int, z = 3 * w ∧ 0 ≤ w ∧ w < m ∧ w ∉ sp
  len : fl.length + sp.length = m
theorem rdL_cons (s : Sc) (r : List Sc) : rdL (s :: r) = rd s ++ rdL r := rfl
end Kb

namespace Kb
open PySem PySem.Spec PyProof.Rows L2
/-! ### len(set(xs)), xs any list of ints -/
end Kb

namespace Kb
open PySem PySem.Spec PyProof.Rows L2 TL
def pdLF (l r : List Sc) : PyData := .list [pdL l, pdL r]
end Kb
namespace Kb
open PySem PySem.Spec PyProof.Rows L2 TL
/-- two lists of scans in a tuple, that tell of these addresses -/
def IsPrS (H : Hp) (E O : List Int) (v : V) : Prop := ∃ (t l r : Addr) (ls fs : List Sc), v = .ref t ∧ H t = some (.tup [.ref l, .ref r]) ∧ Scs H l ls ∧ Scs H r fs ∧ rdL ls = E ∧ rdL fs = O ∧ ls.length ≤ 120 ∧ fs.length ≤ 120
end Kb

namespace Kb
open PySem PySem.Spec PyProof.Rows L2 TL
def IsPrI (H : Hp) (v : V) : Prop := ∃ (t l r : Addr) (E O : List Int), v = .ref t ∧ H t = some (.tup [.ref l, .ref r]) ∧ H l = some (.lst (E.map V.int)) ∧ H r = some (.lst (O.map V.int)) ∧ Dst 16 E ∧ Dst 16 O
end Kb
namespace Kb
open PySem PySem.Spec PyProof.Rows L2 TL
end Kb

namespace Kb
open PySem PySem.Spec PyProof.Rows L2 TL
/-! ### how often each distance occurs in what is read -/
def dsO : List Int → List Int → List (Option Int)
  | _, [] => []
  | p, y :: ys => farO p y :: dsO (p ++ [y]) ys
theorem dsO_app : ∀ (p a b : List Int), dsO p (a ++ b) = dsO p a ++ dsO (p ++ a) b
  | p, [], b => by
    rw [List.append_nil]
    rfl
  | p, y :: a, b => by
    show farO p y :: dsO (p ++ [y]) (a ++ b) = farO p y :: (dsO (p ++ [y]) a ++ dsO (p ++ y :: a) b)
    rw [dsO_app (p ++ [y]) a b, List.append_assoc]
    rfl
def cO (d : Int) (l : List (Option Int)) : Int := ((l.filter fun o => decide (o = some d)).length : Int)
theorem cO_app (d : Int) (a b : List (Option Int)) : cO d (a ++ b) = cO d a + cO d b := by
  unfold cO
  rw [List.filter_append, List.length_append, Int.natCast_add]
theorem cO_one (d : Int) (o : Option Int) : cO d [o] = if o = some d then 1 else 0 := by
  unfold cO
  by_cases c : o = some d
  · simp [c]
  · simp [c]
def DH (xs : List Int) (d : Int) : Int := cO d (dsO [] xs)
theorem ixo_mid : ∀ {a b : List Int} {y : Int}, y ∉ a → ixo (a ++ y :: b) y = some a.length
  | [], b, y, _ => by
    show (if y = y then some 0 else _) = _
    rw [if_pos rfl]
    rfl
  | x :: a, b, y, h => by
    have hx : ¬ x = y := fun e => h (e ▸ List.mem_cons_self)
    show (if x = y then some 0 else (ixo (a ++ y :: b) y).map (· + 1)) = _
    rw [if_neg hx, ixo_mid fun m => h (List.mem_cons_of_mem _ m)]
    rfl
theorem sameLen {a b : List Int} (na : a.Nodup) (nb : b.Nodup) (h : ∀ z, z ∈ a ↔ z ∈ b) : a.length = b.length :=
  ((List.perm_ext_iff_of_nodup na nb).mpr h).length_eq
theorem lst_len (xs : List Int) : (lstF xs).length = (lstR xs).length := sameLen (lstF_nodup xs) (lstR_nodup xs) fun z => mem_lstF.trans mem_lstR.symm
theorem farO_in {xs ys : List Int} {y : Int} (h : y ∈ ys) : farO (xs ++ ys) y = farO ys y := by
  obtain ⟨a, b, e⟩ := List.append_of_mem (mem_lstF.mpr h)
  have na : y ∉ a := by
    have := lstF_nodup ys
    rw [e] at this
    exact fun m => (List.nodup_append.mp this).2.2 y m y List.mem_cons_self rfl
  unfold farO
  rw [lstF_app, e, List.append_assoc]
  rw [show a ++ ((y :: b) ++ (lstF xs).filter fun z => !decide (z ∈ ys)) = a ++ y :: (b ++ (lstF xs).filter fun z => !decide (z ∈ ys)) from rfl, ixo_mid na, ixo_mid na]
theorem farO_out {p : List Int} {y : Int} (h : y ∉ p) : farO p y = none := by
  unfold farO
  rw [ixo_none fun m => h (mem_lstF.mp m)]
  rfl
theorem lstR_snoc (ys : List Int) (y : Int) : lstR (ys ++ [y]) = lstR ys ++ if y ∈ ys then [] else [y] := by
  rw [lstR_app]
  congr 1
  show [y].filter _ = _
  by_cases c : y ∈ ys <;> simp [c]
theorem ixI_snoc {F : List Int} {y z : Int} (h : z ∈ F) : ixI (F ++ [y]) z = ixI F z := by
  obtain ⟨a, b, rfl⟩ := List.append_of_mem h
  by_cases c : z ∈ a
  · obtain ⟨j, h1, h2, h3⟩ := ixo_some c
    have go : ∀ b : List Int, ixo (a ++ b) z = some j := by
      intro b
      have m : z ∈ a ++ b := List.mem_append_left _ c
      obtain ⟨k, k1, k2, k3⟩ := ixo_some m
      rw [k1]
      have lj := (List.getElem?_eq_some_iff.mp h2).1
      by_cases ck : k < a.length
      · rw [List.getElem?_append_left ck] at k2
        by_cases g : k < j
        · exact (h3 k g k2).elim
        · by_cases g2 : j < k
          · exact (k3 j g2 (by rw [List.getElem?_append_left lj]; exact h2)).elim
          · congr 1
            omega
      · exact (k3 j (by omega) (by rw [List.getElem?_append_left lj]; exact h2)).elim
    unfold ixI
    rw [List.append_assoc, go, go]
  · unfold ixI
    rw [List.append_assoc]
    rw [show a ++ ((z :: b) ++ [y]) = a ++ z :: (b ++ [y]) from rfl, ixo_mid c, ixo_mid c]
theorem ixI_mid {a b : List Int} {y : Int} (h : y ∉ a) : ixI (a ++ y :: b) y = (a.length : Int) := by
  unfold ixI
  rw [ixo_mid h]
theorem before_mid {a b : List Int} {y w : Int} (nd : (a ++ y :: b).Nodup) (hw : w ∈ a ++ y :: b) : ixI (a ++ y :: b) w < (a.length : Int) ↔ w ∈ a := by
  obtain ⟨j, h1, h2, h3⟩ := ixo_some hw
  have e := ixI_at nd h2
  rw [e]
  have lj := (List.getElem?_eq_some_iff.mp h2).1
  constructor
  · intro h
    rw [List.getElem?_append_left (by omega)] at h2
    exact List.mem_of_getElem? h2
  · intro m
    obtain ⟨k, hk⟩ := List.mem_iff_getElem?.mp m
    have lk := (List.getElem?_eq_some_iff.mp hk).1
    have hk' : (a ++ y :: b)[k]? = some w := by rw [List.getElem?_append_left lk]; exact hk
    have := nodup_ix nd h2 hk'
    omega
/-- one more number at the end of the second list -/
theorem stH_snoc {L F : List Int} (nL : L.Nodup) (nF : (F ++ [y]).Nodup) (d : Int) : stH L (F ++ [y]) d = stH L F d + if y ∈ L ∧ 1 + ixI L y + (F.length : Int) - ((F.filter fun w => decide (w ∈ L ∧ ixI L w < ixI L y)).length : Int) = d then 1 else 0 := by
  have yF : y ∉ F := fun m => (List.nodup_append.mp nF).2.2 y m y List.mem_cons_self rfl
  have nF' : F.Nodup := (List.nodup_append.mp nF).1
  have iy : ixI (F ++ [y]) y = (F.length : Int) := ixI_mid yF
  have lt : ∀ w ∈ F, ixI (F ++ [y]) w < (F.length : Int) := fun w hw => by
    rw [ixI_snoc hw]
    exact ixI_lt hw
  have eZ : (F ++ [y]).filter (fun z => decide (z ∈ L)) = F.filter (fun z => decide (z ∈ L)) ++ if y ∈ L then [y] else [] := by
    rw [List.filter_append]
    congr 1
    by_cases c : y ∈ L <;> simp [c]
  have old : ∀ z ∈ F.filter (fun z => decide (z ∈ L)), dI (ixI L) (ixI (F ++ [y])) ((F ++ [y]).filter fun z => decide (z ∈ L)) z = dI (ixI L) (ixI F) (F.filter fun z => decide (z ∈ L)) z := fun z hz => by
    have zF := (List.mem_filter.mp hz).1
    unfold dI cI
    rw [ixI_snoc zF, eZ, List.filter_append]
    have e2 : (if y ∈ L then [y] else []).filter (fun w => decide (ixI L w < ixI L z ∧ ixI (F ++ [y]) w < ixI F z)) = [] := by
      refine List.filter_eq_nil_iff.mpr fun w hw => ?_
      have : w = y := by
        split at hw
        · exact List.mem_singleton.mp hw
        · cases hw
      subst this
      rw [decide_eq_true_eq, iy]
      have := ixI_lt zF
      omega
    rw [e2, List.append_nil]
    congr 3
    refine List.filter_congr fun w hw => ?_
    rw [ixI_snoc (List.mem_filter.mp hw).1]
  unfold stH hI
  have e1 : (((F ++ [y]).filter fun z => decide (z ∈ L)).filter fun z => decide (dI (ixI L) (ixI (F ++ [y])) ((F ++ [y]).filter fun z => decide (z ∈ L)) z = d))
      = ((F.filter fun z => decide (z ∈ L)).filter fun z => decide (dI (ixI L) (ixI F) (F.filter fun z => decide (z ∈ L)) z = d)) ++ ((if y ∈ L then [y] else []).filter fun z => decide (dI (ixI L) (ixI (F ++ [y])) ((F ++ [y]).filter fun z => decide (z ∈ L)) z = d)) := by
    conv => lhs; arg 2; rw [eZ]
    rw [List.filter_append]
    congr 1
    exact List.filter_congr fun z hz => by rw [old z hz]
  rw [e1, List.length_append, Int.natCast_add]
  congr 1
  by_cases c : y ∈ L
  · rw [if_pos c]
    have ed : dI (ixI L) (ixI (F ++ [y])) ((F ++ [y]).filter fun z => decide (z ∈ L)) y = 1 + ixI L y + (F.length : Int) - ((F.filter fun w => decide (w ∈ L ∧ ixI L w < ixI L y)).length : Int) := by
      unfold dI cI
      rw [iy, eZ, if_pos c, List.filter_append]
      have e2 : [y].filter (fun w => decide (ixI L w < ixI L y ∧ ixI (F ++ [y]) w < (F.length : Int))) = [] := by
        refine List.filter_eq_nil_iff.mpr fun w hw => ?_
        rw [List.mem_singleton.mp hw, decide_eq_true_eq]
        omega
      rw [e2, List.append_nil, List.filter_filter]
      congr 3
      refine List.filter_congr fun w hw => ?_
      have := lt w hw
      by_cases c1 : w ∈ L <;> by_cases c2 : ixI L w < ixI L y <;> simp [c1, c2, this]
    by_cases g : 1 + ixI L y + (F.length : Int) - ((F.filter fun w => decide (w ∈ L ∧ ixI L w < ixI L y)).length : Int) = d
    · rw [if_pos ⟨c, g⟩]
      show (([y].filter _).length : Int) = 1
      rw [List.filter_cons, if_pos (decide_eq_true (ed.trans g))]
      rfl
    · rw [if_neg fun h => g h.2]
      show (([y].filter _).length : Int) = 0
      rw [List.filter_cons, if_neg (by rw [decide_eq_true_eq]; exact fun h => g (ed.symm.trans h))]
      rfl
  · rw [if_neg c, if_neg fun h => c h.1]
    rfl
theorem farO_new {xs ys : List Int} {y : Int} (hx : y ∈ xs) (hy : y ∉ ys) : farO (xs ++ ys) y = some (1 + ixI (lstF xs) y + ((lstR ys).length : Int) - (((lstR ys).filter fun w => decide (w ∈ lstF xs ∧ ixI (lstF xs) w < ixI (lstF xs) y)).length : Int)) := by
  obtain ⟨a, b, e⟩ := List.append_of_mem (mem_lstF.mpr hx)
  have nd := lstF_nodup xs
  rw [e] at nd
  have na : y ∉ a := fun m => (List.nodup_append.mp nd).2.2 y m y List.mem_cons_self rfl
  have nd1 : a.Nodup := (List.nodup_append.mp nd).1
  unfold farO
  rw [lstF_app, e, ixI_mid na]
  have ef : (a ++ y :: b).filter (fun z => !decide (z ∈ ys)) = (a.filter fun z => !decide (z ∈ ys)) ++ y :: (b.filter fun z => !decide (z ∈ ys)) := by
    rw [List.filter_append, List.filter_cons, if_pos (by simp [hy])]
  rw [ef, ← List.append_assoc, ixo_mid]
  · show some ((((lstF ys) ++ a.filter fun z => !decide (z ∈ ys)).length : Int) + 1) = _
    congr 1
    rw [List.length_append, lst_len]
    have tp := two_parts (fun z => decide (z ∈ ys)) a
    have el : (a.filter fun z => decide (z ∈ ys)).length = ((lstR ys).filter fun w => decide (w ∈ a ++ y :: b ∧ ixI (a ++ y :: b) w < (a.length : Int))).length := by
      refine sameLen (nd1.filter _) ((lstR_nodup ys).filter _) fun z => ?_
      rw [List.mem_filter, List.mem_filter, decide_eq_true_eq, decide_eq_true_eq, mem_lstR]
      constructor
      · rintro ⟨h1, h2⟩
        have m : z ∈ a ++ y :: b := List.mem_append_left _ h1
        exact ⟨h2, m, (before_mid nd m).mpr h1⟩
      · rintro ⟨h1, m, h2⟩
        exact ⟨(before_mid nd m).mp h2, h1⟩
    omega
  · intro m
    rcases List.mem_append.mp m with m | m
    · exact hy (mem_lstF.mp m)
    · exact na (List.mem_filter.mp m).1
theorem cO_behind (d : Int) (xs : List Int) : ∀ (n : Nat) (ys : List Int), ys.length = n → cO d (dsO xs ys) = cO d (dsO [] ys) + stH (lstF xs) (lstR ys) d
  | 0, ys, h => by
    have : ys = [] := List.length_eq_zero_iff.mp h
    subst this
    show (0 : Int) = 0 + stH (lstF xs) [] d
    rfl
  | n + 1, ys, h => by
    rcases eq_nil_or_snoc ys with rfl | ⟨ys, y, rfl⟩
    · cases h
    rw [List.length_append, List.length_singleton] at h
    have ih := cO_behind d xs n ys (by omega)
    rw [dsO_app, dsO_app, cO_app, cO_app, ih, lstR_snoc]
    show _ + cO d [farO (xs ++ ys) y] = _ + cO d [farO ([] ++ ys) y] + _
    rw [List.nil_append, cO_one, cO_one]
    by_cases c : y ∈ ys
    · rw [farO_in c, if_pos c, List.append_nil]
      omega
    · rw [if_neg c, farO_out c, if_neg (show ¬ (none : Option Int) = some d from by intro z; cases z)]
      have nF : (lstR ys ++ [y]).Nodup := by
        have := lstR_nodup (ys ++ [y])
        rwa [lstR_snoc, if_neg c] at this
      rw [stH_snoc (lstF_nodup xs) nF]
      by_cases cx : y ∈ xs
      · rw [farO_new cx c]
        by_cases g : 1 + ixI (lstF xs) y + ((lstR ys).length : Int) - (((lstR ys).filter fun w => decide (w ∈ lstF xs ∧ ixI (lstF xs) w < ixI (lstF xs) y)).length : Int) = d
        · rw [if_pos (congrArg some g), if_pos ⟨mem_lstF.mpr cx, g⟩]
          omega
        · rw [if_neg fun e => g (Option.some.inj e), if_neg fun e => g e.2]
          omega
      · have nm : y ∉ xs ++ ys := fun m => (List.mem_append.mp m).elim cx c
        rw [farO_out nm, if_neg (show ¬ (none : Option Int) = some d from by intro z; cases z), if_neg fun e => cx (mem_lstF.mp e.1)]
        omega
theorem DH_app (xs ys : List Int) (d : Int) : DH (xs ++ ys) d = DH xs d + DH ys d + stH (lstF xs) (lstR ys) d := by
  unfold DH
  rw [dsO_app, cO_app, List.nil_append, cO_behind d xs _ ys rfl]
  omega
theorem lstR_rep (b : List Int) : ∀ n : Nat, lstR (List.replicate (n + 1) b).flatten = lstR b
  | 0 => by
    show lstR (b ++ []) = _
    rw [List.append_nil]
  | n + 1 => by
    rw [List.replicate_succ, List.flatten_cons, lstR_app]
    have : (lstR (List.replicate (n + 1) b).flatten).filter (fun z => !decide (z ∈ b)) = [] := by
      refine List.filter_eq_nil_iff.mpr fun z hz => ?_
      rw [lstR_rep b n] at hz
      have := mem_lstR.mp hz
      simp [this]
    rw [this, List.append_nil]
theorem DH_rep (b : List Int) (d : Int) : ∀ n : Nat, DH (List.replicate (n + 1) b).flatten d = ((n : Int) + 1) * DH b d + (n : Int) * stH (lstF b) (lstR b) d
  | 0 => by
    show DH (b ++ []) d = _
    rw [List.append_nil]
    simp
  | n + 1 => by
    rw [List.replicate_succ', List.flatten_append]
    show DH (_ ++ (b ++ [])) d = _
    rw [List.append_nil, DH_app, DH_rep b d n, lstF_rep]
    rw [show ((n + 1 : Nat) : Int) = (n : Int) + 1 by omega, Int.add_mul, Int.add_mul, Int.add_mul, Int.add_mul, Int.one_mul, Int.one_mul]
    omega
theorem DH_nodup : ∀ (n : Nat) {xs : List Int}, xs.length = n → xs.Nodup → ∀ d, DH xs d = 0
  | 0, xs, h, _, d => by
    have : xs = [] := List.length_eq_zero_iff.mp h
    subst this
    rfl
  | n + 1, xs, h, nd, d => by
    rcases eq_nil_or_snoc xs with rfl | ⟨ys, y, rfl⟩
    · cases h
    rw [List.length_append, List.length_singleton] at h
    obtain ⟨n1, _, n3⟩ := List.nodup_append.mp nd
    have yn : y ∉ ys := fun m => n3 y m y List.mem_cons_self rfl
    have ih := DH_nodup n (show ys.length = n by omega) n1 d
    unfold DH at ih ⊢
    rw [dsO_app, cO_app, ih]
    show 0 + cO d [farO ([] ++ ys) y] = 0
    rw [List.nil_append, farO_out yn]
    rfl
/-! ### scans between cuts -/
def Al (A : List Int) (ss : List Sc) : Prop := ∀ s ∈ ss, lo s ∈ A ∧ hi s + 1 ∈ A
def cuts (ss : List Sc) : List Int := ss.flatMap fun s => [lo s, hi s + 1]
end Kb

namespace Kb
open PySem PySem.Spec PyProof.Rows L2 TL
theorem firsts_app (X Y : List Int) : ahead (tdy (lstR X)) (tdy (lstR Y)) = tdy (lstR (X ++ Y)) := by
  rw [ahead_tdy (lstR_nodup _) (lstR_nodup _), lstR_app]
  congr 2
  refine List.filter_congr fun z _ => ?_
  congr 1
  exact decide_eq_decide.mpr mem_lstR
theorem lasts_app (X Y : List Int) : ahead (tdy (lstF Y)) (tdy (lstF X)) = tdy (lstF (X ++ Y)) := by
  rw [ahead_tdy (lstF_nodup _) (lstF_nodup _), lstF_app]
  congr 2
  refine List.filter_congr fun z _ => ?_
  congr 1
  exact decide_eq_decide.mpr mem_lstF
theorem psum_tdy {xs : List Int} (h : xs.Nodup) : psum (tdy xs) = (xs.length : Int) := by
  rw [← rdL_len, rdL_tdy h]
theorem DH_bd (xs : List Int) (d : Int) : 0 ≤ DH xs d ∧ DH xs d ≤ xs.length := by
  unfold DH cO
  have l : ∀ (p ys : List Int), (dsO p ys).length = ys.length := by
    intro p ys
    induction ys generalizing p with
    | nil => rfl
    | cons y ys ih =>
      show (dsO (p ++ [y]) ys).length + 1 = ys.length + 1
      rw [ih]
  have := List.length_filter_le (fun o => decide (o = some d)) (dsO [] xs)
  rw [l] at this
  omega
theorem at_mem {ps : List Pc} (ok : ∀ p ∈ ps, Pok p) {p : Pc} (hp : p ∈ ps) : p.2.2 ≤ atP ps p.1 := by
  obtain ⟨a, b, rfl⟩ := List.append_of_mem hp
  have pa := (atP_le (ps := a) (fun q hq => ok q (List.mem_append_left _ hq)) p.1).1
  have pb := (atP_le (ps := b) (fun q hq => ok q (List.mem_append_right _ (List.mem_cons_of_mem _ hq))) p.1).1
  have k := ok p hp
  rw [atP_app, atP_cons]
  have : at1 p p.1 = p.2.2 := if_pos ⟨Int.le_refl _, k.2.1⟩
  omega
/-! ### three: first reads, last reads, pieces of distances -/
structure Tp (Z : Int) (X : List Int) (ps : List Pc) : Prop where
  ok : ∀ p ∈ ps, Pok p ∧ p.2.1 ≤ 2 * Z
  at_ : ∀ d, atP ps d = DH X d
theorem Tp.pok {Z : Int} {X : List Int} {ps : List Pc} (h : Tp Z X ps) : ∀ p ∈ ps, Pok p := fun p hp => (h.ok p hp).1
theorem Tp.tm {Z : Int} {X : List Int} {ps : List Pc} (h : Tp Z X ps) {p : Pc} (hp : p ∈ ps) : p.2.2 ≤ X.length := by
  have a := at_mem h.pok hp
  rw [h.at_] at a
  have := (DH_bd X p.1).2
  omega
def IsTr (H : Hp) (v : V) (X : List Int) (ps : List Pc) : Prop := ∃ t f l c, v = .ref t ∧ H t = some (.tup [.ref f, .ref l, .ref c]) ∧ Scs H f (tdy (lstR X)) ∧ Scs H l (tdy (lstF X)) ∧ Pcs H c ps
theorem IsTr.mono {H H' : Hp} (e : Ex H H') {v : V} {X : List Int} {ps : List Pc} (h : IsTr H v X ps) : IsTr H' v X ps := by
  obtain ⟨t, f, l, c, e1, h1, h2, h3, h4⟩ := h
  exact ⟨t, f, l, c, e1, e _ _ h1, h2.mono e, h3.mono e, h4.mono e⟩
/-- how many scans the tidy lists have, and how many addresses there are -/
structure Fs (M : Nat) (Z : Int) (X : List Int) : Prop where
  f : (tdy (lstR X)).length ≤ M
  l : (tdy (lstF X)).length ≤ M
  z : ((lstR X).length : Int) ≤ Z
theorem straight_tp {X Y : List Int} {A B : List Rw} {M N : Nat} {Z : Int} (fx : Fs M Z X) (fy : Fs N Z Y) (hA : Srt (tdy (lstF X)) A) (hB : Srt (tdy (lstR Y)) B) : (∀ p ∈ (shr A B).map (pcB (shr A B)), Pok p ∧ p.2.1 ≤ 2 * Z) ∧ (∀ d, atP ((shr A B).map (pcB (shr A B))) d = stH (lstF X) (lstR Y) d) ∧ ((shr A B).map (pcB (shr A B))).length ≤ M + N := by
  refine ⟨fun p hp => ?_, fun d => ?_, ?_⟩
  · have h := pcs_pok hA hB p hp
    rw [psum_tdy (lstF_nodup _), psum_tdy (lstR_nodup _), lst_len] at h
    have := fx.z
    have := fy.z
    exact ⟨h.1, by omega⟩
  · rw [straight_hist hA hB, rdL_tdy (lstF_nodup _), rdL_tdy (lstR_nodup _)]
  · rw [List.length_map]
    have := shr_few hA hB
    have := fx.l
    have := fy.f
    omega
theorem mulP_at (ps : List Pc) (n : Int) (d : Int) : atP (mulP ps n) d = n * atP ps d := by
  rw [atP_mul, Int.mul_comm]
theorem mulP_ok {ps : List Pc} {n Z : Int} (n1 : 1 ≤ n) (h : ∀ p ∈ ps, Pok p ∧ p.2.1 ≤ Z) : ∀ p ∈ mulP ps n, Pok p ∧ p.2.1 ≤ Z := fun p hp => by
  obtain ⟨q, hq, rfl⟩ := List.mem_map.mp hp
  obtain ⟨⟨a, b, c⟩, d⟩ := h q hq
  have := Int.mul_le_mul c n1 (by decide) (by omega)
  exact ⟨⟨a, b, by show 1 ≤ q.2.2 * n; omega⟩, d⟩
theorem Tp.app {Z : Int} {X Y : List Int} {ps qs ss : List Pc} (a : Tp Z X ps) (b : Tp Z Y qs) (s1 : ∀ p ∈ ss, Pok p ∧ p.2.1 ≤ 2 * Z) (s2 : ∀ d, atP ss d = stH (lstF X) (lstR Y) d) : Tp Z (X ++ Y) (ps ++ qs ++ ss) := by
  refine ⟨fun p hp => ?_, fun d => ?_⟩
  · rcases List.mem_append.mp hp with hp | hp
    · rcases List.mem_append.mp hp with hp | hp
      · exact a.ok p hp
      · exact b.ok p hp
    · exact s1 p hp
  · rw [atP_app, atP_app, a.at_, b.at_, s2, DH_app]
theorem Tp.nil (Z : Int) : Tp Z [] [] := ⟨fun p hp => (by cases hp), fun d => rfl⟩
theorem Tp.one (Z : Int) {X : List Int} (nd : X.Nodup) : Tp Z X [] := ⟨fun p hp => (by cases hp), fun d => (DH_nodup _ rfl nd d).symm⟩
/-- programs all of whose beginnings are so -/
inductive Fw (p : List Int → Prop) : Pg → Prop where
  | mk {g : Pg} (h1 : ∀ a b, g = Pg.app a b → p a.rd) (h2 : ∀ a n x r, g = Pg.app a (.rp n x r) → Fw p x) (h3 : ∀ a s r, g = Pg.app a (.sc s r) → p (rd s)) : Fw p g
/-- all parts, those of repeats too, and one more for each repeat -/
def Pg.nds : Pg → Nat
  | .nil => 0
  | .sc _ r => r.nds + 1
  | .rp _ b r => b.nds + r.nds + 2
theorem nds_app : ∀ a b : Pg, (a.app b).nds = a.nds + b.nds
  | .nil, b => (Nat.zero_add _).symm
  | .sc s r, b => by
    show (r.app b).nds + 1 = r.nds + 1 + b.nds
    rw [nds_app r b]
    omega
  | .rp n x r, b => by
    show x.nds + (r.app b).nds + 2 = x.nds + r.nds + 2 + b.nds
    rw [nds_app r b]
    omega
/-! ### promises -/
def spMulT : Sp := fun vs H Q _ => ∃ (a : Addr) (ps : List Pc) (n : Int), vs = [.ref a, .int n] ∧ Pcs H a ps ∧ ps.length ≤ 2 ^ 18 ∧ (∀ p ∈ ps, 1 ≤ p.2.2 ∧ p.2.2 ≤ 10 ^ 300) ∧ 0 ≤ n ∧ n ≤ 10 ^ 100 ∧ ∀ p H', H p = none → Ex H H' → Pcs H' p (mulP ps n) → Q (.ref p) H'
def spBehind : Sp := fun vs H Q _ => ∃ (v u : V) (X Y : List Int) (ps qs : List Pc) (M N : Nat) (Z : Int), vs = [v, u] ∧ IsTr H v X ps ∧ IsTr H u Y qs ∧ Tp Z X ps ∧ Tp Z Y qs ∧ Fs M Z X ∧ Fs N Z Y ∧ M ≤ 1000 ∧ N ≤ 1000 ∧ ps.length + qs.length ≤ 2 ^ 18 ∧
  ∀ w H' rs, Ex H H' → IsTr H' w (X ++ Y) rs → Tp Z (X ++ Y) rs → rs.length ≤ ps.length + qs.length + (M + N) → Q w H'
def spTimes3 : Sp := fun vs H Q _ => ∃ (v : V) (X : List Int) (ps : List Pc) (n : Int) (M : Nat) (Z : Int), vs = [v, .int n] ∧ IsTr H v X ps ∧ Tp Z X ps ∧ Fs M Z X ∧ M ≤ 1000 ∧ ps.length ≤ 2 ^ 17 ∧ (X.length : Int) ≤ 10 ^ 300 ∧ 2 ≤ n ∧ n ≤ 10 ^ 100 ∧
  ∀ w H' rs, Ex H H' → IsTr H' w (List.replicate n.toNat X).flatten rs → Tp Z (List.replicate n.toNat X).flatten rs → rs.length ≤ ps.length + 2 * M → Q w H'
def spThree (d : Nat) : Sp := fun vs H Q _ => ∃ (v : V) (g : Pg) (Bd : Int) (M : Nat) (Z : Int), vs = [v] ∧ IsPg H v g ∧ g.dep < d ∧ g.Ok Bd ∧ Bd ≤ 10 ^ 100 ∧ Fw (Fs M Z) g ∧ g.cnt ≤ 10 ^ 300 ∧ M ≤ 1000 ∧ 2 * M * g.nds ≤ 2 ^ 17 ∧
  ∀ w H' rs, Ex H H' → IsTr H' w g.rd rs → Tp Z g.rd rs → rs.length ≤ 2 * M * g.nds → Q w H'
theorem Tp.rep {Z : Int} {X : List Int} {ps ss : List Pc} {n : Int} (h : Tp Z X ps) (n2 : 2 ≤ n) (s1 : ∀ p ∈ ss, Pok p ∧ p.2.1 ≤ 2 * Z) (s2 : ∀ d, atP ss d = stH (lstF X) (lstR X) d) : Tp Z (List.replicate n.toNat X).flatten (mulP ps n ++ mulP ss (n - 1)) := by
  obtain ⟨k, ek⟩ : ∃ k : Nat, n.toNat = k + 1 := ⟨n.toNat - 1, by omega⟩
  refine ⟨fun p hp => ?_, fun d => ?_⟩
  · rcases List.mem_append.mp hp with hp | hp
    · exact mulP_ok (by omega) h.ok p hp
    · exact mulP_ok (by omega) s1 p hp
  · rw [atP_app, mulP_at, mulP_at, h.at_, s2, ek, DH_rep]
    rw [show (k : Int) + 1 = n by omega, show (k : Int) = n - 1 by omega]
end Kb

namespace Kb
open PySem PySem.Spec PyProof.Rows L2 TL
/-! ### how many scans the firsts and the lasts of a program have -/
theorem snoc_ind {α : Type} {p : List α → Prop} (l : List α) (h0 : p []) (h1 : ∀ l x, p l → p (l ++ [x])) : p l := by
  have go : ∀ r : List α, p r.reverse := by
    intro r
    induction r with
    | nil => exact h0
    | cons x r ih =>
      rw [List.reverse_cons]
      exact h1 _ _ ih
  have := go l.reverse
  rwa [List.reverse_reverse] at this
theorem seg_nodup (a b : Int) : (seg a b).Nodup := by
  by_cases h : a ≤ b
  · rw [← rd_seg h]
    exact rd_nodup _
  · rw [seg_nil (by omega)]
    exact .nil
def rst (f : Int → Bool) (l z : Int) : Bool := f z && (decide (z = l) || !f (z - 1))
theorem seg_snoc {l g : Int} (h : l ≤ g + 1) : seg l (g + 1) = seg l g ++ [g + 1] := by
  unfold seg
  rw [show (g + 1 + 1 - l).toNat = (g + 1 - l).toNat + 1 by omega, List.range_succ, List.map_append]
  congr 1
  show [l + ((g + 1 - l).toNat : Int)] = _
  congr 1
  omega
theorem runs_seg (f : Int → Bool) (l : Int) : ∀ n : Nat, ∃ R : List Sc, rdL R = (seg l (l + n - 1)).filter f ∧ R.length ≤ ((seg l (l + n - 1)).filter (rst f l)).length ∧ (0 < n → f (l + n - 1) = true → ∃ R' a, R = R' ++ [(a, l + n - 1)] ∧ a ≤ l + n - 1)
  | 0 => ⟨[], by rw [seg_nil (by omega)]; rfl, Nat.zero_le _, fun h => absurd h (Nat.lt_irrefl 0)⟩
  | n + 1 => by
    obtain ⟨R, h1, h2, h3⟩ := runs_seg f l n
    have e : l + ((n + 1 : Nat) : Int) - 1 = l + n - 1 + 1 := by omega
    have s : seg l (l + ((n + 1 : Nat) : Int) - 1) = seg l (l + n - 1) ++ [l + n - 1 + 1] := by
      rw [e]
      exact seg_snoc (by omega)
    rw [s, e, List.filter_append, List.filter_append]
    generalize l + (n : Int) - 1 = z at h1 h2 h3 e ⊢
    by_cases c : f (z + 1) = true
    · rw [show List.filter f [z + 1] = [z + 1] from by simp [c]]
      by_cases d : 0 < n ∧ f z = true
      · obtain ⟨R', a, rfl, ha⟩ := h3 d.1 d.2
        refine ⟨R' ++ [(a, z + 1)], ?_, ?_, fun _ _ => ⟨R', a, rfl, by omega⟩⟩
        · have : rdL [(a, z + 1)] = rdL [(a, z)] ++ [z + 1] := by
            show rd (a, z + 1) ++ [] = (rd (a, z) ++ []) ++ [z + 1]
            rw [List.append_nil, List.append_nil, rd_seg (by omega), rd_seg (by omega)]
            exact seg_snoc (by omega)
          rw [rdL_app, this, ← List.append_assoc, ← rdL_app, h1]
        · rw [List.length_append] at h2 ⊢
          rw [List.length_append]
          have : ([(a, z + 1)] : List Sc).length = ([(a, z)] : List Sc).length := rfl
          omega
      · refine ⟨R ++ [(z + 1, z + 1)], ?_, ?_, fun _ _ => ⟨R, z + 1, rfl, Int.le_refl _⟩⟩
        · rw [rdL_app, h1]
          show _ ++ (rd (z + 1, z + 1) ++ []) = _
          rw [List.append_nil, rd_seg (Int.le_refl _)]
          congr 1
          unfold seg
          rw [show (z + 1 + 1 - (z + 1)).toNat = 1 by omega]
          show [z + 1 + ((0 : Nat) : Int)] = _
          rw [show z + 1 + ((0 : Nat) : Int) = z + 1 by omega]
        · have : rst f l (z + 1) = true := by
            unfold rst
            rw [c, show z + 1 - 1 = z by omega]
            by_cases k : 0 < n
            · have : f z = false := by
                cases k2 : f z
                · rfl
                · exact absurd ⟨k, k2⟩ d
              rw [this]
              simp
            · rw [decide_eq_true (show z + 1 = l by omega)]
              rfl
          rw [show List.filter (rst f l) [z + 1] = [z + 1] from by simp [this], List.length_append, List.length_append]
          exact Nat.add_le_add_right h2 1
    · rw [show List.filter f [z + 1] = [] from by simp [c], List.append_nil]
      refine ⟨R, h1, ?_, fun _ h => absurd h c⟩
      rw [List.length_append]
      omega
theorem runs_rd (f : Int → Bool) (s : Sc) : ∃ R : List Sc, rdL R = (rd s).filter f ∧ R.length ≤ ((seg (lo s) (hi s)).filter (rst f (lo s))).length := by
  obtain ⟨R, h1, h2, _⟩ := runs_seg f (lo s) (hi s + 1 - lo s).toNat
  have e : lo s + ((hi s + 1 - lo s).toNat : Int) - 1 = hi s := by
    have := spn_le s
    have : lo s ≤ hi s := this
    omega
  rw [e] at h1 h2
  by_cases c : s.1 ≤ s.2
  · refine ⟨R, ?_, h2⟩
    rw [h1, rd_up c]
    have : lo s = s.1 ∧ hi s = s.2 := by
      unfold lo hi
      constructor <;> split <;> omega
    rw [this.1, this.2]
  · refine ⟨R.reverse.map swp, ?_, by rw [List.length_map, List.length_reverse]; exact h2⟩
    rw [rdL_rev, h1, rd_dn (by omega), List.filter_reverse]
    have : lo s = s.2 ∧ hi s = s.1 := by
      unfold lo hi
      constructor <;> split <;> omega
    rw [this.1, this.2]
def ctsS (ss : List Sc) : List Int := ss.flatMap fun s => [lo s, hi s + 1]
theorem ctsS_len : ∀ ss : List Sc, (ctsS ss).length = 2 * ss.length
  | [] => rfl
  | s :: r => by
    show ([lo s, hi s + 1] ++ ctsS r).length = 2 * (r.length + 1)
    rw [List.length_append, ctsS_len r]
    show 2 + _ = _
    omega
theorem ctsS_app (a b : List Sc) : ctsS (a ++ b) = ctsS a ++ ctsS b := List.flatMap_append
theorem firsts_runs (ss : List Sc) : ∃ (R : List Sc) (P : List Int), rdL R = lstR (rdL ss) ∧ R.length ≤ P.length ∧ P.Nodup ∧ ∀ p ∈ P, p ∈ rdL ss ∧ p ∈ ctsS ss := by
  refine snoc_ind (p := fun ss => ∃ (R : List Sc) (P : List Int), rdL R = lstR (rdL ss) ∧ R.length ≤ P.length ∧ P.Nodup ∧ ∀ p ∈ P, p ∈ rdL ss ∧ p ∈ ctsS ss) ss ⟨[], [], rfl, Nat.le_refl _, .nil, fun p hp => (by cases hp)⟩ fun ss s ⟨R, P, h1, h2, h3, h4⟩ => ?_
  obtain ⟨R', k1, k2⟩ := runs_rd (fun z => !decide (z ∈ rdL ss)) s
  refine ⟨R ++ R', P ++ (seg (lo s) (hi s)).filter (rst (fun z => !decide (z ∈ rdL ss)) (lo s)), ?_, ?_, ?_, fun p hp => ?_⟩
  · rw [rdL_app, h1, k1, rdL_app, lstR_app]
    show _ = _ ++ List.filter _ (lstR (rd s ++ []))
    rw [List.append_nil, lstR_id (rd_nodup s)]
  · rw [List.length_append, List.length_append]
    omega
  · refine List.nodup_append.mpr ⟨h3, (seg_nodup _ _).filter _, fun a ha b hb e => ?_⟩
    subst e
    have q := (List.mem_filter.mp hb).2
    unfold rst at q
    have q1 := (Bool.and_eq_true_iff.mp q).1
    have q1 : (!decide (a ∈ rdL ss)) = true := q1
    rw [decide_eq_true (h4 a ha).1] at q1
    cases q1
  · rw [rdL_app, ctsS_app]
    rcases List.mem_append.mp hp with hp | hp
    · exact ⟨List.mem_append_left _ (h4 p hp).1, List.mem_append_left _ (h4 p hp).2⟩
    · obtain ⟨m, q⟩ := List.mem_filter.mp hp
      have m := mem_seg.mp m
      refine ⟨List.mem_append_right _ (List.mem_append_left _ (mem_rd.mpr m)), ?_⟩
      unfold rst at q
      obtain ⟨q1, q2⟩ := Bool.and_eq_true_iff.mp q
      have q1 : (!decide (p ∈ rdL ss)) = true := q1
      have n1 : p ∉ rdL ss := fun y => by
        rw [decide_eq_true y] at q1
        cases q1
      rcases Bool.or_eq_true_iff.mp q2 with y | y
      · refine List.mem_append_right _ ?_
        rw [of_decide_eq_true y]
        exact List.mem_cons_self
      · have n2 : p - 1 ∈ rdL ss := by
          by_cases z : p - 1 ∈ rdL ss
          · exact z
          · have y : (!!decide (p - 1 ∈ rdL ss)) = true := y
            rw [decide_eq_false z] at y
            cases y
        obtain ⟨t, ht, a, b⟩ := mem_rdL.mp n2
        have n3 : ¬ (lo t ≤ p ∧ p ≤ hi t) := fun z => n1 (mem_rdL.mpr ⟨t, ht, z⟩)
        refine List.mem_append_left _ (List.mem_flatMap.mpr ⟨t, ht, ?_⟩)
        rw [show p = hi t + 1 by omega]
        exact List.mem_cons_of_mem _ List.mem_cons_self
theorem tdy_firsts (ss : List Sc) : (tdy (lstR (rdL ss))).length ≤ 2 * ss.length := by
  obtain ⟨R, P, h1, h2, h3, h4⟩ := firsts_runs ss
  have a := h3.length_le_of_subset fun z hz => (h4 z hz).2
  rw [ctsS_len] at a
  rw [← h1]
  show (jn (dup (rdL R))).length ≤ _
  rw [jn_rdL]
  have := jn_len R
  omega
theorem tdy_lasts (ss : List Sc) : (tdy (lstF (rdL ss))).length ≤ 2 * ss.length := by
  have h := tdy_firsts (ss.reverse.map swp)
  rw [rdL_rev, List.length_map, List.length_reverse] at h
  exact h
/-- what a program reads first, what last: that of its scans -/
theorem mem_rdscs {z : Int} : ∀ {B : Int} {g : Pg}, g.Ok B → (z ∈ g.rd ↔ z ∈ rdL g.scs)
  | _, .nil, _ => Iff.rfl
  | B, .sc s r, h => by
    show z ∈ rdS s ++ r.rd ↔ z ∈ rd s ++ rdL r.scs
    rw [List.mem_append, List.mem_append, ← rd_rdS, mem_rdscs h.2]
  | B, .rp n x r, h => by
    show z ∈ (List.replicate n.toNat x.rd).flatten ++ r.rd ↔ z ∈ rdL (x.scs ++ r.scs)
    rw [rdL_app, List.mem_append, List.mem_append, ← mem_rdscs h.2.2.2.1, ← mem_rdscs h.2.2.2.2]
    have h2 := h.1
    have : z ∈ (List.replicate n.toNat x.rd).flatten ↔ z ∈ x.rd := by
      rw [List.mem_flatten]
      constructor
      · rintro ⟨l, hl, hz⟩
        rw [(List.mem_replicate.mp hl).2] at hz
        exact hz
      · exact fun hz => ⟨x.rd, List.mem_replicate.mpr ⟨by omega, rfl⟩, hz⟩
    rw [this]
theorem firsts_scs : ∀ {B : Int} {g : Pg}, g.Ok B → lstR g.rd = lstR (rdL g.scs)
  | _, .nil, _ => rfl
  | B, .sc s r, h => by
    show lstR (rdS s ++ r.rd) = lstR (rd s ++ rdL r.scs)
    rw [lstR_app, lstR_app, ← rd_rdS, firsts_scs h.2]
  | B, .rp n x r, h => by
    show lstR ((List.replicate n.toNat x.rd).flatten ++ r.rd) = lstR (rdL (x.scs ++ r.scs))
    have h2 := h.1
    obtain ⟨k, ek⟩ : ∃ k : Nat, n.toNat = k + 1 := ⟨n.toNat - 1, by omega⟩
    rw [rdL_app, lstR_app, lstR_app, ek, lstR_rep, firsts_scs h.2.2.2.1, firsts_scs h.2.2.2.2]
    congr 1
    refine List.filter_congr fun z _ => ?_
    congr 1
    refine decide_eq_decide.mpr ?_
    rw [← mem_lstR (xs := (List.replicate (k + 1) x.rd).flatten), lstR_rep, mem_lstR, mem_rdscs h.2.2.2.1]
theorem lasts_scs : ∀ {B : Int} {g : Pg}, g.Ok B → lstF g.rd = lstF (rdL g.scs)
  | _, .nil, _ => rfl
  | B, .sc s r, h => by
    show lstF (rdS s ++ r.rd) = lstF (rd s ++ rdL r.scs)
    rw [lstF_app, lstF_app, ← rd_rdS, lasts_scs h.2]
    congr 1
    refine List.filter_congr fun z _ => ?_
    congr 1
    exact decide_eq_decide.mpr (mem_rdscs h.2)
  | B, .rp n x r, h => by
    show lstF ((List.replicate n.toNat x.rd).flatten ++ r.rd) = lstF (rdL (x.scs ++ r.scs))
    have h2 := h.1
    obtain ⟨k, ek⟩ : ∃ k : Nat, n.toNat = k + 1 := ⟨n.toNat - 1, by omega⟩
    rw [rdL_app, lstF_app, lstF_app, ek, lstF_rep, lasts_scs h.2.2.2.1, lasts_scs h.2.2.2.2]
    congr 1
    refine List.filter_congr fun z _ => ?_
    congr 1
    exact decide_eq_decide.mpr (mem_rdscs h.2.2.2.2)
theorem psum_ok {B : Int} : ∀ {ss : List Sc}, (∀ s ∈ ss, SOk B s) → psum ss ≤ ss.length * (B + 1)
  | [], _ => by
    rw [show psum [] = 0 from rfl]
    simp
  | s :: r, h => by
    have ih := psum_ok fun t ht => h t (List.mem_cons_of_mem _ ht)
    obtain ⟨a, b, c, d⟩ := h s List.mem_cons_self
    have e : psum (s :: r) = slen s + psum r := by rw [← rdL_len, rdL_cons, List.length_append, Int.natCast_add, rdL_len, rd_rdS, rdS_len]
    have f : slen s ≤ B + 1 := by
      unfold slen
      split <;> omega
    rw [e, List.length_cons, Int.natCast_add, Int.add_mul]
    omega
theorem fs_scs {B : Int} {g : Pg} (h : g.Ok B) {n : Nat} (l : g.scs.length ≤ n) {Z : Int} (hZ : (n : Int) * (B + 1) ≤ Z) (hB : 0 ≤ B) : Fs (2 * n) Z g.rd := by
  refine ⟨?_, ?_, ?_⟩
  · rw [firsts_scs h]
    have := tdy_firsts g.scs
    omega
  · rw [lasts_scs h]
    have := tdy_lasts g.scs
    omega
  · rw [firsts_scs h]
    have a := (lstR_nodup (rdL g.scs)).length_le_of_subset fun z hz => mem_lstR.mp hz
    have b := rdL_len g.scs
    have c := psum_ok h.mem
    have d := Int.mul_le_mul_of_nonneg_right (show (g.scs.length : Int) ≤ n by omega) (show 0 ≤ B + 1 by omega)
    omega
theorem fw_scs {B : Int} (hB : 0 ≤ B) {n : Nat} {Z : Int} (hZ : (n : Int) * (B + 1) ≤ Z) (n1 : 1 ≤ n) : ∀ (d : Nat) (g : Pg), g.dep < d → g.Ok B → g.scs.length ≤ n → Fw (Fs (2 * n) Z) g
  | 0, _, h, _, _ => absurd h (Nat.not_lt_zero _)
  | d + 1, g, hd, hok, hl => by
    refine ⟨fun a b e => ?_, fun a k x r e => ?_, fun a s r e => ?_⟩
    · subst e
      rw [Pg.scs_app, List.length_append] at hl
      exact fs_scs (app_ok hok).1 (by omega) hZ hB
    · subst e
      obtain ⟨_, k2, _, _, okx, _⟩ := app_ok hok
      rw [Pg.dep_app] at hd
      have hd : max a.dep (max (x.dep + 1) r.dep) < d + 1 := hd
      rw [Pg.scs_app, List.length_append] at hl
      have hl : a.scs.length + (x.scs ++ r.scs).length ≤ n := hl
      rw [List.length_append] at hl
      exact fw_scs hB hZ n1 d x (by omega) okx (by omega)
    · subst e
      obtain ⟨_, oks, _⟩ := app_ok hok
      have := fs_scs (g := .sc s .nil) (B := B) ⟨oks, trivial⟩ (n := n) (by show 1 ≤ n; exact n1) hZ hB
      have e : (Pg.sc s .nil).rd = rd s := by
        show rdS s ++ [] = _
        rw [List.append_nil, rd_rdS]
      rw [e] at this
      exact this
theorem nds_toks : ∀ g : Pg, g.nds = g.toks.length
  | .nil => rfl
  | .sc s r => by
    show r.nds + 1 = r.toks.length + 1
    rw [nds_toks r]
  | .rp n x r => by
    have : (Pg.rp n x r).toks.length = x.toks.length + r.toks.length + 2 := by
      simp [Pg.toks]
      omega
    rw [this, ← nds_toks x, ← nds_toks r]
    rfl
theorem cnt_pos {B : Int} {g : Pg} (h : g.Ok B) (ne : g ≠ .nil) : 1 ≤ g.cnt := by
  cases g with
  | nil => exact (ne rfl).elim
  | sc s r =>
    have := slen_pos s
    have := Pg.cnt_nn h.2
    show 1 ≤ slen s + r.cnt
    omega
  | rp n x r =>
    obtain ⟨n2, nB, xn, okx, okr⟩ := h
    have a := cnt_pos okx xn
    have b := Pg.cnt_nn okr
    have c := Int.mul_le_mul n2 a (by decide) (by omega)
    show 1 ≤ n * x.cnt + r.cnt
    omega
theorem mul_small {n c k : Int} (n0 : 0 ≤ n) (c1 : 1 ≤ c) (h : n * c ≤ k) : n ≤ k := by
  have := Int.mul_le_mul_of_nonneg_left c1 n0
  omega
theorem lim_fw {g : Pg} (h : Lim g) : Fw (Fs 80 (10 ^ 32)) g := fw_scs (B := 10 ^ 30) (by decide +kernel) (n := 40) (by decide +kernel) (by decide) 6 g (by have := h.dep; omega) h.ok h.few
theorem lim_fs {g : Pg} (h : Lim g) : Fs 80 (10 ^ 32) g.rd := fs_scs (B := 10 ^ 30) h.ok h.few (by decide +kernel) (by decide +kernel)
theorem lim_nds {g : Pg} (h : Lim g) : 2 * 80 * g.nds ≤ 70400 := by
  rw [nds_toks]
  have := h.toks
  omega
theorem lim_cnt {g : Pg} (h : Lim g) : g.cnt ≤ 10 ^ 190 := by
  have a := Pg.cnt_le (k := 5) (by decide +kernel) h.ok h.dep
  have b := Int.mul_le_mul_of_nonneg_right (show (g.scs.length : Int) ≤ 40 from by have := h.few; omega) (show (0 : Int) ≤ (10 ^ 30 + 1) ^ (5 + 1) by decide +kernel)
  have c : (40 : Int) * (10 ^ 30 + 1) ^ (5 + 1) ≤ 10 ^ 190 := by decide +kernel
  omega
end Kb

namespace Kb
open PySem PySem.Spec PyProof.Rows L2 StX TL
def topS (i : Nat) : Stmt := PySem.Challenge.pw_scanmisses_k64_whole_texts_and_operators.main.body.getD i (.Pass ⟨0, 0, 0, 0⟩)
abbrev sis_integer : Stmt := topS 12
theorem scis_integer : FnScope ["value"] ["value"] (defScope sis_integer) := ⟨rfl, rfl, rfl, by decide +kernel, rfl, by decide +kernel, by decide +kernel⟩
abbrev sis_from_zero : Stmt := topS 13
theorem scis_from_zero : FnScope ["value"] ["value"] (defScope sis_from_zero) := ⟨rfl, rfl, rfl, by decide +kernel, rfl, by decide +kernel, by decide +kernel⟩
abbrev sis_piece : Stmt := topS 14
theorem scis_piece : FnScope ["value", "low", "high", "times", "number"] ["value"] (defScope sis_piece) := ⟨rfl, rfl, rfl, by decide +kernel, rfl, by decide +kernel, by decide +kernel⟩
abbrev sare_pieces : Stmt := topS 15
theorem scare_pieces : FnScope ["value", "one", "two", "piece"] ["value"] (defScope sare_pieces) := ⟨rfl, rfl, rfl, by decide +kernel, rfl, by decide +kernel, by decide +kernel⟩
abbrev scheck_between : Stmt := topS 18
theorem sccheck_between : FnScope ["number", "least", "greatest"] ["number", "least", "greatest"] (defScope scheck_between) := ⟨rfl, rfl, rfl, by decide +kernel, rfl, by decide +kernel, by decide +kernel⟩
abbrev scheck_distances : Stmt := topS 19
theorem sccheck_distances : FnScope ["cold", "pieces"] ["cold", "pieces"] (defScope scheck_distances) := ⟨rfl, rfl, rfl, by decide +kernel, rfl, by decide +kernel, by decide +kernel⟩
abbrev sscan_length : Stmt := topS 21
theorem scscan_length : FnScope ["scan"] ["scan"] (defScope sscan_length) := ⟨rfl, rfl, rfl, by decide +kernel, rfl, by decide +kernel, by decide +kernel⟩
abbrev saddress_in : Stmt := topS 22
theorem scaddress_in : FnScope ["scan", "place", "first", "last"] ["scan", "place"] (defScope saddress_in) := ⟨rfl, rfl, rfl, by decide +kernel, rfl, by decide +kernel, by decide +kernel⟩
abbrev sfirst_reaching : Stmt := topS 23
theorem scfirst_reaching : FnScope ["spans", "address", "low", "high", "middle"] ["spans", "address"] (defScope sfirst_reaching) := ⟨rfl, rfl, rfl, by decide +kernel, rfl, by decide +kernel, by decide +kernel⟩
abbrev sscan_outside : Stmt := topS 24
theorem scscan_outside : FnScope ["scan", "spans", "least", "greatest", "left", "start", "at", "low", "high"] ["scan", "spans"] (defScope sscan_outside) := ⟨rfl, rfl, rfl, by decide +kernel, rfl, by decide +kernel, by decide +kernel⟩
abbrev sothers_of : Stmt := topS 25
theorem scothers_of : FnScope ["scans", "taken", "spans", "scan", "part"] ["scans", "taken"] (defScope sothers_of) := ⟨rfl, rfl, rfl, by decide +kernel, rfl, by decide +kernel, by decide +kernel⟩
abbrev scount_all : Stmt := topS 26
theorem sccount_all : FnScope ["scans", "scan"] ["scans"] (defScope scount_all) := ⟨rfl, rfl, rfl, by decide +kernel, rfl, by decide +kernel, by decide +kernel⟩
abbrev sput_ahead : Stmt := topS 27
theorem scput_ahead : FnScope ["scans", "others"] ["scans", "others"] (defScope sput_ahead) := ⟨rfl, rfl, rfl, by decide +kernel, rfl, by decide +kernel, by decide +kernel⟩
abbrev sjoined : Stmt := topS 28
theorem scjoined : FnScope ["scans", "rows", "first", "last"] ["scans"] (defScope sjoined) := ⟨rfl, rfl, rfl, by decide +kernel, rfl, by decide +kernel, by decide +kernel⟩
abbrev sis_repeat : Stmt := topS 30
theorem scis_repeat : FnScope ["part"] ["part"] (defScope sis_repeat) := ⟨rfl, rfl, rfl, by decide +kernel, rfl, by decide +kernel, by decide +kernel⟩
abbrev sflattened : Stmt := topS 59
theorem scflattened : FnScope ["pieces", "changes", "low", "high", "times", "turns", "rows", "now", "start", "following", "distance"] ["pieces"] (defScope sflattened) := ⟨rfl, rfl, rfl, by decide +kernel, rfl, by decide +kernel, by decide +kernel⟩
abbrev sProfile___init__ : Stmt := inClass (topS 64) 0
theorem scProfile___init__ : FnScope ["self", "cold", "pieces"] ["self", "cold", "pieces"] (defScope sProfile___init__) := ⟨rfl, rfl, rfl, by decide +kernel, rfl, by decide +kernel, by decide +kernel⟩
abbrev sProfile_pieces : Stmt := inClass (topS 64) 1
theorem scProfile_pieces : FnScope ["self"] ["self"] (defScope sProfile_pieces) := ⟨rfl, rfl, rfl, by decide +kernel, rfl, by decide +kernel, by decide +kernel⟩
abbrev sProfile___eq__ : Stmt := inClass (topS 64) 9
theorem scProfile___eq__ : FnScope ["self", "other"] ["self", "other"] (defScope sProfile___eq__) := ⟨rfl, rfl, rfl, by decide +kernel, rfl, by decide +kernel, by decide +kernel⟩
abbrev splaced_scans : Stmt := topS 67
theorem scplaced_scans : FnScope ["scans", "rows", "place", "first", "last"] ["scans"] (defScope splaced_scans) := ⟨rfl, rfl, rfl, by decide +kernel, rfl, by decide +kernel, by decide +kernel⟩
abbrev sstart_of : Stmt := topS 68
theorem scstart_of : FnScope ["row", "low", "high", "least", "greatest", "place", "upwards"] ["row", "low", "high"] (defScope sstart_of) := ⟨rfl, rfl, rfl, by decide +kernel, rfl, by decide +kernel, by decide +kernel⟩
abbrev sshared_intervals : Stmt := topS 69
theorem scshared_intervals : FnScope ["lasts", "firsts", "found", "left", "right", "at", "by", "one", "two", "low", "high"] ["lasts", "firsts"] (defScope sshared_intervals) := ⟨rfl, rfl, rfl, by decide +kernel, rfl, by decide +kernel, by decide +kernel⟩
abbrev sstraight_rows : Stmt := topS 70
theorem scstraight_rows : FnScope ["lasts", "firsts", "shared", "rows", "in_lasts", "in_firsts", "length", "one_direction", "in_both", "distance", "row"] ["lasts", "firsts"] (defScope sstraight_rows) := ⟨rfl, rfl, rfl, by decide +kernel, rfl, by decide +kernel, by decide +kernel⟩
abbrev sstraight_pieces : Stmt := topS 71
theorem scstraight_pieces : FnScope ["lasts", "firsts", "pieces", "_", "length", "distance", "growing"] ["lasts", "firsts"] (defScope sstraight_pieces) := ⟨rfl, rfl, rfl, by decide +kernel, rfl, by decide +kernel, by decide +kernel⟩
section
variable {P : Program} {w : World} {K : PySem.W.Frag} {mg : Str → Option Value} {base : Heap}
theorem ok_is_integer (B : Bt mg) {f : Addr} {fd : FuncData} (F : Fun K "is_integer" "is_integer" sis_integer f fd) : FnOk P w K mg base CX0 1 f fd ["value"] spIsInteger := by
  refine F.ok scis_integer (fun vs H Q E h => ?_) (fun cdv A outer s H vs Q E hr h => ?_)
  · obtain ⟨i, rfl, _⟩ := h
    rfl
  · obtain ⟨i, rfl, q⟩ := h
    refine ⟨_, (pss_one (ps_ret (pe_and (pe_callB call_isi (by rfl) B.isinstance bo_isinstance (pa_cons (pv 0) (pa_cons (pe_bltn (v := .ty "int") (by rfl) B.int bo_int rfl) pa_nil))) (pe_one (pe_not (pe_callB call_isi (by rfl) B.isinstance bo_isinstance (pa_cons (pv 0) (pa_cons (pe_bltn (v := .ty "bool") (by rfl) B.bool bo_bool rfl) pa_nil)))))))), ?_⟩
    exact ⟨.int i, rfl, .int i, .ty "int", _, _, true, rfl, .ty _, .base (.int i), kit_ty (by decide +kernel), true, rfl, iteT
      ⟨.int i, rfl, .int i, .ty "bool", _, _, false, rfl, .ty _, .base (.int i), kit_ty (by decide +kernel), false, rfl, q.go (Ex.refl _)⟩⟩
theorem ok_is_from_zero (Dis_integer : Df P w K mg base "is_integer" 1 ["value"] spIsInteger) {f : Addr} {fd : FuncData} (F : Fun K "is_from_zero" "is_from_zero" sis_from_zero f fd) : FnOk P w K mg base CX0 2 f fd ["value"] spFromZero := by
  refine F.ok scis_from_zero (fun vs H Q E h => ?_) (fun cdv A outer s H vs Q E hr h => ?_)
  · obtain ⟨i, rfl, _⟩ := h
    rfl
  · obtain ⟨i, rfl, h0, q⟩ := h
    refine ⟨_, (pss_one (ps_ret (pe_and (pe_df Dis_integer hr (pa_cons (pv 0) pa_nil)) (pe_one (pe_cmpR op_ge (pv 0) pe_int (nomark _)))))), ?_⟩
    refine ⟨.int i, rfl, i, rfl, fun H1 e1 => ⟨true, rfl, iteT ⟨.int i, rfl, i, 0, rfl, rfl, ?_⟩⟩⟩
    show Q (.bl (decide (0 ≤ i))) H1
    rw [decide_eq_true h0]
    exact q.go e1
theorem ok_is_piece (B : Bt mg) (Dis_integer : Df P w K mg base "is_integer" 1 ["value"] spIsInteger) {f : Addr} {fd : FuncData} (F : Fun K "is_piece" "is_piece" sis_piece f fd) : FnOk P w K mg base CX0 2 f fd ["value"] spIsPiece := by
  refine F.ok scis_piece (fun vs H Q E h => ?_) (fun cdv A outer s H vs Q E hr h => ?_)
  · obtain ⟨v, p, rfl, _⟩ := h
    rfl
  · obtain ⟨v, ⟨l, h, t⟩, rfl, ⟨a, rfl, ha⟩, ⟨h1, h2, h3⟩, q⟩ := h
    refine ⟨_, (pss_cons (ps_if (pw_or (pt_not (pt_val (pe_callB call_isi (by rfl) B.isinstance bo_isinstance (pa_cons (pv 0) (pa_cons (pe_bltn (v := .ty "tuple") (by rfl) B.tuple bo_tuple rfl) pa_nil))))) (pw_or (pt_cmpR op_ne (pe_callB call_len_seq (by rfl) B.len bo_len (pa_cons (pv 0) pa_nil)) pe_int (nomark _)) (pw_or1 (pt_not (pt_val (pe_callB (cr_all rfl) (by rfl) B.all bo_all (pa_cons (pe_lc (own := [("number", 4)]) (g := (gName 4)) (te := (tCall _ [] E0 (tCons (tVar 4) tNil))) rfl scis_piece.nd (pi_tup (pv 0)) (blkOk_by (N := ["value", "low", "high", "times", "number"]) (sc := defScope sis_piece) (by decide +kernel)) (by exact fun _ _ _ _ _ => (pg_name (i := 4) scis_piece.nd rfl (by first | exact Or.inl rfl | exact Or.inr rfl))) (by exact fun _ _ _ _ _ => pts_nil) (by exact fun _ _ _ _ _ => (pe_df Dis_integer hr (pa_cons (pv 4) pa_nil)))) pa_nil))))))).pt (pss_one (ps_ret pe_bl)) pss_nil)
      (pss_cons (ps_asg (pv 0) (pg_tup rfl (pgs_cons (pg_name (i := 1) scis_piece.nd rfl (by first | exact Or.inl rfl | exact Or.inr rfl)) (pgs_cons (pg_name (i := 2) scis_piece.nd rfl (by first | exact Or.inl rfl | exact Or.inr rfl)) (pgs_cons (pg_name (i := 3) scis_piece.nd rfl (by first | exact Or.inl rfl | exact Or.inr rfl)) pgs_nil)))))
      (pss_one (ps_ret (pe_and (pe_chain op_le op_le pe_int (pv 1) (pv 2)) (pe_one (pe_cmpR op_ge (pv 3) pe_int (nomark _)))))))), ?_⟩
    refine ⟨.ref a, rfl, .ref a, .ty "tuple", _, _, true, rfl, .ty _, .base (.tup ha), kit_ty (by decide +kernel), true, rfl, iteF ?_⟩
    refine ⟨.ref a, rfl, a, _, rfl, .inr (SqT.of ha), rfl, _, rfl, iteF ?_⟩
    refine ⟨.ref a, rfl, a, rfl, ⟨_, SqT.of ha⟩, fun D hD => ?_⟩
    refine lc_tup (xs := [V.int l, V.int h, V.int t]) (fun i H1 => Ex H H1 ∧ H1 D = some (.lst ((List.replicate i true).map V.bl))) ⟨Ex.new hD, upd_same⟩ (fun i H1 _ p => SqT.of (p.1 _ _ ha)) (fun i v H1 hx p => ?_) (fun H1 p => ?_)
    · obtain ⟨e1, hL⟩ := p
      have li : i < 3 := (List.getElem?_eq_some_iff.mp hx).1
      obtain ⟨z, rfl⟩ : ∃ z, v = V.int z := by
        match i, hx with
        | 0, e => cases e; exact ⟨_, rfl⟩
        | 1, e => cases e; exact ⟨_, rfl⟩
        | 2, e => cases e; exact ⟨_, rfl⟩
      refine ⟨rfl, .int z, rfl, z, rfl, fun H2 e2 => ⟨_, e2 _ _ hL, ?_, (e1.trans e2).mut hD, ?_⟩⟩
      · rw [List.length_map, List.length_replicate]
        exact small1000 (by omega)
      · rw [upd_same, List.replicate_succ', List.map_append]
        rfl
    · obtain ⟨e1, hL⟩ := p
      have hL' : H1 D = some (.lst ((List.replicate 3 true).map V.bl)) := hL
      refine ⟨D, _, rfl, SqL.of hL', ?_⟩
      refine ⟨true, rfl, iteF ?_⟩
      refine ⟨.ref a, rfl, a, _, rfl, SqT.of (e1 _ _ ha), rfl, _, _, rfl, _, _, rfl, _, _, rfl, rfl, ?_⟩
      refine ⟨.int l, rfl, 1, l, rfl, rfl, true, ?_, iteT ?_⟩
      · show V.bl (decide (1 ≤ l)) = _
        rw [decide_eq_true h1]
      · refine ⟨.int h, rfl, l, h, rfl, rfl, decide (l ≤ h), rfl, ?_⟩
        rw [decide_eq_true (show l ≤ h from h2)]
        refine iteT ⟨.int t, rfl, t, 1, rfl, rfl, ?_⟩
        have e : decide (t ≥ 1) = true := decide_eq_true h3
        show Q (.bl (decide (t ≥ 1))) H1
        rw [e]
        exact q.go e1
theorem ok_are_pieces (B : Bt mg) (Dis_piece : Df P w K mg base "is_piece" 2 ["value"] spIsPiece) {f : Addr} {fd : FuncData} (F : Fun K "are_pieces" "are_pieces" sare_pieces f fd) : FnOk P w K mg base CX0 3 f fd ["value"] spArePieces := by
  refine F.ok scare_pieces (fun vs H Q E h => ?_) (fun cdv A outer s H vs Q E hr h => ?_)
  · obtain ⟨a, ps, rfl, _⟩ := h
    rfl
  · obtain ⟨a, ps, rfl, ⟨vs, ha, pa⟩, ok, asc, few, q⟩ := h
    refine ⟨_, (pss_cons (ps_if (pw_or (pt_not (pt_val (pe_callB call_isi (by rfl) B.isinstance bo_isinstance (pa_cons (pv 0) (pa_cons (pe_bltn (v := .ty "list") (by rfl) B.list bo_list rfl) pa_nil))))) (pw_or1 (pt_not (pt_val (pe_callB (cr_all rfl) (by rfl) B.all bo_all (pa_cons (pe_lc (own := [("piece", 3)]) (g := (gName 3)) (te := (tCall _ [] E0 (tCons (tVar 3) tNil))) rfl scare_pieces.nd (pi_list (pv 0)) (blkOk_by (N := ["value", "one", "two", "piece"]) (sc := defScope sare_pieces) (by decide +kernel)) (by exact fun _ _ _ _ _ => (pg_name (i := 3) scare_pieces.nd rfl (by first | exact Or.inl rfl | exact Or.inr rfl))) (by exact fun _ _ _ _ _ => pts_nil) (by exact fun _ _ _ _ _ => (pe_df Dis_piece hr (pa_cons (pv 3) pa_nil)))) pa_nil)))))).pt (pss_one (ps_ret pe_bl)) pss_nil)
      (pss_one (ps_ret (pe_callB (cr_all rfl) (by rfl) B.all bo_all (pa_cons (pe_lc (own := [("one", 1), ("two", 2)]) (g := (gTup K 2 (gCons (gName 1) (gCons (gName 2) gNil)))) (te := (tOp _ (tOp (rIxT K) (tVar 1) _) (tOp (rIxT K) (tVar 2) _))) rfl scare_pieces.nd (pi_zip (by rfl) B.zip (pa_cons (pv 0) (pa_cons (pe_slice sl_list (pv 0) (po_some pe_int) po_none) pa_nil))) (blkOk_by (N := ["value", "one", "two", "piece"]) (sc := defScope sare_pieces) (by decide +kernel)) (by exact fun _ _ _ _ _ => (pg_tup rfl (pgs_cons (pg_name (i := 1) scare_pieces.nd rfl (by first | exact Or.inl rfl | exact Or.inr rfl)) (pgs_cons (pg_name (i := 2) scare_pieces.nd rfl (by first | exact Or.inl rfl | exact Or.inr rfl)) pgs_nil)))) (by exact fun _ _ _ _ _ => pts_nil) (by exact fun _ _ _ _ _ => (pe_cmpR op_lt (pe_ix ix_tup (pv 1) pe_int (fun _ _ => rfl)) (pe_ix ix_tup (pv 2) pe_int (fun _ _ => rfl)) (nomark _)))) pa_nil))))), ?_⟩
    have lv : vs.length = ps.length := Pr.len pa
    refine ⟨.ref a, rfl, .ref a, .ty "list", _, _, true, rfl, .ty _, .base (.lst ha), kit_ty (by decide +kernel), true, rfl, iteF ?_⟩
    refine ⟨.ref a, rfl, a, rfl, ⟨_, SqL.of ha⟩, fun D hD => lc_list (xs := vs) (fun i H1 => Ex H H1 ∧ H1 D = some (.lst ((List.replicate i true).map V.bl))) ⟨Ex.new hD, upd_same⟩ (fun i H1 _ p => SqL.of (p.1 _ _ ha)) (fun i v H1 hx p => ?_) (fun H1 p => ?_)⟩
    · obtain ⟨e1, hL⟩ := p
      have li : i < vs.length := (List.getElem?_eq_some_iff.mp hx).1
      obtain ⟨p1, m1, i1⟩ := Pr.mem pa v (List.mem_of_getElem? hx)
      refine ⟨rfl, v, rfl, v, p1, rfl, i1.nx e1.nx, ok _ m1, fun H2 e2 => ⟨_, e2 _ _ hL, ?_, (e1.trans e2).mut hD, ?_⟩⟩
      · rw [List.length_map, List.length_replicate]
        exact small20 (by omega)
      · rw [upd_same, List.replicate_succ', List.map_append]
        rfl
    obtain ⟨e1, hL⟩ := p
    have ha1 := e1 _ _ ha
    have pa1 : PaP H1 vs ps := pa.mono e1
    refine ⟨D, _, rfl, SqL.of hL, (List.replicate vs.length true).all id, rfl, ?_⟩
    rw [show (List.replicate vs.length true).all id = true by rw [List.all_replicate]; simp]
    refine iteF ?_
    refine ⟨.ref a, rfl, .ref a, rfl, 1, rfl, a, vs, rfl, SqL.of ha1, fun c nc => ?_⟩
    have hp : (upd H1 c (.lst (cutV vs (some 1) none))) a = some (.lst vs) := (Ex.new nc) _ _ ha1
    refine ⟨a, c, vs, _, rfl, SqL.of hp, SqL.of upd_same, fun D2 hD2 => ?_⟩
    have ec : cutV vs (some 1) none = vs.drop 1 := by
      unfold cutV
      rw [show HT.sIx vs.length 0 (some 1) = min 1 vs.length from HT.sIx_nat vs.length 0 1, HT.sIx_none]
      cases vs with
      | nil => rfl
      | cons z r =>
        rw [List.length_cons, show min 1 (r.length + 1) = 1 by omega]
        exact List.take_of_length_le (by rw [List.length_drop, List.length_cons]; exact Nat.le_refl _)
    rw [ec] at hp hD2 ⊢
    generalize hg : upd H1 c (.lst (vs.drop 1)) = H3 at hp hD2 ⊢
    have hc : H3 c = some (.lst (vs.drop 1)) := by rw [← hg]; exact upd_same
    have e3 : Ex H1 H3 := by
      rw [← hg]
      exact Ex.new nc
    have pa3 := pa1.mono e3
    refine lc_zip (n := vs.length - 1) (xs := vs) (ys := vs.drop 1) (by rw [List.length_drop]; omega) (fun i H4 => Ex H3 H4 ∧ H4 D2 = some (.lst ((List.replicate i true).map V.bl))) ⟨Ex.new hD2, upd_same⟩ (fun i H4 _ p4 => ⟨SqL.of (p4.1 _ _ hp), SqL.of (p4.1 _ _ hc)⟩) (fun i x y T H4 hi hx hy nT p4 => ?_) (fun H4 p4 => ?_)
    · obtain ⟨e5, hL⟩ := p4
      obtain ⟨⟨x1, x2, x3⟩, gx, tx, rfl, htx⟩ := Pr.get pa3 hx
      rw [List.getElem?_drop, Nat.add_comm 1 i] at hy
      obtain ⟨⟨y1, y2, y3⟩, gy, ty, rfl, hty⟩ := Pr.get pa3 hy
      have hlt : x2 < y1 := by
        obtain ⟨l1, g1⟩ := List.getElem?_eq_some_iff.mp gx
        obtain ⟨l2, g2⟩ := List.getElem?_eq_some_iff.mp gy
        have z := List.pairwise_iff_getElem.mp asc i (i + 1) l1 l2 (Nat.lt_succ_self i)
        rw [g1, g2] at z
        exact z
      have e6 : Ex H4 (upd H4 T (.tup [.ref tx, .ref ty])) := Ex.new nT
      refine ⟨T, _, rfl, SqT.of upd_same, rfl, _, _, rfl, _, _, rfl, rfl, rfl, ?_⟩
      refine ⟨.ref tx, rfl, tx, _, 1, _, rfl, rfl, SqT.of (e6 _ _ (e5 _ _ htx)), rfl, .ref ty, rfl, ty, _, 0, _, rfl, rfl, SqT.of (e6 _ _ (e5 _ _ hty)), rfl, x2, y1, rfl, rfl, _, e6 _ _ hL, ?_, ?_, ?_⟩
      · rw [List.length_map, List.length_replicate]
        exact small20 (by omega)
      · exact (e5.add nT).mut hD2
      · rw [upd_same]
        show some (HO.lst (List.map V.bl (List.replicate i true) ++ [V.bl (decide (x2 < y1))])) = _
        rw [decide_eq_true hlt, List.replicate_succ', List.map_append]
        rfl
    · obtain ⟨e5, hL⟩ := p4
      refine ⟨D2, _, rfl, SqL.of hL, ?_⟩
      rw [show (List.replicate (vs.length - 1) true).all id = true by rw [List.all_replicate]; simp]
      exact q.go ((e1.trans e3).trans e5)
theorem ok_check_between (Dis_integer : Df P w K mg base "is_integer" 1 ["value"] spIsInteger) {f : Addr} {fd : FuncData} (F : Fun K "check_between" "check_between" scheck_between f fd) : FnOk P w K mg base CX0 2 f fd ["number", "least", "greatest"] spCheckBet := by
  refine F.ok sccheck_between (fun vs H Q E h => ?_) (fun cdv A outer s H vs Q E hr h => ?_)
  · obtain ⟨i, j, k, rfl, _⟩ := h
    rfl
  · obtain ⟨i, j, k, rfl, h1, h2, q⟩ := h
    refine ⟨_, (pss_one (ps_if (pw_or (pt_not (pt_val (pe_df Dis_integer hr (pa_cons (pv 0) pa_nil)))) (pw_or1 (pt_not (pt_chain op_le op_le (pv 1) (pv 0) (pv 2))))).pt (pss_one ps_never) pss_nil)), ?_⟩
    refine ⟨.int i, rfl, i, rfl, fun H1 e1 => ⟨true, rfl, iteF ?_⟩⟩
    refine ⟨.int j, rfl, .int i, rfl, j, i, rfl, rfl, decide (j ≤ i), rfl, ?_⟩
    rw [decide_eq_true h1]
    refine iteT ⟨.int k, rfl, i, k, rfl, rfl, decide (i ≤ k), rfl, ?_⟩
    rw [decide_eq_true h2]
    exact iteF (q.go e1)
theorem ok_check_distances (Dis_from_zero : Df P w K mg base "is_from_zero" 2 ["value"] spFromZero) (Dare_pieces : Df P w K mg base "are_pieces" 3 ["value"] spArePieces) {f : Addr} {fd : FuncData} (F : Fun K "check_distances" "check_distances" scheck_distances f fd) : FnOk P w K mg base CX0 4 f fd ["cold", "pieces"] spCheckDist := by
  refine F.ok sccheck_distances (fun vs H Q E h => ?_) (fun cdv A outer s H vs Q E hr h => ?_)
  · obtain ⟨c, a, ps, rfl, _⟩ := h
    rfl
  · obtain ⟨c, a, ps, rfl, h0, pa, ok, asc, few, q⟩ := h
    refine ⟨_, (pss_cons (ps_if (pt_not (pt_val (pe_df Dis_from_zero hr (pa_cons (pv 0) pa_nil)))) (pss_one ps_never) pss_nil)
      (pss_one (ps_if (pt_not (pt_val (pe_df Dare_pieces hr (pa_cons (pv 1) pa_nil)))) (pss_one ps_never) pss_nil))), ?_⟩
    refine ⟨.int c, rfl, c, rfl, h0, fun H1 e1 => ⟨true, rfl, iteF ?_⟩⟩
    exact ⟨.ref a, rfl, a, ps, rfl, pa.mono e1, ok, asc, few, fun H2 e2 => ⟨true, rfl, iteF (q.go (e1.trans e2))⟩⟩
theorem ok_scan_length (B : Bt mg) {f : Addr} {fd : FuncData} (F : Fun K "scan_length" "scan_length" sscan_length f fd) : FnOk P w K mg base CX0 1 f fd ["scan"] spScanLength := by
  refine F.ok scscan_length (fun vs H Q E h => ?_) (fun cdv A outer s H vs Q E hr h => ?_)
  · obtain ⟨v, s, rfl, _⟩ := h
    rfl
  · obtain ⟨v, ⟨x, y⟩, rfl, ⟨t, rfl, ht⟩, q⟩ := h
    refine ⟨_, (pss_one (ps_ret (pe_op op_add (pe_callB call_abs (by rfl) B.abs bo_abs (pa_cons (pe_op op_sub (pe_ix ix_tup (pv 0) pe_int (fun _ _ => rfl)) (pe_ix ix_tup (pv 0) pe_int (fun _ _ => rfl))) pa_nil)) pe_int))), ?_⟩
    exact ⟨.ref t, rfl, t, _, 1, _, rfl, rfl, SqT.of ht, rfl, .ref t, rfl, t, _, 0, _, rfl, rfl, SqT.of ht, rfl, y, x, rfl, rfl, y - x, rfl, _, 1, rfl, rfl, q.go (Ex.refl _)⟩
theorem ok_count_all (B : Bt mg) (Dscan_length : Df P w K mg base "scan_length" 1 ["scan"] spScanLength) {f : Addr} {fd : FuncData} (F : Fun K "count_all" "count_all" scount_all f fd) :
    FnOk P w K mg base CX0 2 f fd ["scans"] spCount := by
  refine F.ok sccount_all (fun vs H Q E h => ?_) (fun cdv A outer s H vs Q E hr h => ?_)
  · obtain ⟨a, ss, rfl, _⟩ := h
    rfl
  · obtain ⟨a, ss, rfl, ⟨vs, ha, pa⟩, G, q⟩ := h
    refine ⟨_, (pss_one (ps_ret (pe_callB (cr_sum rfl) (by rfl) B.sum bo_sum (pa_cons (pe_lc (own := [("scan", 1)]) (g := (gName 1)) (te := (tCall _ [] E0 (tCons (tVar 1) tNil))) rfl sccount_all.nd (pi_list (pv 0)) (blkOk_by (N := ["scans", "scan"]) (sc := defScope scount_all) (by decide +kernel)) (by exact fun _ _ _ _ _ => (pg_name (i := 1) sccount_all.nd rfl (by first | exact Or.inl rfl | exact Or.inr rfl))) (by exact fun _ _ _ _ _ => pts_nil) (by exact fun _ _ _ _ _ => (pe_df Dscan_length hr (pa_cons (pv 1) pa_nil)))) pa_nil)))), ?_⟩
    have lv : vs.length = ss.length := Pa.len pa
    refine ⟨.ref a, rfl, a, rfl, ⟨_, SqL.of ha⟩, fun D hD => lc_list (xs := vs) (fun i H2 => Ex H H2 ∧ H2 D = some (.lst (((ss.take i).map slen).map V.int))) ⟨Ex.new hD, upd_same⟩ (fun i H2 _ p => SqL.of (p.1 _ _ ha)) (fun i x H2 hx p => ?_) (fun H2 p => ?_)⟩
    · obtain ⟨e2, hus⟩ := p
      obtain ⟨s1, gs, i1⟩ := Pa.get pa hx
      have hi : i < ss.length := (List.getElem?_eq_some_iff.mp gs).1
      refine ⟨rfl, x, rfl, x, s1, rfl, i1.mono e2, fun H3 e3 => ⟨_, e3 _ _ hus, ?_, (e2.trans e3).mut hD, ?_⟩⟩
      · rw [List.length_map, List.length_map, List.length_take]
        exact small1000 (by have := G.few; omega)
      · rw [upd_same, List.take_add_one, gs, List.map_append, List.map_append]
        rfl
    · obtain ⟨e2, hus⟩ := p
      rw [lv, List.take_length] at hus
      refine ⟨D, ss.map slen, rfl, SqL.of hus, ?_⟩
      have es : ∀ l : List Sc, (l.map slen).sum = psum l := fun l => by
        induction l with
        | nil => rfl
        | cons s r ih =>
          rw [List.map_cons, List.sum_cons, ih]
          rfl
      rw [es]
      exact q.go e2
theorem ok_address_in {f : Addr} {fd : FuncData} (F : Fun K "address_in" "address_in" saddress_in f fd) : FnOk P w K mg base CX0 1 f fd ["scan", "place"] spAddressIn := by
  refine F.ok scaddress_in (fun vs H Q E h => ?_) (fun cdv A outer s H vs Q E hr h => ?_)
  · obtain ⟨v, s, p, rfl, _⟩ := h
    rfl
  · obtain ⟨v, ⟨x, y⟩, p, rfl, ⟨t, rfl, ht⟩, q⟩ := h
    refine ⟨_, (pss_cons (ps_asg (pv 0) (pg_tup rfl (pgs_cons (pg_name (i := 2) scaddress_in.nd rfl (by first | exact Or.inl rfl | exact Or.inr rfl)) (pgs_cons (pg_name (i := 3) scaddress_in.nd rfl (by first | exact Or.inl rfl | exact Or.inr rfl)) pgs_nil))))
      (pss_one (ps_ret (pe_ifExp (pt_cmpR op_le (pv 2) (pv 3) (nomark _)) (pe_op op_add (pv 2) (pv 1)) (pe_op op_sub (pv 2) (pv 1)))))), ?_⟩
    refine ⟨.ref t, rfl, t, _, rfl, SqT.of ht, rfl, _, _, rfl, _, _, rfl, rfl, .int x, rfl, .int y, rfl, x, y, rfl, rfl, _, rfl, ite2 (fun e => ?_) (fun e => ?_)⟩
    · have e' : x ≤ y := of_decide_eq_true e
      have z := q.go (Ex.refl H)
      rw [if_pos e'] at z
      exact ⟨.int x, rfl, .int p, rfl, x, p, rfl, rfl, z⟩
    · have e' : ¬ x ≤ y := fun z => e (decide_eq_true z)
      have z := q.go (Ex.refl H)
      rw [if_neg e'] at z
      exact ⟨.int x, rfl, .int p, rfl, x, p, rfl, rfl, z⟩
theorem ok_is_repeat (B : Bt2 mg) {f : Addr} {fd : FuncData} (F : Fun K "is_repeat" "is_repeat" sis_repeat f fd) : FnOk P w K mg base CX0 1 f fd ["part"] spIsRep := by
  refine F.ok scis_repeat (fun vs H Q E h => ?_) (fun cdv A outer s H vs Q E hr h => ?_)
  · obtain ⟨v, rfl, _⟩ := h
    rfl
  · obtain ⟨v, rfl, h⟩ := h
    refine ⟨_, (pss_one (ps_ret (pe_callB call_isi (by rfl) B.isinstance bo_isinstance (pa_cons (pe_ix ix_tup (pv 0) pe_int (fun _ _ => rfl)) (pa_cons (pe_bltn (v := .ty "tuple") (by rfl) B.tuple bo_tuple rfl) pa_nil))))), ?_⟩
    rcases h with ⟨s, ⟨t, rfl, ht⟩, q⟩ | ⟨t, n, u, bs, rfl, ht, hu, q⟩
    · exact ⟨.ref t, rfl, t, _, 1, _, rfl, rfl, SqT.of ht, rfl, .int s.2, .ty "tuple", _, _, false, rfl, .ty _, .base (.int _), kit_ty (by decide +kernel), q.go (Ex.refl _)⟩
    · exact ⟨.ref t, rfl, t, _, 1, _, rfl, rfl, SqT.of ht, rfl, .ref u, .ty "tuple", _, _, true, rfl, .ty _, .base (.tup hu), kit_ty (by decide +kernel), q.go (Ex.refl _)⟩
theorem ok_flattened (B : Bt mg) {f : Addr} {fd : FuncData} (F : Fun K "flattened" "flattened" sflattened f fd) : FnOk P w K mg base CX0 1 f fd ["pieces"] spFlat := by
  refine F.ok scflattened (fun vs H Q E h => ?_) (fun cdv A outer s H vs Q E hr h => ?_)
  · obtain ⟨a, ps, rfl, _⟩ := h
    rfl
  · obtain ⟨a, ps, rfl, ⟨vs, ha, pa⟩, few, q⟩ := h
    refine ⟨_, (pss_cons (ps_set (i := 1) scflattened.nd rfl (by first | exact Or.inl rfl | exact Or.inr rfl) pe_dnewK)
      (pss_cons (ps_for PassesOwn.never rfl (pi_list (pv 0)) (pg_tup rfl (pgs_cons (pg_name (i := 2) scflattened.nd rfl (by first | exact Or.inl rfl | exact Or.inr rfl)) (pgs_cons (pg_name (i := 3) scflattened.nd rfl (by first | exact Or.inl rfl | exact Or.inr rfl)) (pgs_cons (pg_name (i := 4) scflattened.nd rfl (by first | exact Or.inl rfl | exact Or.inr rfl)) pgs_nil)))) (pss_cons (ps_dput (hu_of hr) (pv 1) (pv 2) (pe_op op_add (pe_dget2 (hu_of hr) (pv 1) (pv 2) pe_int ⟨rfl, rfl, rfl, rfl⟩) (pv 4)) rfl)
      (pss_one (ps_dput (hu_of hr) (pv 1) (pe_op op_add (pv 3) pe_int) (pe_op op_sub (pe_dget2 (hu_of hr) (pv 1) (pe_op op_add (pv 3) pe_int) pe_int ⟨rfl, rfl, rfl, rfl⟩) (pv 4)) rfl))))
      (pss_cons (ps_set (i := 5) scflattened.nd rfl (by first | exact Or.inl rfl | exact Or.inr rfl) (pe_callB cr_sortedI (by rfl) B.sorted bo_sorted (pa_cons (pe_lock (pe_lc (own := [("distance", 10)]) (g := (gName 10)) (te := (tVar 10)) (tt := (tTest (tOp _ (tDGet (tVar 1) (tVar 10)) _))) rfl scflattened.nd (pi_keys (pv 1)) (blkOk_by (N := ["pieces", "changes", "low", "high", "times", "turns", "rows", "now", "start", "following", "distance"]) (sc := defScope sflattened) (by decide +kernel)) (by exact fun _ _ _ _ _ => (pg_name (i := 10) scflattened.nd rfl (by first | exact Or.inl rfl | exact Or.inr rfl))) (by exact fun _ _ _ _ _ => (pts_one (pt_cmpR op_ne (pe_dget (hu_of hr) (pv 1) (pv 10) (fun _ _ => rfl)) pe_int (nomark _)))) (by exact fun _ _ _ _ _ => (pv 10)))) pa_nil)))
      (pss_cons (ps_set (i := 6) scflattened.nd rfl (by first | exact Or.inl rfl | exact Or.inr rfl) (pe_lst pa_nil))
      (pss_cons (ps_set (i := 7) scflattened.nd rfl (by first | exact Or.inl rfl | exact Or.inr rfl) pe_int)
      (pss_cons (ps_for PassesOwn.never rfl (pi_zip (by rfl) B.zip (pa_cons (pv 5) (pa_cons (pe_slice sl_list (pv 5) (po_some pe_int) po_none) pa_nil))) (pg_tup rfl (pgs_cons (pg_name (i := 8) scflattened.nd rfl (by first | exact Or.inl rfl | exact Or.inr rfl)) (pgs_cons (pg_name (i := 9) scflattened.nd rfl (by first | exact Or.inl rfl | exact Or.inr rfl)) pgs_nil))) (pss_cons (ps_set (i := 7) scflattened.nd rfl (by first | exact Or.inl rfl | exact Or.inr rfl) (pe_op op_add (pv 7) (pe_dget (hu_of hr) (pv 1) (pv 8) (fun _ _ => rfl))))
      (pss_one (ps_if (pt_cmpR op_ne (pv 7) pe_int (nomark _)) (pss_one (ps_expr (pe_bm PySem.F.plainAttrs_list PySem.F.slot_list_append PySem.F.type_list_append mt_append (pv 6) (pa_cons (pe_tup (pa_cons (pv 8) (pa_cons (pe_op op_sub (pv 9) pe_int) (pa_cons (pv 7) pa_nil)))) pa_nil)))) pss_nil))))
      (pss_one (ps_ret (pv 6))))))))), ?_⟩
    have lv : vs.length = ps.length := Pr.len pa
    intro d nd
    have x0 := Ex.new (o := .dK []) nd
    refine ⟨.ref a, rfl, a, rfl, ⟨_, SqL.of (x0 _ _ ha)⟩, for_list (xs := vs) (fun i σ H1 => ∃ y2 y3 y4 kvs ks, σ = [some (.ref a), some (.ref d), y2, y3, y4, none, none, none, none, none, none] ∧ Ex H H1 ∧ H1 d = some (.dK kvs) ∧ DI kvs (chg (ps.take i)) ks ∧ (∀ p ∈ ps.take i, p.1 ∈ ks ∧ p.2.1 + 1 ∈ ks) ∧ ks.length ≤ 2 * i)
      ⟨none, none, none, [], [], rfl, x0, upd_same, DI.nil, fun p hp => absurd hp (by simp), by simp⟩ (fun i σ H1 _ z => ?_) (fun i v σ H1 hx z => ?_) (fun σ H1 z => ?_)⟩
    · obtain ⟨_, _, _, _, _, _, e1, _⟩ := z
      exact SqL.of (e1 _ _ ha)
    · obtain ⟨y2, y3, y4, kvs, ks, rfl, e1, hd, di, ends, lk⟩ := z
      obtain ⟨⟨l, h, t⟩, gs, tp, rfl, ht⟩ := Pr.get pa hx
      have li : i < ps.length := (List.getElem?_eq_some_iff.mp gs).1
      refine ⟨tp, _, rfl, SqT.of (e1 _ _ ht), rfl, _, _, rfl, _, _, rfl, _, _, rfl, rfl, ?_⟩
      refine ⟨.ref d, rfl, d, rfl, .inl ⟨kvs, .inl hd⟩, .int l, rfl, _, DGet.k (k := Sum.inl l) hd, ?_⟩
      rw [di.getD]
      refine ⟨.int t, rfl, _, _, rfl, rfl, .ref d, rfl, .int l, rfl, d, _, rfl, DPut.k (k := Sum.inl l) hd ?_, ?_⟩
      · rw [di.len]
        exact small20 (by omega)
      obtain ⟨ks1, di1, m1, s1, l1⟩ := di.put l (chg (ps.take i) l + t)
      refine ⟨.ref d, rfl, d, rfl, .inl ⟨_, .inl upd_same⟩, .int h, rfl, h, 1, rfl, rfl, _, DGet.k (k := Sum.inl (h + 1)) upd_same, ?_⟩
      rw [di1.getD]
      refine ⟨.int t, rfl, _, _, rfl, rfl, .ref d, rfl, .int h, rfl, h, 1, rfl, rfl, d, _, rfl, DPut.k (k := Sum.inl (h + 1)) upd_same ?_, ?_⟩
      · rw [di1.len]
        exact small20 (by omega)
      obtain ⟨ks2, di2, m2, s2, l2⟩ := di1.put (h + 1) ((if h + 1 = l then chg (ps.take i) l + t else chg (ps.take i) (h + 1)) - t)
      refine ⟨_, _, _, _, ks2, rfl, (e1.mut nd).mut nd, upd_same, di2.congr fun x => ?_, fun p hp => ?_, by omega⟩
      · rw [chg_snoc gs]
        show _ = if x = h + 1 then _ else if x = l then _ else _
        show chg (ps.take i) x + (if x = l then t else 0) - (if x = h + 1 then t else 0) = _
        by_cases b : x = h + 1
        · subst b
          rw [if_pos rfl, if_pos rfl]
          by_cases c : h + 1 = l
          · rw [if_pos c, if_pos c, c]
          · rw [if_neg c, if_neg c]
            omega
        · rw [if_neg b, if_neg b]
          by_cases c : x = l
          · subst c
            rw [if_pos rfl, if_pos rfl]
            omega
          · rw [if_neg c, if_neg c]
            omega
      · rw [List.take_add_one, gs] at hp
        rcases List.mem_append.mp hp with hp | hp
        · obtain ⟨u1, u2⟩ := ends p hp
          exact ⟨s2 _ (s1 _ u1), s2 _ (s1 _ u2)⟩
        · rw [List.mem_singleton.mp hp]
          exact ⟨s2 _ m1, m2⟩
    · obtain ⟨y2, y3, y4, kvs, ks, rfl, e1, hd, di, ends, lk⟩ := z
      rw [lv, List.take_length] at di ends
      rw [lv] at lk
      -- turns
      refine ⟨d, .dK kvs, hd, trivial, fun od => ?_⟩
      refine ⟨.ref d, rfl, d, od, rfl, .inl ⟨kvs, upd_same, fun D hD => lc_it walk_keys (fun i H2 => (∀ b u, b ≠ d → H1 b = some u → H2 b = some u) ∧ H2 d = some (.frz od (.dK kvs)) ∧ H2 D = some (.lst (((ks.take i).filter fun k => decide (chg ps k ≠ 0)).map V.int))) ?_ (fun i H2 _ p => p.2.1) (fun i x H2 H2' hi p y => ?_) (fun H2 p => ?_)⟩⟩
      · have nD : d ≠ D := fun z => by
          rw [z, upd_same] at hD
          cases hD
        refine ⟨fun b u nb hb => ?_, (upd_ne nD).trans upd_same, upd_same⟩
        have nb2 : b ≠ D := fun z => by
          rw [← z, upd_ne nb, hb] at hD
          cases hD
        rw [upd_ne nb2, upd_ne nb]
        exact hb
      · obtain ⟨p1, p2, p3⟩ := p
        obtain ⟨rfl, k, v, hk, rfl⟩ := y
        obtain ⟨n, gn, rfl, vn⟩ := di.at hk
        refine ⟨rfl, .ref d, rfl, .int n, rfl, d, .int (chg ps n), rfl, .inl ⟨kvs, Sum.inl n, .inr ⟨od, p2⟩, rfl, vn.symm⟩, rfl, _, rfl, ?_⟩
        have tk : (ks.take (i + 1)).filter (fun k => decide (chg ps k ≠ 0)) = (ks.take i).filter (fun k => decide (chg ps k ≠ 0)) ++ if chg ps n ≠ 0 then [n] else [] := by
          rw [List.take_add_one, gn, List.filter_append]
          show _ ++ List.filter _ [n] = _
          by_cases c : chg ps n = 0
          · rw [if_neg (by simp [c])]
            simp [c]
          · rw [if_pos c]
            simp [c]
        refine ite2 (fun e => ?_) (fun e => ?_)
        · have c : chg ps n ≠ 0 := fun z => by
            rw [z] at e
            cases e
          rw [if_pos c] at tk
          have nD : d ≠ D := fun z => by
            rw [← z, p2] at p3
            cases p3
          refine ⟨.int n, rfl, _, p3, ?_, fun b u nb hb => ?_, (upd_ne nD).trans p2, ?_⟩
          · rw [List.length_map]
            have := List.length_filter_le (fun k => decide (chg ps k ≠ 0)) (ks.take i)
            rw [List.length_take] at this
            exact small20 (by omega)
          · have nbD : b ≠ D := fun z => by
              rw [z] at hb
              have q1 : (upd H1 d (.frz od (.dK kvs))) D = none := hD
              rw [upd_ne (z ▸ nb), hb] at q1
              cases q1
            rw [upd_ne nbD]
            exact p1 b u nb hb
          · rw [upd_same, tk, List.map_append]
            rfl
        · have c : chg ps n = 0 := by
            by_cases z : chg ps n = 0
            · exact z
            · exact absurd (show (!decide (V.int (chg ps n) = V.int 0)) = true by rw [decide_eq_false (fun q => z (V.int.inj q))]; rfl) e
          rw [if_neg (by simp [c]), List.append_nil] at tk
          exact ⟨p1, p2, by rw [tk]; exact p3⟩
      · obtain ⟨p1, p2, p3⟩ := p
        rw [di.len, List.take_length] at p3
        refine ⟨p2, ?_⟩
        have e12 : Ex H1 (upd H2 d (.dK kvs)) := fun b u hb => by
          by_cases c : b = d
          · rw [c] at hb ⊢
            rw [hd] at hb
            rw [upd_same]
            exact hb
          · rw [upd_ne c]
            exact p1 b u c hb
        have nD : D ≠ d := fun z => by
          rw [z, p2] at p3
          cases p3
        have hD2 : (upd H2 d (.dK kvs)) D = some (.lst ((ks.filter fun k => decide (chg ps k ≠ 0)).map V.int)) := (upd_ne nD).trans p3
        have hd2 : (upd H2 d (.dK kvs)) d = some (.dK kvs) := upd_same
        generalize upd H2 d (.dK kvs) = H3 at e12 hD2 hd2 ⊢
        refine ⟨D, _, rfl, SqL.of hD2, fun ts p per ord np => ?_⟩
        have e13 := e1.trans (e12.trans (Ex.new (o := .lst (ts.map V.int)) np))
        have hp4 : (upd H3 p (.lst (ts.map V.int))) p = some (.lst (ts.map V.int)) := upd_same
        have hd4 : (upd H3 p (.lst (ts.map V.int))) d = some (.dK kvs) := Ex.new np _ _ hd2
        generalize upd H3 p (.lst (ts.map V.int)) = H4 at e13 hp4 hd4 ⊢
        obtain ⟨fc, fw, fl⟩ := flat_ok (ks := ks) (ts := ts) di.nd ends per ord
        -- rows, now
        refine ⟨Nat.zero_le _, fun r nr => ?_⟩
        have hp5 : (upd H4 r (.lst [])) p = some (.lst (ts.map V.int)) := Ex.new nr _ _ hp4
        have hd5 : (upd H4 r (.lst [])) d = some (.dK kvs) := Ex.new nr _ _ hd4
        have hr5 : (upd H4 r (.lst [])) r = some (.lst []) := upd_same
        have e15 := e13.trans (Ex.new (o := .lst []) nr)
        have nr0 := e13.back nr
        generalize upd H4 r (.lst []) = H5 at e15 hp5 hd5 hr5 ⊢
        refine ⟨.ref p, rfl, .ref p, rfl, 1, rfl, p, _, rfl, SqL.of hp5, fun c nc => ?_⟩
        rw [cut_one]
        have hp6 : (upd H5 c (.lst ((ts.map V.int).drop 1))) p = some (.lst (ts.map V.int)) := Ex.new nc _ _ hp5
        have hd6 : (upd H5 c (.lst ((ts.map V.int).drop 1))) d = some (.dK kvs) := Ex.new nc _ _ hd5
        have hr6 : (upd H5 c (.lst ((ts.map V.int).drop 1))) r = some (.lst []) := Ex.new nc _ _ hr5
        have hc6 : (upd H5 c (.lst ((ts.map V.int).drop 1))) c = some (.lst ((ts.map V.int).drop 1)) := upd_same
        have e16 := e15.trans (Ex.new (o := .lst ((ts.map V.int).drop 1)) nc)
        generalize upd H5 c (.lst ((ts.map V.int).drop 1)) = H6 at e16 hp6 hd6 hr6 hc6 ⊢
        have npr : p ≠ r := fun z => by
          rw [← z, hp4] at nr
          cases nr
        have ncr : c ≠ r := fun z => by
          rw [z, hr5] at nc
          cases nc
        have ndr : d ≠ r := fun z => by
          rw [← z, hd4] at nr
          cases nr
        have lts : ts.length ≤ ks.length := by rw [per.length_eq]; exact List.length_filter_le _ _
        refine ⟨p, c, _, _, rfl, SqL.of hp6, SqL.of hc6, for_zip (n := ts.length - 1) (xs := ts.map V.int) (ys := (ts.map V.int).drop 1) (by rw [List.length_drop, List.length_map]; omega)
          (fun i σ H7 => ∃ now y8 y9 us rs, σ = [some (.ref a), some (.ref d), y2, y3, y4, some (.ref p), some (.ref r), some (.int now), y8, y9, none] ∧ Ex H H7 ∧ H7 p = some (.lst (ts.map V.int)) ∧ H7 c = some (.lst ((ts.map V.int).drop 1)) ∧ H7 d = some (.dK kvs) ∧ H7 r = some (.lst us) ∧ PaP H7 us rs ∧ rs.length ≤ i ∧
            rs ++ rowsG (chg ps) (ts.drop i) now = rowsG (chg ps) ts 0)
          ⟨0, none, none, [], [], rfl, e16, hp6, hc6, hd6, hr6, .nil, Nat.zero_le _, rfl⟩ (fun i σ H7 _ z => ?_) (fun i x y T σ H7 hi hx hy nT z => ?_) (fun σ H7 z => ?_)⟩
        · obtain ⟨_, _, _, _, _, _, _, k1, k2, _⟩ := z
          exact ⟨SqL.of k1, SqL.of k2⟩
        · obtain ⟨now, y8, y9, us, rs, rfl, e7, hp7, hc7, hd7, hr7, prs, lrs, inv⟩ := z
          rw [List.getElem?_drop, Nat.add_comm 1 i] at hy
          rw [List.getElem?_map] at hx hy
          obtain ⟨s0, gs, rfl⟩ : ∃ s0, ts[i]? = some s0 ∧ x = V.int s0 := by
            cases g : ts[i]? with
            | none => rw [g] at hx; cases hx
            | some s0 => rw [g] at hx; exact ⟨s0, rfl, (Option.some.inj hx).symm⟩
          obtain ⟨f0, gf, rfl⟩ : ∃ f0, ts[i + 1]? = some f0 ∧ y = V.int f0 := by
            cases g : ts[i + 1]? with
            | none => rw [g] at hy; cases hy
            | some s0 => rw [g] at hy; exact ⟨s0, rfl, (Option.some.inj hy).symm⟩
          have mk : s0 ∈ ks := (List.mem_filter.mp (per.mem_iff.mp (List.mem_of_getElem? gs))).1
          have vk := di.val s0
          rw [if_pos mk] at vk
          have x7 := Ex.new (o := .tup [V.int s0, V.int f0]) nT
          have hd8 := x7 _ _ hd7
          have st := rowsG_step (c := chg ps) (now := now) gs gf
          refine ⟨T, _, rfl, SqT.of upd_same, rfl, _, _, rfl, _, _, rfl, rfl, ?_⟩
          have dg := DGet.k (k := Sum.inl s0) hd8
          rw [vk] at dg
          refine ⟨.int now, rfl, .ref d, rfl, .int s0, rfl, d, _, rfl, dg, now, _, rfl, rfl, ?_⟩
          refine ⟨.int (now + chg ps s0), rfl, rfl, _, rfl, ite2 (fun e => ?_) (fun e => ?_)⟩
          · have cz : now + chg ps s0 ≠ 0 := fun z => by
              rw [z] at e
              cases e
            rw [if_pos cz] at st
            refine ⟨.ref r, rfl, .inl ⟨rfl, _, .inl (.inl (x7 _ _ hr7))⟩, .int s0, rfl, .int f0, rfl, f0, 1, rfl, rfl, .int (now + chg ps s0), rfl, by show 3 ≤ sizeLine; decide, fun t nt => ?_⟩
            have x8 := Ex.new (o := .tup [V.int s0, V.int (f0 - 1), V.int (now + chg ps s0)]) nt
            have hr9 := x8 _ _ (x7 _ _ hr7)
            have lu : us.length ≤ i := by rw [Pr.len prs]; exact lrs
            refine ⟨r, us, .ref t, rfl, rfl, hr9, small20 (by omega), now + chg ps s0, some (.int s0), some (.int f0), us ++ [.ref t], rs ++ [(s0, f0 - 1, now + chg ps s0)], rfl, ((e7.trans x7).trans x8).mut nr0, (upd_ne npr).trans (x8 _ _ (x7 _ _ hp7)), (upd_ne ncr).trans (x8 _ _ (x7 _ _ hc7)), (upd_ne ndr).trans (x8 _ _ hd8), upd_same, PaP.lset hr9 (Pr.snoc ((prs.mono x7).mono x8) ⟨t, rfl, upd_same⟩), by rw [List.length_append, List.length_singleton]; omega, ?_⟩
            rw [← inv, st, List.append_assoc]
          · have cz : now + chg ps s0 = 0 := by
              by_cases z : now + chg ps s0 = 0
              · exact z
              · exact absurd (show (!decide (V.int (now + chg ps s0) = V.int 0)) = true by rw [decide_eq_false (fun q => z (V.int.inj q))]; rfl) e
            rw [if_neg (by simp [cz]), List.nil_append] at st
            refine ⟨now + chg ps s0, some (.int s0), some (.int f0), us, rs, rfl, e7.trans x7, x7 _ _ hp7, x7 _ _ hc7, hd8, x7 _ _ hr7, prs.mono x7, Nat.le_succ_of_le lrs, ?_⟩
            rw [← inv, st]
        · obtain ⟨now, y8, y9, us, rs, rfl, e7, hp7, hc7, hd7, hr7, prs, lrs, inv⟩ := z
          rw [rowsG_end (ts.length - 1) (Nat.le_refl _), List.append_nil] at inv
          refine ⟨_, rfl, q r H7 rs nr0 e7 ⟨us, hr7, prs⟩ ?_ ?_⟩
          · rw [inv]
            exact ⟨fc, fw⟩
          · rw [inv]
            omega
theorem ok_initF {C : Addr} (T : Ptx K C) (Dcheck_distances : Df P w K mg base "check_distances" 4 ["cold", "pieces"] spCheckDist) (Dflattened : Df P w K mg base "flattened" 1 ["pieces"] spFlat) {f : Addr} {fd : FuncData} (F : Fun K "__init__" "Profile.__init__" sProfile___init__ f fd) :
    FnOk P w K mg base CX0 5 f fd ["self", "cold", "pieces"] (spInitF C) := by
  refine F.ok scProfile___init__ (fun vs H Q E h => ?_) (fun cdv A outer s H vs Q E hr h => ?_)
  · obtain ⟨x, dx, c, a, ps, rfl, _⟩ := h
    rfl
  · obtain ⟨x, dx, c, a, ps, rfl, hx, c0, pa, V, q⟩ := h
    refine ⟨_, (pss_cons (ps_expr (pe_df Dcheck_distances hr (pa_cons (pv 1) (pa_cons (pv 2) pa_nil))))
      (pss_cons (ps_fld (pv 0) (pv 1) rfl)
      (pss_one (ps_fld (pv 0) (pe_df Dflattened hr (pa_cons (pv 2) pa_nil)) rfl)))), ?_⟩
    refine ⟨.int c, rfl, .ref a, rfl, c, a, ps, rfl, c0, pa, V.pok, V.asc, by have := V.few; omega, fun H1 e1 => ?_⟩
    have hx1 := e1 _ _ hx
    refine ⟨.int c, rfl, .ref x, rfl, x, C, dx, [], rfl, hx1, T.cl, T.nC, (by show 0 < 1000; decide), ?_⟩
    obtain ⟨vs, ha, pv⟩ := pa.mono e1
    have nxa : a ≠ x := ne_of ha hx1 (by intro z; cases z)
    have pa2 : Pcs (upd H1 x (.ins C dx (putF "cold" (.int c) []))) a ps := ⟨vs, (upd_ne nxa).trans ha, Pr.imp (fun v p r => by
      obtain ⟨t, e, ht⟩ := r
      exact ⟨t, e, (upd_ne (ne_of ht hx1 (by intro z; cases z))).trans ht⟩) pv⟩
    refine ⟨.ref a, rfl, a, ps, rfl, pa2, by have := V.few; omega, fun l H2 rs nl e2 hl Tl lr => ?_⟩
    have hx2 := e2 _ _ (upd_same (H := H1) (a := x) (o := .ins C dx (putF "cold" (.int c) [])))
    refine ⟨.ref x, rfl, x, C, dx, _, rfl, hx2, T.cl, T.nP, (by show 1 < 1000; decide), ?_⟩
    rw [pf_put]
    obtain ⟨us, hl2, pl⟩ := hl
    have nxl : l ≠ x := ne_of hl2 hx2 (by intro z; cases z)
    refine q _ rs l (fun b o nb hb => ?_) ⟨⟨dx, l, upd_same, us, (upd_ne nxl).trans hl2, Pr.imp (fun v p r => by
      obtain ⟨t, e, ht⟩ := r
      exact ⟨t, e, (upd_ne (ne_of ht hx2 (by intro z; cases z))).trans ht⟩) pl⟩, V.tells Tl, Tl.can, by have := V.few; omega⟩ Tl (e1.back ?_) upd_same
    · rw [upd_ne nb]
      exact e2 _ _ ((upd_ne nb).trans (e1 _ _ hb))
    · rw [upd_ne nxl] at nl
      exact nl
theorem ok_pieces {C : Addr} (B : Bt mg) (T : Ptx K C) {f : Addr} {fd : FuncData} (F : Fun K "pieces" "Profile.pieces" sProfile_pieces f fd) : FnOk P w K mg base CX0 1 f fd ["self"] (spPiecesP C) := by
  refine F.ok scProfile_pieces (fun vs H Q E h => ?_) (fun cdv A outer s H vs Q E hr h => ?_)
  · obtain ⟨x, c, rs, rfl, _⟩ := h
    rfl
  · obtain ⟨x, c, rs, rfl, Pp, q⟩ := h
    refine ⟨_, (pss_one (ps_ret (pe_callTy call_list_of (by rfl) B.list bo_list (pa_cons (pe_fld (pv 0) rfl) pa_nil)))), ?_⟩
    obtain ⟨dx, l, hx, us, hl, pl⟩ := Pp.at_
    refine ⟨.ref x, rfl, x, C, dx, _, _, rfl, hx, T.cl, T.nP, pf_pieces _ _, l, us, rfl, .inl (SqL.of hl), fun p np => q p _ np (Ex.new np) ⟨us, upd_same, pl.mono (Ex.new np)⟩⟩
theorem ok_eq {C : Addr} (B : Bt mg) (T : Ptx K C) (O : Pof K C) (hP : mg "Profile" = some (.ref C)) (Dp_pieces : DPr P w K mg base C "pieces" 1 (spPiecesP C)) {f : Addr} {fd : FuncData} (F : Fun K "__eq__" "Profile.__eq__" sProfile___eq__ f fd) :
    FnOk P w K mg base CX0 3 f fd ["self", "other"] (spEqP K C) := by
  refine F.ok scProfile___eq__ (fun vs H Q E h => ?_) (fun cdv A outer s H vs Q E hr h => ?_)
  · obtain ⟨x, c, rs, y, rfl, _⟩ := h
    rfl
  · obtain ⟨x, c, rs, y, rfl, Pp, h⟩ := h
    refine ⟨_, (pss_one (ps_ret (pe_and (pe_callB call_isi (by rfl) B.isinstance bo_isinstance (pa_cons (pv 1) (pa_cons (pe_glob (v := .ref C) (by rfl) hP rfl) pa_nil))) (pe_and (pe_cmpR op_eq (pe_fld (pv 0) rfl) (pe_fld (pv 1) rfl) (nomark _)) (pe_one (pe_cmpR (op_eqD hr.units) (pe_pr Dp_pieces hr (pv 0)) (pe_pr Dp_pieces hr (pv 1)) (nomark _))))))), ?_⟩
    rcases h with ⟨z, c', rs', rfl, Pz, q⟩ | ⟨t, ty, ni, oth, q⟩
    · obtain ⟨dz, lz, hz, _⟩ := Pz.at_
      obtain ⟨dx, lx, hx, _⟩ := Pp.at_
      refine ⟨.ref z, rfl, .ref z, .ref C, _, _, true, rfl, .own C, .base (.ins hz O.cl O.ha O.hn O.htk O.hm), O.me, true, rfl, iteT ?_⟩
      refine ⟨.ref x, rfl, x, C, dx, _, _, rfl, hx, T.cl, T.nC, pf_cold _ _, .ref z, rfl, z, C, dz, _, _, rfl, hz, T.cl, T.nC, pf_cold _ _, rfl, _, rfl, ?_⟩
      by_cases e : c = c'
      · rw [show decide (V.int c = V.int c') = true from decide_eq_true (by rw [e])]
        refine iteT ?_
        refine ⟨.ref x, rfl, x, dx, _, rfl, hx, x, c, rs, rfl, Pp, fun p1 H1 n1 e1 h1 => ?_⟩
        obtain ⟨dz1, lz1, hz1, _⟩ := (Pz.mono e1).at_
        refine ⟨.ref z, rfl, z, dz1, _, rfl, hz1, z, c', rs', rfl, Pz.mono e1, fun p2 H2 n2 e2 h2 => ?_⟩
        refine ⟨pdPs rs, pdPs rs', (h1.mono e2).dp, h2.dp, shaped_P _, shaped_P _, ?_⟩
        rw [eqv_P]
        have q' := q.go (e1.trans e2)
        rw [show decide (c = c' ∧ rs = rs') = decide (rs = rs') by simp [e]] at q'
        exact q'
      · rw [show decide (V.int c = V.int c') = false from decide_eq_false (fun y => e (V.int.inj y))]
        refine iteF ?_
        have q' := q.go (Ex.refl _)
        rw [show decide (c = c' ∧ rs = rs') = false by simp [e]] at q'
        exact q'
    · refine ⟨y, rfl, y, .ref C, _, _, false, rfl, .own C, ty.tyx ni, oth.1, false, rfl, iteF (q.go (Ex.refl _))⟩
theorem ok_first_reaching (B : Bt mg) {f : Addr} {fd : FuncData} (F : Fun K "first_reaching" "first_reaching" sfirst_reaching f fd) : FnOk P w K mg base CX0 1 f fd ["spans", "address"] spReach := by
  refine F.ok scfirst_reaching (fun vs H Q E h => ?_) (fun cdv A outer s H vs Q E hr h => ?_)
  · obtain ⟨p, zs, a, rfl, _⟩ := h
    rfl
  · obtain ⟨p, zs, a, rfl, ⟨vs, hp, pz⟩, few, Az, q⟩ := h
    refine ⟨_, (pss_cons (ps_par (i := 2) (j := 3) rfl scfirst_reaching.nd rfl rfl (by decide) rfl rfl (pa_cons pe_int (pa_cons (pe_callB call_len_seq (by rfl) B.len bo_len (pa_cons (pv 0) pa_nil)) pa_nil)) (by rfl))
      (pss_cons (ps_while PassesOwn.never (pt_cmpR op_lt (pv 2) (pv 3) (nomark _)) (pss_cons (ps_set (i := 4) scfirst_reaching.nd rfl (by first | exact Or.inl rfl | exact Or.inr rfl) (pe_op op_fdiv (pe_op op_add (pv 2) (pv 3)) pe_int))
      (pss_one (ps_if (pt_cmpR op_lt (pe_ix ix_tup (pe_ix ix_list (pv 0) (pv 4) (fun _ _ => rfl)) pe_int (fun _ _ => rfl)) (pv 1) (nomark _)) (pss_one (ps_set (i := 2) scfirst_reaching.nd rfl (by first | exact Or.inl rfl | exact Or.inr rfl) (pe_op op_add (pv 4) pe_int))) (pss_one (ps_set (i := 3) scfirst_reaching.nd rfl (by first | exact Or.inl rfl | exact Or.inr rfl) (pv 4)))))))
      (pss_one (ps_ret (pv 2))))), ?_⟩
    have lv : vs.length = zs.length := Pa.len pz
    refine ⟨.ref p, rfl, p, _, rfl, .inl (SqL.of hp), _, _, rfl, ?_⟩
    rw [lv]
    refine ⟨fun m σ H1 => ∃ (x y : Nat) (y4 : Option V), m = y - x ∧ σ = [some (.ref p), some (.int a), some (.int x), some (.int y), y4] ∧ Ex H H1 ∧ x ≤ y ∧ y ≤ zs.length ∧ (∀ (i : Nat) (t : Sc), zs[i]? = some t → i < x → t.2 < a) ∧ (∀ (i : Nat) (t : Sc), zs[i]? = some t → y ≤ i → a ≤ t.2),
      ⟨_, 0, zs.length, none, rfl, rfl, Ex.refl _, Nat.zero_le _, Nat.le_refl _, fun i t _ h => (by omega), fun i t hi h => by have := (List.getElem?_eq_some_iff.mp hi).1; omega⟩, fun m σ H1 hW => ?_⟩
    obtain ⟨x, y, y4, rfl, rfl, e1, xy, yl, bl, ab⟩ := hW
    refine ⟨.int x, rfl, .int y, rfl, _, _, rfl, rfl, _, rfl, ite2 (fun e => ?_) (fun e => ?_)⟩
    · have e' : (x : Int) < y := of_decide_eq_true e
      refine ⟨fun σ' H' => ∃ (x' y' : Nat) (y4 : Option V), y' - x' < y - x ∧ σ' = [some (.ref p), some (.int a), some (.int x'), some (.int y'), y4] ∧ Ex H H' ∧ x' ≤ y' ∧ y' ≤ zs.length ∧ (∀ (i : Nat) (t : Sc), zs[i]? = some t → i < x' → t.2 < a) ∧ (∀ (i : Nat) (t : Sc), zs[i]? = some t → y' ≤ i → a ≤ t.2), fun σ' H' hN => ?_, ?_⟩
      · obtain ⟨x', y', y4, c, r⟩ := hN
        exact ⟨y' - x', c, x', y', y4, rfl, r⟩
      obtain ⟨k, hk⟩ : ∃ k : Nat, k = (x + y) / 2 := ⟨_, rfl⟩
      have ek : ((x : Int) + y) / 2 = (k : Int) := by omega
      have kl : k < zs.length := by omega
      obtain ⟨v, gv, t, rfl, ht⟩ := Pa.get2 pz (List.getElem?_eq_getElem kl)
      refine ⟨.int x, rfl, .int y, rfl, _, _, rfl, rfl, _, _, rfl, rfl, ⟨by decide, by decide⟩, ?_⟩
      simp only [ek]
      refine ⟨.ref p, rfl, .int k, rfl, p, vs, k, .ref t, rfl, rfl, SqL.of (e1 _ _ hp), atI_nat gv, t, _, 1, _, rfl, rfl, SqT.of (e1 _ _ ht), rfl, .int a, rfl, _, _, rfl, rfl, _, rfl, ite2 (fun c => ?_) (fun c => ?_)⟩
      · have c' : zs[k].2 < a := of_decide_eq_true c
        refine ⟨.int k, rfl, _, _, rfl, rfl, k + 1, y, _, ?_, rfl, e1, by omega, yl, fun i u hu hi => ?_, ab⟩
        · omega
        · by_cases z : i = k
          · subst z
            rw [List.getElem?_eq_getElem kl] at hu
            cases hu
            exact c'
          · have a1 := Az.next hu (List.getElem?_eq_getElem kl) (by omega)
            have a2 := Az.leAt (List.getElem?_eq_getElem kl)
            omega
      · have c' : ¬ zs[k].2 < a := fun z => c (decide_eq_true z)
        refine ⟨.int k, rfl, x, k, _, ?_, rfl, e1, by omega, by omega, bl, fun i u hu hi => ?_⟩
        · omega
        · by_cases z : i = k
          · subst z
            rw [List.getElem?_eq_getElem kl] at hu
            cases hu
            omega
          · have a1 := Az.next (List.getElem?_eq_getElem kl) hu (by omega)
            have a2 := Az.leAt hu
            omega
    · have e' : ¬ (x : Int) < y := fun z => e (decide_eq_true z)
      have : x = y := by omega
      subst this
      exact ⟨_, rfl, q x yl bl ab H1 e1⟩
theorem ok_scan_outside (B : Bt mg) (B2 : mg "reversed" = none) (Dfirst_reaching : Df P w K mg base "first_reaching" 1 ["spans", "address"] spReach) {f : Addr} {fd : FuncData} (F : Fun K "scan_outside" "scan_outside" sscan_outside f fd) : FnOk P w K mg base CX0 2 f fd ["scan", "spans"] spOutside := by
  refine F.ok scscan_outside (fun vs H Q E h => ?_) (fun cdv A outer s H vs Q E hr h => ?_)
  · obtain ⟨v, p, s, zs, rfl, _⟩ := h
    rfl
  · obtain ⟨v, p, ⟨x, y⟩, zs, rfl, ⟨t, rfl, ht⟩, hZ, few, Az, q⟩ := h
    refine ⟨_, (pss_cons (ps_par (i := 2) (j := 3) rfl scscan_outside.nd rfl rfl (by decide) rfl rfl (pa_cons (pe_callB (cr_minT rfl) (by rfl) B.min bo_min (pa_cons (pv 0) pa_nil)) (pa_cons (pe_callB (cr_maxT rfl) (by rfl) B.max bo_max (pa_cons (pv 0) pa_nil)) pa_nil)) (by rfl))
      (pss_cons (ps_set (i := 4) scscan_outside.nd rfl (by first | exact Or.inl rfl | exact Or.inr rfl) (pe_lst pa_nil))
      (pss_cons (ps_set (i := 5) scscan_outside.nd rfl (by first | exact Or.inl rfl | exact Or.inr rfl) (pv 2))
      (pss_cons (ps_set (i := 6) scscan_outside.nd rfl (by first | exact Or.inl rfl | exact Or.inr rfl) (pe_df Dfirst_reaching hr (pa_cons (pv 1) (pa_cons (pv 2) pa_nil))))
      (pss_cons (ps_while PassesOwn.never (pw_and (pt_cmpR op_lt (pv 6) (pe_callB call_len_seq (by rfl) B.len bo_len (pa_cons (pv 1) pa_nil)) (nomark _)) (pw_and1 (pt_cmpR op_le (pe_ix ix_tup (pe_ix ix_list (pv 1) (pv 6) (fun _ _ => rfl)) pe_int (fun _ _ => rfl)) (pv 3) (nomark _)))).pt (pss_cons (ps_if (pt_cmpR op_lt (pv 5) (pe_ix ix_tup (pe_ix ix_list (pv 1) (pv 6) (fun _ _ => rfl)) pe_int (fun _ _ => rfl)) (nomark _)) (pss_one (ps_expr (pe_bm PySem.F.plainAttrs_list PySem.F.slot_list_append PySem.F.type_list_append mt_append (pv 4) (pa_cons (pe_tup (pa_cons (pv 5) (pa_cons (pe_op op_sub (pe_ix ix_tup (pe_ix ix_list (pv 1) (pv 6) (fun _ _ => rfl)) pe_int (fun _ _ => rfl)) pe_int) pa_nil))) pa_nil)))) pss_nil)
      (pss_cons (ps_set (i := 5) scscan_outside.nd rfl (by first | exact Or.inl rfl | exact Or.inr rfl) (pe_op op_add (pe_ix ix_tup (pe_ix ix_list (pv 1) (pv 6) (fun _ _ => rfl)) pe_int (fun _ _ => rfl)) pe_int))
      (pss_one (ps_aug (i := 6) scscan_outside.nd rfl (by first | exact Or.inl rfl | exact Or.inr rfl) pe_int ip_add)))))
      (pss_cons (ps_if (pt_cmpR op_le (pv 5) (pv 3) (nomark _)) (pss_one (ps_expr (pe_bm PySem.F.plainAttrs_list PySem.F.slot_list_append PySem.F.type_list_append mt_append (pv 4) (pa_cons (pe_tup (pa_cons (pv 5) (pa_cons (pv 3) pa_nil))) pa_nil)))) pss_nil)
      (pss_cons (ps_if (pt_cmpR op_le (pe_ix ix_tup (pv 0) pe_int (fun _ _ => rfl)) (pe_ix ix_tup (pv 0) pe_int (fun _ _ => rfl)) (nomark _)) (pss_one (ps_ret (pv 4))) pss_nil)
      (pss_one (ps_ret (pe_lc (own := [("low", 7), ("high", 8)]) (g := (gTup K 2 (gCons (gName 7) (gCons (gName 8) gNil)))) (te := (tTup (tCons (tVar 8) (tCons (tVar 7) tNil)))) rfl scscan_outside.nd (pi_reversed (by rfl) (Br.reversed ⟨B2⟩) (pa_cons (pv 4) pa_nil)) (blkOk_by (N := ["scan", "spans", "least", "greatest", "left", "start", "at", "low", "high"]) (sc := defScope sscan_outside) (by decide +kernel)) (by exact fun _ _ _ _ _ => (pg_tup rfl (pgs_cons (pg_name (i := 7) scscan_outside.nd rfl (by first | exact Or.inl rfl | exact Or.inr rfl)) (pgs_cons (pg_name (i := 8) scscan_outside.nd rfl (by first | exact Or.inl rfl | exact Or.inr rfl)) pgs_nil)))) (by exact fun _ _ _ _ _ => pts_nil) (by exact fun _ _ _ _ _ => (pe_tup (pa_cons (pv 8) (pa_cons (pv 7) pa_nil)))))))))))))), ?_⟩
    refine ⟨.ref t, rfl, t, x, y, rfl, ht, .ref t, rfl, t, x, y, rfl, ht, _, _, rfl, ?_⟩
    rw [show (if y < x then y else x) = lo (x, y) from rfl, show (if y > x then y else x) = hi (x, y) from rfl]
    have lg := lo_hi (x, y)
    refine ⟨Nat.zero_le _, fun L nL => ⟨.int (lo (x, y)), rfl, .ref p, rfl, .int (lo (x, y)), rfl, p, zs, lo (x, y), rfl, hZ.mono (Ex.new nL), Nat.le_trans few (by decide), Az, fun k kl bl ab H1 e1 => ?_⟩⟩
    have hL1 := e1 _ _ (upd_same (H := H) (a := L) (o := .lst []))
    have e01 : Ex H H1 := (Ex.new nL).trans e1
    obtain ⟨vs, hp, pz⟩ := hZ
    have lv : vs.length = zs.length := Pa.len pz
    refine ⟨fun m σ H2 => ∃ (k : Nat) (st : Int) (us : List V) (rows : List Sc), m = zs.length - k ∧ k ≤ zs.length ∧ σ = [some (.ref t), some (.ref p), some (.int (lo (x, y))), some (.int (hi (x, y))), some (.ref L), some (.int st), some (.int k), none, none] ∧ Ex H H2 ∧ H2 L = some (.lst us) ∧ Paired (IsSc H2) us rows ∧ OI zs (lo (x, y)) (hi (x, y)) k st rows,
      ⟨_, k, lo (x, y), [], [], rfl, kl, rfl, e01, hL1, .nil, OI.start bl ab⟩, fun m σ H2 hW => ?_⟩
    obtain ⟨k, st, us, rows, rfl, kl, rfl, e2, hus, pus, I⟩ := hW
    have lus : us.length ≤ 1001 := by
      have z := Pa.len pus
      have z2 := I.few
      have z3 := List.length_filter_le (ins (lo (x, y)) (hi (x, y))) (zs.take k)
      rw [List.length_take] at z3
      split at z2 <;> omega
    refine ⟨.int k, rfl, .ref p, rfl, p, _, rfl, .inl (SqL.of (e2 _ _ hp)), _, _, rfl, rfl, _, rfl, ?_⟩
    rw [lv]
    by_cases cc : ∃ c1 : k < zs.length, zs[k].1 ≤ hi (x, y)
    · obtain ⟨c1, c2⟩ := cc
      rw [decide_eq_true (show (k : Int) < (zs.length : Int) by omega)]
      obtain ⟨v, gv, tk, rfl, htk⟩ := Pa.get2 pz (List.getElem?_eq_getElem c1)
      have gk := List.getElem?_eq_getElem c1
      have tk2 := e2 _ _ htk
      refine iteT ⟨.ref p, rfl, .int k, rfl, p, vs, k, .ref tk, rfl, rfl, SqL.of (e2 _ _ hp), atI_nat gv, tk, _, 0, _, rfl, rfl, SqT.of tk2, rfl, .int (hi (x, y)), rfl, _, _, rfl, rfl, _, rfl, ?_⟩
      rw [decide_eq_true c2]
      refine iteT ⟨fun σ' H' => ∃ (st : Int) (us : List V) (rows : List Sc), σ' = [some (.ref t), some (.ref p), some (.int (lo (x, y))), some (.int (hi (x, y))), some (.ref L), some (.int st), some (.int ((k + 1 : Nat) : Int)), none, none] ∧ Ex H H' ∧ H' L = some (.lst us) ∧ Paired (IsSc H') us rows ∧ OI zs (lo (x, y)) (hi (x, y)) (k + 1) st rows, fun σ' H' hN => ?_, ?_⟩
      · obtain ⟨st, us, rows, r⟩ := hN
        exact ⟨zs.length - (k + 1), by omega, k + 1, st, us, rows, rfl, by omega, r⟩
      have stp := I.step Az gk lg c2
      refine ⟨.int st, rfl, .ref p, rfl, .int k, rfl, p, vs, k, .ref tk, rfl, rfl, SqL.of (e2 _ _ hp), atI_nat gv, tk, _, 0, _, rfl, rfl, SqT.of tk2, rfl, _, _, rfl, rfl, _, rfl, ite2 (fun c => ?_) (fun c => ?_)⟩
      · have c' : st < zs[k].1 := of_decide_eq_true c
        rw [if_pos c'] at stp
        refine ⟨.ref L, rfl, .inl ⟨rfl, _, .inl (.inl hus)⟩, .int st, rfl, .ref p, rfl, .int k, rfl, p, vs, k, .ref tk, rfl, rfl, SqL.of (e2 _ _ hp), atI_nat gv, tk, _, 0, _, rfl, rfl, SqT.of tk2, rfl, _, _, rfl, rfl, by show 2 ≤ sizeLine; decide, fun r nr => ?_⟩
        have Lr : L ≠ r := ne_of_none hus nr
        have er := Ex.new (o := .tup [V.int st, V.int (zs[k].1 - 1)]) nr
        refine ⟨L, us, .ref r, rfl, rfl, er _ _ hus, small20 (by omega), ?_⟩
        have ee : Ex H (upd (upd H2 r (.tup [V.int st, V.int (zs[k].1 - 1)])) L (.lst (us ++ [V.ref r]))) := (e2.trans er).mut nL
        refine ⟨.ref p, rfl, .int k, rfl, p, vs, k, .ref tk, rfl, rfl, SqL.of (ee _ _ hp), atI_nat gv, tk, _, 1, _, rfl, rfl, SqT.of (ee _ _ htk), rfl, _, _, rfl, rfl, .int k, rfl, _, _, rfl, rfl, _, us ++ [.ref r], _, rfl, ee, upd_same, ?_, stp⟩
        exact Pa.lset (er _ _ hus) (Pa.snoc (Pa.mono er pus) ⟨r, rfl, upd_same⟩)
      · have c' : ¬ st < zs[k].1 := fun z => c (decide_eq_true z)
        rw [if_neg c'] at stp
        exact ⟨.ref p, rfl, .int k, rfl, p, vs, k, .ref tk, rfl, rfl, SqL.of (e2 _ _ hp), atI_nat gv, tk, _, 1, _, rfl, rfl, SqT.of tk2, rfl, _, _, rfl, rfl, .int k, rfl, _, _, rfl, rfl, _, us, _, rfl, e2, hus, pus, stp⟩
    by_cases c1 : k < zs.length
    case' pos =>
      rw [decide_eq_true (show (k : Int) < (zs.length : Int) by omega)]
      obtain ⟨v, gv, tk, rfl, htk⟩ := Pa.get2 pz (List.getElem?_eq_getElem c1)
      have gk := List.getElem?_eq_getElem c1
      have tk2 := e2 _ _ htk
      refine iteT ⟨.ref p, rfl, .int k, rfl, p, vs, k, .ref tk, rfl, rfl, SqL.of (e2 _ _ hp), atI_nat gv, tk, _, 0, _, rfl, rfl, SqT.of tk2, rfl, .int (hi (x, y)), rfl, _, _, rfl, rfl, _, rfl, ?_⟩
      have c2 : ¬ zs[k].1 ≤ hi (x, y) := fun c2 => cc ⟨c1, c2⟩
      rw [decide_eq_false c2]
      refine iteF ?_
      have hk : ∀ u, zs[k]? = some u → hi (x, y) < u.1 := fun u hu => by
        rw [gk] at hu
        cases hu
        omega
      clear gv htk gk tk2 c2
    case' neg =>
      rw [decide_eq_false (show ¬ (k : Int) < (zs.length : Int) by omega)]
      refine iteF ?_
      have hk : ∀ u, zs[k]? = some u → hi (x, y) < u.1 := fun u hu => by
        have := (List.getElem?_eq_some_iff.mp hu).1
        omega
    all_goals
      have al := I.all Az hk
      obtain ⟨_, fw⟩ := I.stop Az hk lg
      refine ⟨.int st, rfl, .int (hi (x, y)), rfl, _, _, rfl, rfl, _, rfl, ite2 (fun c => ?_) (fun c => ?_)⟩
      case' refine_1 =>
        have c' : st ≤ hi (x, y) := of_decide_eq_true c
        rw [if_pos c'] at al fw
        refine ⟨.ref L, rfl, .inl ⟨rfl, _, .inl (.inl hus)⟩, .int st, rfl, .int (hi (x, y)), rfl, by show 2 ≤ sizeLine; decide, fun r nr => ?_⟩
        have er := Ex.new (o := .tup [V.int st, V.int (hi (x, y))]) nr
        refine ⟨L, us, .ref r, rfl, rfl, er _ _ hus, small20 (by omega), ?_⟩
        have f9 : ∃ us', (upd (upd H2 r (.tup [V.int st, V.int (hi (x, y))])) L (.lst (us ++ [V.ref r]))) L = some (.lst us') ∧ Paired (IsSc (upd (upd H2 r (.tup [V.int st, V.int (hi (x, y))])) L (.lst (us ++ [V.ref r])))) us' (rows ++ [(st, hi (x, y))]) := ⟨_, upd_same, Pa.lset (er _ _ hus) (Pa.snoc (Pa.mono er pus) ⟨r, rfl, upd_same⟩)⟩
        have ee : Ex H (upd (upd H2 r (.tup [V.int st, V.int (hi (x, y))])) L (.lst (us ++ [V.ref r]))) := (e2.trans er).mut nL
        generalize upd (upd H2 r (.tup [V.int st, V.int (hi (x, y))])) L (.lst (us ++ [V.ref r])) = H3 at f9 ee ⊢
        generalize rows ++ [(st, hi (x, y))] = rs at f9 al fw
      case' refine_2 =>
        have c' : ¬ st ≤ hi (x, y) := fun z => c (decide_eq_true z)
        rw [if_neg c'] at al fw
        have f9 : ∃ us', H2 L = some (.lst us') ∧ Paired (IsSc H2) us' rows := ⟨us, hus, pus⟩
        have ee := e2
        generalize H2 = H3 at f9 ee ⊢
        generalize rows = rs at f9 al fw
      all_goals
        obtain ⟨us3, hu3, pu3⟩ := f9
        have ht3 := ee _ _ ht
        refine ⟨.ref t, rfl, t, _, 0, _, rfl, rfl, SqT.of ht3, rfl, .ref t, rfl, t, _, 1, _, rfl, rfl, SqT.of ht3, rfl, _, _, rfl, rfl, _, rfl, ite2 (fun e => ?_) (fun e => ?_)⟩
        · have e' : x ≤ y := of_decide_eq_true e
          rw [if_pos e'] at al
          exact ⟨_, rfl, q L H3 rs nL ee ⟨us3, hu3, pu3⟩ al fw⟩
        · have e' : ¬ x ≤ y := fun z => e (decide_eq_true z)
          rw [if_neg e'] at al
          have lu3 : us3.length = rs.length := Pa.len pu3
          have cl := List.length_filter_le (ins (lo (x, y)) (hi (x, y))) zs
          refine ⟨.ref L, rfl, L, us3, rfl, SqL.of hu3, fun D2 hD2 => ?_⟩
          refine lc_rev (xs := us3) (fun i H4 => Ex H3 H4 ∧ ∃ ws, H4 D2 = some (.lst ws) ∧ Paired (IsSc H4) ws ((rs.reverse.take i).map swp)) ⟨Ex.new hD2, [], upd_same, .nil⟩ (fun i H4 _ p => SqL.of (p.1 _ _ hu3)) (fun i v H4 hx p => ?_) (fun H4 p => ?_)
          · obtain ⟨e3, ws, hws, pws⟩ := p
            obtain ⟨⟨a1, a2⟩, gs, t, rfl, ht⟩ := Pa.get (Pa.rev pu3) hx
            have li : i < us3.length := by
              have z := (List.getElem?_eq_some_iff.mp hx).1
              rwa [List.length_reverse] at z
            have lws : ws.length ≤ i := by
              have z := Pa.len pws
              rw [List.length_map, List.length_take] at z
              omega
            refine ⟨t, _, rfl, SqT.of (e3 _ _ ht), rfl, _, _, rfl, _, _, rfl, rfl, rfl, ?_⟩
            refine ⟨.int a2, rfl, .int a1, rfl, by show 2 ≤ sizeLine; decide, fun p np => ?_⟩
            have pD : D2 ≠ p := ne_of_none hws np
            refine ⟨ws, (upd_ne pD).trans hws, small20 (by omega), (e3.add np).mut hD2, _, upd_same, ?_⟩
            rw [List.take_add_one, gs, List.map_append]
            exact Pa.lset ((upd_ne pD).trans hws) (Pa.snoc (s := swp (a1, a2)) (Pa.mono (Ex.new np) pws) ⟨p, rfl, upd_same⟩)
          · obtain ⟨e3, ws, hws, pws⟩ := p
            rw [List.take_of_length_le (by rw [List.length_reverse, lu3]; exact Nat.le_refl _)] at pws
            exact q D2 H4 _ (ee.back hD2) (ee.trans e3) ⟨ws, hws, pws⟩ al (by rw [List.length_map, List.length_reverse]; exact fw)
theorem ok_others_of (B : Bt mg) (Dscan_outside : Df P w K mg base "scan_outside" 2 ["scan", "spans"] spOutside) {f : Addr} {fd : FuncData} (F : Fun K "others_of" "others_of" sothers_of f fd) : FnOk P w K mg base CX0 3 f fd ["scans", "taken"] spOthers := by
  refine F.ok scothers_of (fun vs H Q E h => ?_) (fun cdv A outer s H vs Q E hr h => ?_)
  · obtain ⟨a, t, ss, ts, rfl, _⟩ := h
    rfl
  · obtain ⟨a, t, ss, ts, rfl, hS, hT, few, tew, dis, q⟩ := h
    refine ⟨_, (pss_cons (ps_set (i := 2) scothers_of.nd rfl (by first | exact Or.inl rfl | exact Or.inr rfl) (pe_callB cr_sortedPO (by rfl) B.sorted bo_sorted (pa_cons (pe_lc (own := [("scan", 3)]) (g := (gName 3)) (te := (tTup (tCons (tCB _ (tCons (tVar 3) tNil)) (tCons (tCB _ (tCons (tVar 3) tNil)) tNil)))) rfl scothers_of.nd (pi_list (pv 1)) (blkOk_by (N := ["scans", "taken", "spans", "scan", "part"]) (sc := defScope sothers_of) (by decide +kernel)) (by exact fun _ _ _ _ _ => (pg_name (i := 3) scothers_of.nd rfl (by first | exact Or.inl rfl | exact Or.inr rfl))) (by exact fun _ _ _ _ _ => pts_nil) (by exact fun _ _ _ _ _ => (pe_tup (pa_cons (pe_callB (cr_minT rfl) (by rfl) B.min bo_min (pa_cons (pv 3) pa_nil)) (pa_cons (pe_callB (cr_maxT rfl) (by rfl) B.max bo_max (pa_cons (pv 3) pa_nil)) pa_nil))))) pa_nil)))
      (pss_one (ps_ret (pe_lc2 (own := [("scan", 3), ("part", 4)]) (vs1 := [4]) (g := (gName 3)) (g1 := (gName 4)) (wi1 := (iList K (tCall _ [] E0 (tCons (tVar 3) (tCons (tVar 2) tNil))))) (te := (tVar 4)) rfl scothers_of.nd (pi_list (pv 0)) (blkOk_by (N := ["scans", "taken", "spans", "scan", "part"]) (sc := defScope sothers_of) (by decide +kernel)) (by decide) (by exact fun _ _ _ _ _ => (pg_name (i := 3) scothers_of.nd rfl (by first | exact Or.inl rfl | exact Or.inr rfl))) (by exact fun _ _ _ _ _ => pts_nil) (by exact fun _ _ _ _ _ => (pi_list (pe_df Dscan_outside hr (pa_cons (pv 3) (pa_cons (pv 2) pa_nil))))) (by exact fun _ _ _ _ _ => (pg_name (i := 4) scothers_of.nd rfl (by first | exact Or.inl rfl | exact Or.inr rfl))) (by exact fun _ _ _ _ _ => pts_nil) (by exact fun _ _ _ _ _ => (pv 4)))))), ?_⟩
    obtain ⟨vs, ht, pt⟩ := hT
    have lv : vs.length = ts.length := Pa.len pt
    refine ⟨.ref t, rfl, t, rfl, ⟨_, SqL.of ht⟩, fun D hD => lc_list (xs := vs) (fun i H2 => Ex H H2 ∧ ∃ us, H2 D = some (.lst us) ∧ Paired (IsSc H2) us ((ts.take i).map spn)) ?_ (fun i H2 _ p => ?_) (fun i x H2 hx p => ?_) (fun H2 p => ?_)⟩
    · exact ⟨Ex.new hD, [], upd_same, .nil⟩
    · exact SqL.of (p.1 _ _ ht)
    · obtain ⟨e2, us, hus, pus⟩ := p
      obtain ⟨⟨x1, x2⟩, gs, tp, rfl, htp⟩ := Pa.get pt hx
      have lu : us.length = i := by
        have z := Pa.len pus
        rw [List.length_map, List.length_take] at z
        have y := (List.getElem?_eq_some_iff.mp gs).1
        omega
      refine ⟨rfl, .ref tp, rfl, tp, x1, x2, rfl, e2 _ _ htp, .ref tp, rfl, tp, x1, x2, rfl, e2 _ _ htp, by show 2 ≤ sizeLine; decide, fun p np => ?_⟩
      have pD : p ≠ D := fun z => by
        rw [z, hus] at np
        cases np
      refine ⟨us, (upd_ne (Ne.symm pD)).trans hus, small1000 (by have := (List.getElem?_eq_some_iff.mp gs).1; omega), (e2.add np).mut hD, _, upd_same, ?_⟩
      have k1 := Pa.snoc (s := spn (x1, x2)) (Pa.mono (Ex.new np) pus) ⟨p, rfl, upd_same⟩
      rw [List.take_add_one, gs, List.map_append]
      exact Pa.lset ((upd_ne (Ne.symm pD)).trans hus) k1
    obtain ⟨e2, us, hus, pus⟩ := p
    rw [lv, List.take_length] at pus
    refine ⟨D, us, kOf H2, rfl, SqL.of hus, fun x hx => ?_, fun zv p s1 s2 np => ?_⟩
    · obtain ⟨s1, _, i1⟩ := Pa.mem pus x hx
      have ek := kOf_eq i1
      rw [ek]
      exact i1
    obtain ⟨zs, pz, per, ord⟩ := Pa.sorted pus s1 s2
    have Az := asc_of dis per ord
    have lz : zs.length = ts.length := by rw [per.length_eq, List.length_map]
    have lzv := Pa.len pz
    have e3 : Ex H2 (upd H2 p (.lst zv)) := Ex.new np
    have hZ : Scs (upd H2 p (.lst zv)) p zs := ⟨zv, upd_same, Pa.mono e3 pz⟩
    have e03 := e2.trans e3
    generalize upd H2 p (.lst zv) = H3 at hZ e03 ⊢
    have fe : (rdL ss).filter (outL ts) = (rdL ss).filter (out zs) := by
      rw [show outL ts = out zs from funext fun z => (out_eq per z).symm]
    obtain ⟨vs, ha, pa⟩ := hS
    have lv : vs.length = ss.length := Pa.len pa
    have cb : ∀ i, i ≤ ss.length → cntS (ss.take i) zs ≤ i * ts.length := fun i hi => by
      have := cntS_le (ss.take i) zs
      rw [List.length_take, Nat.min_eq_left hi, lz] at this
      exact this
    refine ⟨.ref a, rfl, a, rfl, ⟨_, SqL.of (e03 _ _ ha)⟩, fun D hD => two_list (xs := vs) (fun i H2 => Ex H3 H2 ∧ ∃ us rows, H2 D = some (.lst us) ∧ Paired (IsSc H2) us rows ∧ rdL rows = (rdL (ss.take i)).filter (out zs) ∧ rows.length ≤ i + cntS (ss.take i) zs) ⟨Ex.new hD, [], [], upd_same, .nil, rfl, Nat.zero_le _⟩ (fun i H2 _ p => SqL.of (p.1 _ _ (e03 _ _ ha))) (fun i v H2 hx p => ?_) (fun H2 p => ?_)⟩
    · obtain ⟨e2, us, rows, hus, pus, er, fr⟩ := p
      obtain ⟨s1, gs, i1⟩ := Pa.get pa hx
      have li : i < ss.length := (List.getElem?_eq_some_iff.mp gs).1
      have rs := rdL_snoc gs
      have cs := cntS_snoc (zs := zs) gs
      have cbi := cb i (by omega)
      have lu : us.length ≤ i + i * ts.length := by
        have z := Pa.len pus
        omega
      have big : i * ts.length ≤ 999 * 1000 := Nat.mul_le_mul (by omega) tew
      refine ⟨rfl, v, rfl, .ref p, rfl, v, p, s1, zs, rfl, i1.mono (e03.trans e2), hZ.mono e2, by omega, Az, fun p4 H4 ys np4 e4 hp4 ry fy => ?_⟩
      obtain ⟨yv, hyv, pyv⟩ := hp4
      have ly := Pa.len pyv
      have cl := List.length_filter_le (ins (lo s1) (hi s1)) zs
      have pD : p4 ≠ D := fun z => by
        rw [z, hus] at np4
        cases np4
      refine ⟨p4, rfl, ⟨_, SqL.of hyv⟩, in_list (ys := yv) (fun j H5 => Ex H3 H5 ∧ H5 p4 = some (.lst yv) ∧ Paired (IsSc H5) yv ys ∧ ∃ zv, H5 D = some (.lst zv) ∧ zv.length = us.length + j ∧ Paired (IsSc H5) zv (rows ++ ys.take j)) ?_ (fun j H5 _ z => SqL.of z.2.1) (fun j x H5 hx z => ?_) (fun H5 z => ?_)⟩
      · refine ⟨e2.trans e4, hyv, pyv, us, e4 _ _ hus, rfl, ?_⟩
        rw [List.take_zero, List.append_nil]
        exact Pa.mono e4 pus
      · obtain ⟨e5, hy5, py5, wv, hwv, lw, pw⟩ := z
        obtain ⟨s2, gs2, i2⟩ := Pa.get py5 hx
        have lj : j < yv.length := (List.getElem?_eq_some_iff.mp hx).1
        refine ⟨rfl, x, rfl, wv, hwv, small20 (by omega), e5.mut hD, (upd_ne pD).trans hy5, Pa.lset hwv py5, wv ++ [x], upd_same, ?_, ?_⟩
        · rw [List.length_append, List.length_singleton, lw]
          omega
        · have z := Pa.lset (us' := wv ++ [x]) hwv (Pa.snoc pw i2)
          rw [List.append_assoc] at z
          rw [List.take_add_one, gs2]
          exact z
      · obtain ⟨e5, hy5, py5, wv, hwv, lw, pw⟩ := z
        rw [Pa.len pyv, List.take_length] at pw
        refine ⟨e5, wv, rows ++ ys, hwv, pw, ?_, ?_⟩
        · rw [rdL_app, er, ry, rs, List.filter_append]
        · rw [List.length_append, cs]
          omega
    · obtain ⟨e2, us, rows, hus, pus, er, fr⟩ := p
      rw [lv, List.take_length] at er fr
      refine q D H2 rows (e03.back hD) (e03.trans e2) ⟨us, hus, pus⟩ (by rw [fe]; exact er) ?_ fun d => ?_
      · have := cntS_le ss zs
        rw [lz] at this
        rw [Nat.mul_add, Nat.mul_one]
        omega
      · have := cntS_apart d (zs := zs) Az.le
        omega
theorem ok_joined (B : Bt mg) {f : Addr} {fd : FuncData} (F : Fun K "joined" "joined" sjoined f fd) : FnOk P w K mg base CX0 1 f fd ["scans"] spJoined := by
  refine F.ok scjoined (fun vs H Q E h => ?_) (fun cdv A outer s H vs Q E hr h => ?_)
  · obtain ⟨a, ss, rfl, _⟩ := h
    rfl
  · obtain ⟨a, ss, rfl, ⟨vs, ha, pa⟩, few, q⟩ := h
    refine ⟨_, (pss_cons (ps_set (i := 1) scjoined.nd rfl (by first | exact Or.inl rfl | exact Or.inr rfl) (pe_lst pa_nil))
      (pss_cons (ps_for PassesOwn.never rfl (pi_list (pv 0)) (pg_tup rfl (pgs_cons (pg_name (i := 2) scjoined.nd rfl (by first | exact Or.inl rfl | exact Or.inr rfl)) (pgs_cons (pg_name (i := 3) scjoined.nd rfl (by first | exact Or.inl rfl | exact Or.inr rfl)) pgs_nil))) (pss_one (ps_if (pw_and (pt_truth (pv 1) (by intro _; rfl)) (pw_and1 (pt_cmpR op_eq (pe_callB call_abs (by rfl) B.abs bo_abs (pa_cons (pe_op op_sub (pv 2) (pe_ix ix_tup (pe_ix ix_list (pv 1) (pe_un un_neg pe_int) (fun _ _ => rfl)) pe_int (fun _ _ => rfl))) pa_nil)) pe_int (nomark _)))).pt (pss_one (ps_asg (pe_tup (pa_cons (pe_ix ix_tup (pe_ix ix_list (pv 1) (pe_un un_neg pe_int) (fun _ _ => rfl)) pe_int (fun _ _ => rfl)) (pa_cons (pv 3) pa_nil))) (pg_sub (pv 1) (pe_un un_neg pe_int) set_list))) (pss_one (ps_expr (pe_bm PySem.F.plainAttrs_list PySem.F.slot_list_append PySem.F.type_list_append mt_append (pv 1) (pa_cons (pe_tup (pa_cons (pv 2) (pa_cons (pv 3) pa_nil))) pa_nil)))))))
      (pss_one (ps_ret (pv 1))))), ?_⟩
    have lv : vs.length = ss.length := Pa.len pa
    refine ⟨Nat.zero_le _, fun p np => ?_⟩
    refine ⟨.ref a, rfl, a, rfl, ⟨_, SqL.of (Ex.new np _ _ ha)⟩, for_list (xs := vs) (JW H a p ss) ⟨none, none, [], rfl, Ex.new np, upd_same, .nil⟩ (fun i σ H1 _ pv => ?_) (fun i v0 σ H1 hx pv => ?_) (fun σ H1 pv => ?_)⟩
    · obtain ⟨_, _, _, _, e1, _⟩ := pv
      exact SqL.of (e1 _ _ ha)
    · obtain ⟨y2, y3, us, rfl, e1, hp, pu⟩ := pv
      obtain ⟨⟨x, y⟩, gs, t0, rfl, ht0⟩ := Pa.get pa hx
      have hi : i < ss.length := (List.getElem?_eq_some_iff.mp gs).1
      have lu : us.length ≤ i := by
        have z := Pa.len pu
        have z2 := jn_len (ss.take i)
        rw [List.length_take] at z2
        omega
      refine ⟨t0, _, rfl, SqT.of (e1 _ _ ht0), rfl, _, _, rfl, _, _, rfl, rfl, ?_⟩
      refine ⟨.ref p, rfl, !us.isEmpty, .inl ⟨us, SqL.of hp, rfl⟩, ?_⟩
      rcases eq_nil_or_snoc us with eu | ⟨pre, v, eu⟩
      · subst eu
        have ej : jn (ss.take i) = [] := by
          cases hj : jn (ss.take i) with
          | nil => rfl
          | cons c r =>
            rw [hj] at pu
            cases pu
        refine iteF (iteF ⟨.ref p, rfl, .inl ⟨rfl, _, .inl (.inl hp)⟩, .int x, rfl, .int y, rfl, by show 2 ≤ sizeLine; decide, fun q nq => ⟨p, [], .ref q, rfl, rfl, (upd_ne (ne_of_none hp nq)).trans hp, by decide, ?_⟩⟩)
        exact jw_app np gs e1 hp pu nq (by rw [ej]; rfl) ⟨_, _, rfl⟩
      · subst eu
        obtain ⟨pre', t, ej, pp, tv, rfl, htv⟩ := Pa.concat pu
        have emp : (!(pre ++ [V.ref tv]).isEmpty) = true := by simp
        rw [emp]
        refine iteT ⟨.int x, rfl, .ref p, rfl, 1, rfl, p, _, -1, .ref tv, rfl, rfl, SqL.of hp, atI_last _ _, tv, _, 1, _, rfl, rfl, SqT.of htv, rfl, x, t.2, rfl, rfl, x - t.2, rfl, rfl, _, rfl, ite2 (fun e => ?_) (fun e => ?_)⟩
        · have hc : absI (x - t.2) = 1 := V.int.inj (of_decide_eq_true e)
          refine ⟨.ref p, rfl, 1, rfl, p, _, -1, .ref tv, rfl, rfl, SqL.of hp, atI_last _ _, tv, _, 0, _, rfl, rfl, SqT.of htv, rfl, .int y, rfl, by show 2 ≤ sizeLine; decide, fun q nq => ?_⟩
          exact ⟨.ref p, rfl, 1, rfl, p, _, -1, pre.length, rfl, rfl, (upd_ne (ne_of_none hp nq)).trans hp, ix_last _ _, jw_set np gs e1 hp pp nq ej hc ⟨_, _, rfl⟩⟩
        · have hc : ¬ absI (x - t.2) = 1 := fun z => e (decide_eq_true (congrArg V.int z))
          refine ⟨.ref p, rfl, .inl ⟨rfl, _, .inl (.inl hp)⟩, .int x, rfl, .int y, rfl, by show 2 ≤ sizeLine; decide, fun q nq => ⟨p, _, .ref q, rfl, rfl, (upd_ne (ne_of_none hp nq)).trans hp, small20 (by omega), ?_⟩⟩
          exact jw_app np gs e1 hp pu nq (by rw [ej, jstep_snoc, if_neg hc]) ⟨_, _, rfl⟩
    · obtain ⟨y2, y3, us, rfl, e1, hp, pu⟩ := pv
      rw [lv, List.take_length] at pu
      exact ⟨_, rfl, q p _ np e1 ⟨us, hp, pu⟩⟩
theorem ok_put_ahead (Dothers_of : Df P w K mg base "others_of" 3 ["scans", "taken"] spOthers) (Djoined : Df P w K mg base "joined" 1 ["scans"] spJoined) {f : Addr} {fd : FuncData} (F : Fun K "put_ahead" "put_ahead" sput_ahead f fd) : FnOk P w K mg base CX0 4 f fd ["scans", "others"] spAhead := by
  refine F.ok scput_ahead (fun vs H Q E h => ?_) (fun cdv A outer s H vs Q E hr h => ?_)
  · obtain ⟨t, a, ts, ss, rfl, _⟩ := h
    rfl
  · obtain ⟨t, a, ts, ss, rfl, hT, hS, tew, few, dis, q⟩ := h
    refine ⟨_, (pss_one (ps_ret (pe_df Djoined hr (pa_cons (pe_op op_cat (pv 0) (pe_df Dothers_of hr (pa_cons (pv 1) (pa_cons (pv 0) pa_nil)))) pa_nil)))), ?_⟩
    refine ⟨.ref t, rfl, .ref a, rfl, .ref t, rfl, a, t, ss, ts, rfl, hS, hT, few, tew, dis, fun p H1 rows np e1 hp er fr fr2 => ?_⟩
    obtain ⟨vs, ht, pt⟩ := hT.mono e1
    obtain ⟨us, hus, pus⟩ := hp
    have big : ss.length * (ts.length + 1) ≤ 1000 * 1001 := Nat.mul_le_mul few (by omega)
    have lus : us.length ≤ 1000 * 1001 := by
      have z := Pa.len pus
      omega
    have lvs := Pa.len pt
    refine ⟨t, p, vs, us, rfl, rfl, ht, hus, Nat.le_of_lt (small20 (by omega)), fun r nr => ?_⟩
    have xr := Ex.new (o := .lst (vs ++ us)) nr
    have ej : jn (ts ++ rows) = ahead ts ss := by
      unfold ahead
      rw [← er, ← rdL_app, jn_rdL]
    refine ⟨r, ts ++ rows, rfl, ⟨_, upd_same, Pa.app (Pa.mono xr pt) (Pa.mono xr pus)⟩, by rw [List.length_append]; omega, fun b H4 nb e4 hb => ?_⟩
    rw [ej] at hb
    refine q b H4 (e1.back (xr.back nb)) ((e1.trans xr).trans e4) hb fun d => ?_
    rw [← ej]
    have := jn_len (ts ++ rows)
    rw [List.length_append] at this
    have := fr2 d
    omega
theorem ok_placed (B : Bt mg) {f : Addr} {fd : FuncData} (F : Fun K "placed_scans" "placed_scans" splaced_scans f fd) : FnOk P w K mg base CX0 1 f fd ["scans"] spPlaced := by
  refine F.ok scplaced_scans (fun vs H Q E h => ?_) (fun cdv A outer s H vs Q E hr h => ?_)
  · obtain ⟨a, ss, rfl, _⟩ := h
    rfl
  · obtain ⟨a, ss, rfl, ⟨vs, ha, pa⟩, few, q⟩ := h
    refine ⟨_, (pss_cons (ps_set (i := 1) scplaced_scans.nd rfl (by first | exact Or.inl rfl | exact Or.inr rfl) (pe_lst pa_nil))
      (pss_cons (ps_set (i := 2) scplaced_scans.nd rfl (by first | exact Or.inl rfl | exact Or.inr rfl) pe_int)
      (pss_cons (ps_for PassesOwn.never rfl (pi_list (pv 0)) (pg_tup rfl (pgs_cons (pg_name (i := 3) scplaced_scans.nd rfl (by first | exact Or.inl rfl | exact Or.inr rfl)) (pgs_cons (pg_name (i := 4) scplaced_scans.nd rfl (by first | exact Or.inl rfl | exact Or.inr rfl)) pgs_nil))) (pss_cons (ps_expr (pe_bm PySem.F.plainAttrs_list PySem.F.slot_list_append PySem.F.type_list_append mt_append (pv 1) (pa_cons (pe_tup (pa_cons (pe_callB (call_min2 rfl) (by rfl) B.min bo_min (pa_cons (pv 3) (pa_cons (pv 4) pa_nil))) (pa_cons (pe_callB (call_max2 rfl) (by rfl) B.max bo_max (pa_cons (pv 3) (pa_cons (pv 4) pa_nil))) (pa_cons (pv 2) (pa_cons (pe_cmpR op_le (pv 3) (pv 4) (nomark _)) pa_nil))))) pa_nil)))
      (pss_one (ps_set (i := 2) scplaced_scans.nd rfl (by first | exact Or.inl rfl | exact Or.inr rfl) (pe_op op_add (pe_op op_add (pv 2) (pe_callB call_abs (by rfl) B.abs bo_abs (pa_cons (pe_op op_sub (pv 4) (pv 3)) pa_nil))) pe_int)))))
      (pss_one (ps_ret (pv 1)))))), ?_⟩
    have lv : vs.length = ss.length := Pa.len pa
    refine ⟨Nat.zero_le _, fun p np => ?_⟩
    refine ⟨.ref a, rfl, a, rfl, ⟨_, SqL.of ((Ex.new np) _ _ ha)⟩, for_list (xs := vs) (fun i σ H1 => ∃ y3 y4 us, σ = [some (.ref a), some (.ref p), some (.int (psum (ss.take i))), y3, y4] ∧ Ex H H1 ∧ H1 p = some (.lst us) ∧ Paired (IsRw H1) us (pls (ss.take i) 0))
      ⟨none, none, [], rfl, Ex.new np, upd_same, .nil⟩ (fun i σ H1 _ z => ?_) (fun i v σ H1 hx z => ?_) (fun σ H1 z => ?_)⟩
    · obtain ⟨_, _, _, _, e1, _⟩ := z
      exact SqL.of (e1 _ _ ha)
    · obtain ⟨y3, y4, us, rfl, e1, hp, pu⟩ := z
      obtain ⟨⟨x, y⟩, gs, tp, rfl, ht⟩ := Pa.get pa hx
      have li : i < ss.length := (List.getElem?_eq_some_iff.mp gs).1
      refine ⟨tp, _, rfl, SqT.of (e1 _ _ ht), rfl, _, _, rfl, _, _, rfl, rfl, ?_⟩
      have lu := Pr.len pu
      rw [pls_len, List.length_take] at lu
      refine ⟨.ref p, rfl, .inl ⟨rfl, _, .inl (.inl hp)⟩, .int x, rfl, .int y, rfl, x, y, rfl, .int x, rfl, .int y, rfl, x, y, rfl, .int (psum (ss.take i)), rfl, .int x, rfl, .int y, rfl, x, y, rfl, rfl, by show 4 ≤ sizeLine; decide, fun t nt => ?_⟩
      rw [show (if y < x then y else x) = lo (x, y) from rfl, show (if y > x then y else x) = hi (x, y) from rfl]
      have y1 := Ex.new (o := .tup [V.int (lo (x, y)), V.int (hi (x, y)), V.int (psum (ss.take i)), V.bl (decide (x ≤ y))]) nt
      refine ⟨p, us, .ref t, rfl, rfl, y1 _ _ hp, small20 (by omega), ?_⟩
      refine ⟨.int (psum (ss.take i)), rfl, .int y, rfl, .int x, rfl, y, x, rfl, rfl, y - x, rfl, _, _, rfl, rfl, _, _, rfl, rfl, some (.int x), some (.int y), us ++ [.ref t], ?_, (e1.trans y1).mut np, upd_same, ?_⟩
      · rw [psum_snoc gs]
        show _ = [_, _, some (V.int (_ + (_ + 1))), _, _]
        rw [← Int.add_assoc]
        rfl
      · have z := Rws.snoc (x := (lo (x, y), hi (x, y), psum (ss.take i), decide (x ≤ y))) (y1 _ _ hp) (Pz.imp (fun _ _ => IsRw.mono y1) pu) (ne_of_none hp nt).symm upd_same
        obtain ⟨us', hu', pu'⟩ := z
        rw [upd_same] at hu'
        cases hu'
        rw [List.take_add_one, gs]
        show Paired _ _ (pls (ss.take i ++ [(x, y)]) 0)
        rw [pls_app, Int.zero_add]
        exact pu'
    · obtain ⟨y3, y4, us, rfl, e1, hp, pu⟩ := z
      rw [lv, List.take_length] at pu
      exact ⟨_, rfl, q p _ np e1 ⟨us, hp, pu⟩⟩
theorem ok_startOf {f : Addr} {fd : FuncData} (F : Fun K "start_of" "start_of" sstart_of f fd) : FnOk P w K mg base CX0 1 f fd ["row", "low", "high"] spStartOf := by
  refine F.ok scstart_of (fun vs H Q E h => ?_) (fun cdv A outer s H vs Q E hr h => ?_)
  · obtain ⟨v, x, l, h, rfl, _⟩ := h
    rfl
  · obtain ⟨v, ⟨a, b, c, u⟩, l, h, rfl, ⟨t, rfl, ht⟩, q⟩ := h
    refine ⟨_, (pss_cons (ps_asg (pv 0) (pg_tup rfl (pgs_cons (pg_name (i := 3) scstart_of.nd rfl (by first | exact Or.inl rfl | exact Or.inr rfl)) (pgs_cons (pg_name (i := 4) scstart_of.nd rfl (by first | exact Or.inl rfl | exact Or.inr rfl)) (pgs_cons (pg_name (i := 5) scstart_of.nd rfl (by first | exact Or.inl rfl | exact Or.inr rfl)) (pgs_cons (pg_name (i := 6) scstart_of.nd rfl (by first | exact Or.inl rfl | exact Or.inr rfl)) pgs_nil))))))
      (pss_one (ps_ret (pe_ifExp (pt_truth (pv 6) (by intro _; rfl)) (pe_op op_sub (pe_op op_add (pv 5) (pv 1)) (pv 3)) (pe_op op_sub (pe_op op_add (pv 5) (pv 4)) (pv 2)))))), ?_⟩
    refine ⟨.ref t, rfl, t, _, rfl, SqT.of ht, rfl, _, _, rfl, _, _, rfl, _, _, rfl, _, _, rfl, rfl, ?_⟩
    cases u
    · refine ⟨.bl false, rfl, false, rfl, iteF ⟨.int c, rfl, .int b, rfl, c, b, rfl, rfl, .int h, rfl, c + b, h, rfl, rfl, q.go (.refl _)⟩⟩
    · refine ⟨.bl true, rfl, true, rfl, iteT ⟨.int c, rfl, .int l, rfl, c, l, rfl, rfl, .int a, rfl, c + l, a, rfl, rfl, q.go (.refl _)⟩⟩
theorem ok_shared (B : Bt mg) (B3 : mg "sorted" = none) (Dplaced_scans : Df P w K mg base "placed_scans" 1 ["scans"] spPlaced) (Dstart_of : Df P w K mg base "start_of" 1 ["row", "low", "high"] spStartOf) {f : Addr} {fd : FuncData} (F : Fun K "shared_intervals" "shared_intervals" sshared_intervals f fd) : FnOk P w K mg base CX0 2 f fd ["lasts", "firsts"] spShared := by
  refine F.ok scshared_intervals (fun vs H Q E h => ?_) (fun cdv A outer s H vs Q E hr h => ?_)
  · obtain ⟨a, c, ls, fs, rfl, _⟩ := h
    rfl
  · obtain ⟨a, c, ls, fs, rfl, T2, q⟩ := h
    refine ⟨_, (pss_cons (ps_set (i := 2) scshared_intervals.nd rfl (by first | exact Or.inl rfl | exact Or.inr rfl) (pe_lst pa_nil))
      (pss_cons (ps_par (i := 3) (j := 4) rfl scshared_intervals.nd rfl rfl (by decide) rfl rfl (pa_cons (pe_callB cr_sortedQ (by rfl) B.sorted bo_sorted (pa_cons (pe_df Dplaced_scans hr (pa_cons (pv 0) pa_nil)) pa_nil)) (pa_cons (pe_callB cr_sortedQ (by rfl) B.sorted bo_sorted (pa_cons (pe_df Dplaced_scans hr (pa_cons (pv 1) pa_nil)) pa_nil)) pa_nil)) (by rfl))
      (pss_cons (ps_asg2 pe_int (pg_name (i := 5) scshared_intervals.nd rfl (by first | exact Or.inl rfl | exact Or.inr rfl)) (pg_name (i := 6) scshared_intervals.nd rfl (by first | exact Or.inl rfl | exact Or.inr rfl)))
      (pss_cons (ps_while PassesOwn.never (pw_and (pt_cmpR op_lt (pv 5) (pe_callB call_len_seq (by rfl) B.len bo_len (pa_cons (pv 3) pa_nil)) (nomark _)) (pw_and1 (pt_cmpR op_lt (pv 6) (pe_callB call_len_seq (by rfl) B.len bo_len (pa_cons (pv 4) pa_nil)) (nomark _)))).pt (pss_cons (ps_par (i := 7) (j := 8) rfl scshared_intervals.nd rfl rfl (by decide) rfl rfl (pa_cons (pe_ix ix_list (pv 3) (pv 5) (fun _ _ => rfl)) (pa_cons (pe_ix ix_list (pv 4) (pv 6) (fun _ _ => rfl)) pa_nil)) (by rfl))
      (pss_cons (ps_par (i := 9) (j := 10) rfl scshared_intervals.nd rfl rfl (by decide) rfl rfl (pa_cons (pe_callB (call_max2 rfl) (by rfl) B.max bo_max (pa_cons (pe_ix ix_tup (pv 7) pe_int (fun _ _ => rfl)) (pa_cons (pe_ix ix_tup (pv 8) pe_int (fun _ _ => rfl)) pa_nil))) (pa_cons (pe_callB (call_min2 rfl) (by rfl) B.min bo_min (pa_cons (pe_ix ix_tup (pv 7) pe_int (fun _ _ => rfl)) (pa_cons (pe_ix ix_tup (pv 8) pe_int (fun _ _ => rfl)) pa_nil))) pa_nil)) (by rfl))
      (pss_cons (ps_if (pt_cmpR op_le (pv 9) (pv 10) (nomark _)) (pss_one (ps_expr (pe_bm PySem.F.plainAttrs_list PySem.F.slot_list_append PySem.F.type_list_append mt_append (pv 2) (pa_cons (pe_tup (pa_cons (pe_df Dstart_of hr (pa_cons (pv 7) (pa_cons (pv 9) (pa_cons (pv 10) pa_nil)))) (pa_cons (pe_df Dstart_of hr (pa_cons (pv 8) (pa_cons (pv 9) (pa_cons (pv 10) pa_nil)))) (pa_cons (pe_op op_add (pe_op op_sub (pv 10) (pv 9)) pe_int) (pa_cons (pe_cmpR op_eq (pe_ix ix_tup (pv 7) pe_int (fun _ _ => rfl)) (pe_ix ix_tup (pv 8) pe_int (fun _ _ => rfl)) (nomark _)) pa_nil))))) pa_nil)))) pss_nil)
      (pss_one (ps_if (pt_cmpR op_le (pe_ix ix_tup (pv 7) pe_int (fun _ _ => rfl)) (pe_ix ix_tup (pv 8) pe_int (fun _ _ => rfl)) (nomark _)) (pss_one (ps_aug (i := 5) scshared_intervals.nd rfl (by first | exact Or.inl rfl | exact Or.inr rfl) pe_int ip_add)) (pss_one (ps_aug (i := 6) scshared_intervals.nd rfl (by first | exact Or.inl rfl | exact Or.inr rfl) pe_int ip_add))))))))
      (pss_one (ps_ret (pv 2))))))), ?_⟩
    refine ⟨Nat.zero_le _, fun p np => ?_⟩
    have z0 := Ex.new (o := .lst []) np
    have T0 := T2.mono z0
    have hp0 := upd_same (H := H) (a := p) (o := .lst [])
    generalize upd H p (.lst []) = H0 at z0 T0 hp0 ⊢
    refine ⟨.ref a, rfl, a, ls, rfl, T0.l, T0.l18, fun p1 H1 np1 e1 R1 => ?_⟩
    obtain ⟨us1, hp1, pu1⟩ := R1
    obtain ⟨k1, k2, k3⟩ := sort_ok T0.la pu1
    refine ⟨p1, us1, kR H1, rfl, SqL.of hp1, k1, k2, fun ys1 q1 pe1 or1 nq1 => ?_⟩
    obtain ⟨S1, pr1⟩ := k3 ys1 pe1 or1
    generalize ys1.map (kR H1) = LA at S1 pr1
    have z1 := Ex.new (o := .lst ys1) nq1
    have hq1 := upd_same (H := H1) (a := q1) (o := .lst ys1)
    have e01 := e1.trans z1
    have T1 := T0.mono e01
    have pr1 := Pz.imp (fun _ _ => IsRw.mono z1) pr1
    have hp1' := e01 _ _ hp0
    have nqp1 : q1 ≠ p := fun h => by
      rw [h, e1 _ _ hp0] at nq1
      cases nq1
    generalize upd H1 q1 (.lst ys1) = H2 at z1 hq1 e01 T1 pr1 hp1' ⊢
    refine ⟨.ref c, rfl, c, fs, rfl, T1.f, T1.f18, fun p2 H3 np2 e2 R2 => ?_⟩
    obtain ⟨us2, hp2, pu2⟩ := R2
    obtain ⟨k1, k2, k3⟩ := sort_ok T1.fa pu2
    refine ⟨p2, us2, kR H3, rfl, SqL.of hp2, k1, k2, fun ys2 q2 pe2 or2 nq2 => ?_⟩
    obtain ⟨S2, pr2⟩ := k3 ys2 pe2 or2
    generalize ys2.map (kR H3) = LB at S2 pr2
    have z2 := Ex.new (o := .lst ys2) nq2
    have hq2 := upd_same (H := H3) (a := q2) (o := .lst ys2)
    have e02 := e2.trans z2
    have pr1 := Pz.imp (fun _ _ => IsRw.mono e02) pr1
    have pr2 := Pz.imp (fun _ _ => IsRw.mono z2) pr2
    have hp3 := e02 _ _ hp1'
    have hq1 := e02 _ _ hq1
    have nqp2 : q2 ≠ p := fun h => by
      rw [h, e2 _ _ hp1'] at nq2
      cases nq2
    have eH := z0.trans (e01.trans e02)
    generalize upd H3 q2 (.lst ys2) = H4 at z2 hq2 e02 pr1 pr2 hp3 hq1 eH ⊢
    have few := shr_few S1 S2
    have l1 := T2.l18
    have l2 := T2.f18
    have lA := Pz.len pr1
    have lB := Pz.len pr2
    refine ⟨_, _, rfl, fun m σ H' => ∃ (i j : Nat) (us : List V) (D : List (Rw × Rw)) (y7 y8 y9 y10 : Option V), m = (LA.length - i) + (LB.length - j) ∧ σ = [some (.ref a), some (.ref c), some (.ref p), some (.ref q1), some (.ref q2), some (.int i), some (.int j), y7, y8, y9, y10] ∧ Ex H H' ∧ H' p = some (.lst us) ∧ H' q1 = some (.lst ys1) ∧ H' q2 = some (.lst ys2) ∧ Paired (IsRw H') ys1 LA ∧ Paired (IsRw H') ys2 LB ∧ Paired (IsRw H') us (D.map rwB) ∧ i ≤ LA.length ∧ j ≤ LB.length ∧ D ++ shr (LA.drop i) (LB.drop j) = shr LA LB,
      ⟨_, 0, 0, [], [], none, none, none, none, rfl, rfl, eH, hp3, hq1, hq2, pr1, pr2, .nil, Nat.zero_le _, Nat.zero_le _, rfl⟩, fun m σ H' hW => ?_⟩
    obtain ⟨i, j, us, D, y7, y8, y9, y10, rfl, rfl, e, hp, h1, h2, a1, a2, pu, li, lj, eq⟩ := hW
    refine ⟨.int i, rfl, .ref q1, rfl, q1, _, rfl, .inl (SqL.of h1), _, _, rfl, rfl, _, rfl, ?_⟩
    have fin : i = LA.length ∨ j = LB.length → Q (.ref p) H' := fun h => by
      refine q p H' LA LB np e S1 S2 ⟨us, hp, ?_⟩
      rcases h with h | h
      · rw [h, List.drop_length, shr_nil, List.append_nil] at eq
        rw [← eq]
        exact pu
      · rw [h, List.drop_length, shr_nil2, List.append_nil] at eq
        rw [← eq]
        exact pu
    refine ite2 (fun g1 => ?_) (fun g1 => ?_)
    case' refine_2 => exact iteF ⟨_, rfl, fin (.inl (by have : ¬ (i : Int) < ys1.length := fun z => g1 (decide_eq_true z); omega))⟩
    have g1 : (i : Int) < ys1.length := of_decide_eq_true g1
    refine ⟨.int j, rfl, .ref q2, rfl, q2, _, rfl, .inl (SqL.of h2), _, _, rfl, rfl, _, rfl, ite2 (fun g2 => ?_) (fun g2 => ?_)⟩
    case' refine_2 => exact ⟨_, rfl, fin (.inr (by have : ¬ (j : Int) < ys2.length := fun z => g2 (decide_eq_true z); omega))⟩
    have g2 : (j : Int) < ys2.length := of_decide_eq_true g2
    have il : i < LA.length := by omega
    have jl : j < LB.length := by omega
    rw [List.drop_eq_getElem_cons il, List.drop_eq_getElem_cons jl, shr_cons, ← List.drop_eq_getElem_cons il, ← List.drop_eq_getElem_cons jl, ← List.append_assoc] at eq
    obtain ⟨v1, w1, t1, rfl, ht1⟩ := Pz.get2 a1 (List.getElem?_eq_getElem il)
    obtain ⟨v2, w2, t2, rfl, ht2⟩ := Pz.get2 a2 (List.getElem?_eq_getElem jl)
    generalize LA[i] = x at eq ht1
    generalize LB[j] = y at eq ht2
    refine ⟨fun σ' H' => ∃ (i' j' : Nat) (us : List V) (D : List (Rw × Rw)) (y7 y8 y9 y10 : Option V), (LA.length - i') + (LB.length - j') < (LA.length - i) + (LB.length - j) ∧ σ' = [some (.ref a), some (.ref c), some (.ref p), some (.ref q1), some (.ref q2), some (.int i'), some (.int j'), y7, y8, y9, y10] ∧ Ex H H' ∧ H' p = some (.lst us) ∧ H' q1 = some (.lst ys1) ∧ H' q2 = some (.lst ys2) ∧ Paired (IsRw H') ys1 LA ∧ Paired (IsRw H') ys2 LB ∧ Paired (IsRw H') us (D.map rwB) ∧ i' ≤ LA.length ∧ j' ≤ LB.length ∧ D ++ shr (LA.drop i') (LB.drop j') = shr LA LB, fun σ' H' hN => ?_, ?_⟩
    · obtain ⟨i', j', us, D, y7, y8, y9, y10, c, r⟩ := hN
      exact ⟨_, c, i', j', us, D, y7, y8, y9, y10, rfl, r⟩
    have lD : us.length ≤ 2 ^ 19 := by
      have z := Pz.len pu
      have z2 := congrArg List.length eq
      rw [List.length_append, List.length_append] at z2
      rw [List.length_map] at z
      omega
    refine ⟨.ref q1, rfl, .int i, rfl, q1, ys1, i, .ref t1, rfl, rfl, SqL.of h1, atI_nat w1, .ref q2, rfl, .int j, rfl, q2, ys2, j, .ref t2, rfl, rfl, SqL.of h2, atI_nat w2, _, _, rfl, ?_⟩
    refine ⟨.ref t1, rfl, t1, _, 0, _, rfl, rfl, SqT.of ht1, rfl, .ref t2, rfl, t2, _, 0, _, rfl, rfl, SqT.of ht2, rfl, _, _, rfl, .ref t1, rfl, t1, _, 1, _, rfl, rfl, SqT.of ht1, rfl, .ref t2, rfl, t2, _, 1, _, rfl, rfl, SqT.of ht2, rfl, _, _, rfl, _, _, rfl, ?_⟩
    rw [show (if y.1 > x.1 then y.1 else x.1) = blo (x, y) from rfl, show (if y.2.1 < x.2.1 then y.2.1 else x.2.1) = bhi (x, y) from rfl]
    refine ⟨_, rfl, _, rfl, _, _, rfl, rfl, _, rfl, ite2 (fun c => ?kA) (fun c => ?kB)⟩
    case' kA =>
      have c : blo (x, y) ≤ bhi (x, y) := of_decide_eq_true c
      rw [if_pos c] at eq
      refine ⟨.ref p, rfl, .inl ⟨rfl, _, .inl (.inl hp)⟩, .ref t1, rfl, _, rfl, _, rfl, .ref t1, x, _, _, rfl, ⟨t1, rfl, ht1⟩, fun H5 e5 => ⟨.ref t2, rfl, _, rfl, _, rfl, .ref t2, y, _, _, rfl, ⟨t2, rfl, e5 _ _ ht2⟩, fun H6 e6 => ⟨_, rfl, _, rfl, _, _, rfl, rfl, _, 1, rfl, rfl, .ref t1, rfl, t1, _, 3, _, rfl, rfl, SqT.of ((e5.trans e6) _ _ ht1), rfl, .ref t2, rfl, t2, _, 3, _, rfl, rfl, SqT.of ((e5.trans e6) _ _ ht2), rfl, rfl, by show 4 ≤ sizeLine; decide, fun t nt => ?_⟩⟩⟩
      rw [dec_bl]
      have y1 := (e5.trans e6).trans (Ex.new (o := .tup [V.int (stPl x (blo (x, y)) (bhi (x, y))), V.int (stPl y (blo (x, y)) (bhi (x, y))), V.int (bhi (x, y) - blo (x, y) + 1), V.bl (x.2.2.2 == y.2.2.2)]) nt)
      have y2 := (e6.trans (Ex.new (o := .tup [V.int (stPl x (blo (x, y)) (bhi (x, y))), V.int (stPl y (blo (x, y)) (bhi (x, y))), V.int (bhi (x, y) - blo (x, y) + 1), V.bl (x.2.2.2 == y.2.2.2)]) nt))
      have ny : ∀ {b : Addr} {o : HO}, H' b = some o → t ≠ b := fun h z => by
        rw [z, (e5.trans e6) _ _ h] at nt
        cases nt
      have hp := y1 _ _ hp
      have h1 := y1 _ _ h1
      have h2 := y1 _ _ h2
      have R := Rws.snoc (x := rwB (x, y)) hp (Pz.imp (fun _ _ => IsRw.mono y1) pu) (ny ‹H' p = some (.lst us)›) upd_same
      refine ⟨p, us, .ref t, rfl, rfl, hp, small20 (by omega), ?_⟩
      have e := Ex.mut (o := .lst (us ++ [V.ref t])) (e.trans y1) np
      have a1 := Pz.imp (fun _ _ h => IsRw.lset (o := .lst (us ++ [V.ref t])) hp (IsRw.mono y1 h)) a1
      have a2 := Pz.imp (fun _ _ h => IsRw.lset (o := .lst (us ++ [V.ref t])) hp (IsRw.mono y1 h)) a2
      have n1 : t1 ≠ p := fun z => by
        rw [← z, y1 _ _ ht1] at hp
        cases hp
      have n2 : t2 ≠ p := fun z => by
        rw [← z, y1 _ _ ht2] at hp
        cases hp
      have ht1 := (upd_ne (o := .lst (us ++ [V.ref t])) n1).trans (y1 _ _ ht1)
      have ht2 := (upd_ne (o := .lst (us ++ [V.ref t])) n2).trans (y1 _ _ ht2)
      have h1 := (upd_ne (o := .lst (us ++ [V.ref t])) nqp1).trans h1
      have h2 := (upd_ne (o := .lst (us ++ [V.ref t])) nqp2).trans h2
      obtain ⟨us5, hu5, pu⟩ := R
      rw [upd_same] at hu5
      cases hu5
      rw [show D.map rwB ++ [rwB (x, y)] = (D ++ [(x, y)]).map rwB by rw [List.map_append]; rfl] at pu
      have hp := upd_same (H := upd H6 t (.tup [V.int (stPl x (blo (x, y)) (bhi (x, y))), V.int (stPl y (blo (x, y)) (bhi (x, y))), V.int (bhi (x, y) - blo (x, y) + 1), V.bl (x.2.2.2 == y.2.2.2)])) (a := p) (o := .lst (us ++ [V.ref t]))
      dsimp only
      generalize upd (upd H6 t (.tup [V.int (stPl x (blo (x, y)) (bhi (x, y))), V.int (stPl y (blo (x, y)) (bhi (x, y))), V.int (bhi (x, y) - blo (x, y) + 1), V.bl (x.2.2.2 == y.2.2.2)])) p (.lst (us ++ [V.ref t])) = H' at e hp h1 h2 a1 a2 pu ht1 ht2 ⊢
      generalize us ++ [V.ref t] = us at hp pu
      generalize D ++ [(x, y)] = D at eq pu
    case' kB =>
      have c : ¬ blo (x, y) ≤ bhi (x, y) := fun z => c (decide_eq_true z)
      rw [if_neg c, List.append_nil] at eq
    all_goals
      refine ⟨.ref t1, rfl, t1, _, 1, _, rfl, rfl, SqT.of ht1, rfl, .ref t2, rfl, t2, _, 1, _, rfl, rfl, SqT.of ht2, rfl, _, _, rfl, rfl, _, rfl, ite2 (fun c2 => ?_) (fun c2 => ?_)⟩
      · have c2 : x.2.1 ≤ y.2.1 := of_decide_eq_true c2
        rw [if_pos c2] at eq
        exact ⟨_, rfl, _, _, rfl, rfl, i + 1, j, us, D, _, _, _, _, by omega, rfl, e, hp, h1, h2, a1, a2, pu, by omega, lj, eq⟩
      · have c2 : ¬ x.2.1 ≤ y.2.1 := fun z => c2 (decide_eq_true z)
        rw [if_neg c2] at eq
        exact ⟨_, rfl, _, _, rfl, rfl, i, j + 1, us, D, _, _, _, _, by omega, rfl, e, hp, h1, h2, a1, a2, pu, li, by omega, eq⟩
theorem ok_rows (B : Bt mg) (Dshared_intervals : Df P w K mg base "shared_intervals" 2 ["lasts", "firsts"] spShared) {f : Addr} {fd : FuncData} (F : Fun K "straight_rows" "straight_rows" sstraight_rows f fd) : FnOk P w K mg base CX0 3 f fd ["lasts", "firsts"] spRows := by
  refine F.ok scstraight_rows (fun vs H Q E h => ?_) (fun cdv A outer s H vs Q E hr h => ?_)
  · obtain ⟨a, c, ls, fs, rfl, _⟩ := h
    rfl
  · obtain ⟨a, c, ls, fs, rfl, T2, q⟩ := h
    refine ⟨_, (pss_cons (ps_set (i := 2) scstraight_rows.nd rfl (by first | exact Or.inl rfl | exact Or.inr rfl) (pe_df Dshared_intervals hr (pa_cons (pv 0) (pa_cons (pv 1) pa_nil))))
      (pss_cons (ps_set (i := 3) scstraight_rows.nd rfl (by first | exact Or.inl rfl | exact Or.inr rfl) (pe_lst pa_nil))
      (pss_cons (ps_for PassesOwn.never rfl (pi_list (pv 2)) (pg_tup rfl (pgs_cons (pg_name (i := 4) scstraight_rows.nd rfl (by first | exact Or.inl rfl | exact Or.inr rfl)) (pgs_cons (pg_name (i := 5) scstraight_rows.nd rfl (by first | exact Or.inl rfl | exact Or.inr rfl)) (pgs_cons (pg_name (i := 6) scstraight_rows.nd rfl (by first | exact Or.inl rfl | exact Or.inr rfl)) (pgs_cons (pg_name (i := 7) scstraight_rows.nd rfl (by first | exact Or.inl rfl | exact Or.inr rfl)) pgs_nil))))) (pss_cons (ps_set (i := 8) scstraight_rows.nd rfl (by first | exact Or.inl rfl | exact Or.inr rfl) (pe_callB (cr_sum rfl) (by rfl) B.sum bo_sum (pa_cons (pe_lc (own := [("row", 10)]) (g := (gName 10)) (te := (tOp (rIxT K) (tVar 10) _)) (tt := (tAnd (tTest (tOp _ (tOp (rIxT K) (tVar 10) _) (tVar 4))) (tTest (tOp _ (tOp (rIxT K) (tVar 10) _) (tVar 5))))) rfl scstraight_rows.nd (pi_list (pv 2)) (blkOk_by (N := ["lasts", "firsts", "shared", "rows", "in_lasts", "in_firsts", "length", "one_direction", "in_both", "distance", "row"]) (sc := defScope sstraight_rows) (by decide +kernel)) (by exact fun _ _ _ _ _ => (pg_name (i := 10) scstraight_rows.nd rfl (by first | exact Or.inl rfl | exact Or.inr rfl))) (by exact fun _ _ _ _ _ => (pts_one (pw_and (pt_cmpR op_lt (pe_ix ix_tup (pv 10) pe_int (fun _ _ => rfl)) (pv 4) (nomark _)) (pw_and1 (pt_cmpR op_lt (pe_ix ix_tup (pv 10) pe_int (fun _ _ => rfl)) (pv 5) (nomark _)))).pt)) (by exact fun _ _ _ _ _ => (pe_ix ix_tup (pv 10) pe_int (fun _ _ => rfl)))) pa_nil)))
      (pss_cons (ps_set (i := 9) scstraight_rows.nd rfl (by first | exact Or.inl rfl | exact Or.inr rfl) (pe_op op_sub (pe_op op_add (pe_op op_add pe_int (pv 4)) (pv 5)) (pv 8)))
      (pss_one (ps_expr (pe_bm PySem.F.plainAttrs_list PySem.F.slot_list_append PySem.F.type_list_append mt_append (pv 3) (pa_cons (pe_tup (pa_cons (pv 5) (pa_cons (pv 6) (pa_cons (pe_ifExp (pt_truth (pv 7) (by intro _; rfl)) (pv 9) (pe_op op_sub (pe_op op_add (pv 9) (pv 6)) pe_int)) (pa_cons (pv 7) pa_nil))))) pa_nil)))))))
      (pss_one (ps_ret (pv 3)))))), ?_⟩
    have few : ∀ {LA LB : List Rw}, Srt ls LA → Srt fs LB → (shr LA LB).length ≤ 2 ^ 19 := fun h1 h2 => by
      have := shr_few h1 h2
      have := T2.l18
      have := T2.f18
      omega
    refine ⟨.ref a, rfl, .ref c, rfl, a, c, ls, fs, rfl, T2, fun p H1 LA LB np e1 SA SB R => ⟨Nat.zero_le _, fun r nr => ?_⟩⟩
    obtain ⟨vs, hp, pa⟩ := R
    have z1 := Ex.new (o := .lst []) nr
    have few := few SA SB
    have q := fun r H' np e h => q r H' LA LB np e SA SB h
    generalize shr LA LB = P at pa few q
    have lv := Pz.len pa
    rw [List.length_map] at lv
    have nr0 := e1.back nr
    refine ⟨.ref p, rfl, p, rfl, ⟨_, SqL.of (z1 _ _ hp)⟩, for_list (xs := vs) (fun i σ H' => ∃ y4 y5 y6 y7 y8 y9 us, σ = [some (.ref a), some (.ref c), some (.ref p), some (.ref r), y4, y5, y6, y7, y8, y9, none] ∧ Ex H1 H' ∧ H' r = some (.lst us) ∧ Paired (IsRw H') us ((P.take i).map (srB P)))
      ⟨none, none, none, none, none, none, [], rfl, z1, upd_same, .nil⟩ (fun i σ H2 _ z => ?_) (fun i v σ H2 hx z => ?_) (fun σ H2 z => ?_)⟩
    · obtain ⟨_, _, _, _, _, _, _, _, e2, _⟩ := z
      exact SqL.of (e2 _ _ hp)
    · obtain ⟨y4, y5, y6, y7, y8, y9, us, rfl, e2, hr, pu⟩ := z
      obtain ⟨x, gx, t, rfl, ht⟩ := Pz.get pa hx
      rw [List.getElem?_map, Option.map_eq_some_iff] at gx
      obtain ⟨b, gb, rfl⟩ := gx
      have li : i < P.length := (List.getElem?_eq_some_iff.mp gb).1
      have lus := Pz.len pu
      rw [List.length_map, List.length_take] at lus
      refine ⟨t, _, rfl, SqT.of (e2 _ _ ht), rfl, _, _, rfl, _, _, rfl, _, _, rfl, _, _, rfl, rfl, ?_⟩
      refine ⟨.ref p, rfl, p, rfl, ⟨_, SqL.of (e2 _ _ hp)⟩, fun D hD => lc_list (xs := vs) (fun j H3 => Ex H2 H3 ∧ H3 D = some (.lst ((((P.take j).filter fun c => decide (bp c < bp b ∧ bq c < bq b)).map bn).map V.int))) ⟨Ex.new hD, upd_same⟩ (fun j H3 _ z => SqL.of ((e2.trans z.1) _ _ hp)) (fun j v H3 hx2 z => ?_) (fun H3 z => ?_)⟩
      · obtain ⟨e3, hL⟩ := z
        obtain ⟨x2, gx2, t2, rfl, ht2⟩ := Pz.get pa hx2
        rw [List.getElem?_map, Option.map_eq_some_iff] at gx2
        obtain ⟨c2, gc, rfl⟩ := gx2
        have lj : j < P.length := (List.getElem?_eq_some_iff.mp gc).1
        have fs := filtA (fun c => decide (bp c < bp b ∧ bq c < bq b)) gc
        have le := filtA_le (ps := P) (i := j) fun c => decide (bp c < bp b ∧ bq c < bq b)
        have ht2 := (e2.trans e3) _ _ ht2
        refine ⟨rfl, .ref t2, rfl, t2, _, 0, _, rfl, rfl, SqT.of ht2, rfl, .int (bp b), rfl, _, _, rfl, rfl, _, rfl, ?_⟩
        by_cases c1 : bp c2 < bp b
        · rw [show decide ((rwB c2).1 < bp b) = true from decide_eq_true c1]
          refine iteT ⟨.ref t2, rfl, t2, _, 1, _, rfl, rfl, SqT.of ht2, rfl, .int (bq b), rfl, _, _, rfl, rfl, _, rfl, ite2 (fun g => ?_) (fun g => ?_)⟩
          · have g : bq c2 < bq b := of_decide_eq_true g
            rw [if_pos (decide_eq_true ⟨c1, g⟩)] at fs
            refine ⟨.ref t2, rfl, t2, _, 2, _, rfl, rfl, SqT.of ht2, rfl, _, hL, ?_, e3.mut hD, ?_⟩
            · rw [List.length_map, List.length_map]
              exact small20 (by omega)
            · rw [upd_same, fs, List.map_append, List.map_append]
              rfl
          · have g : ¬ bq c2 < bq b := fun z => g (decide_eq_true z)
            rw [if_neg (fun z => g (of_decide_eq_true z).2), List.append_nil] at fs
            exact ⟨e3, by rw [fs]; exact hL⟩
        · rw [show decide ((rwB c2).1 < bp b) = false from decide_eq_false c1]
          rw [if_neg (fun z => c1 (of_decide_eq_true z).1), List.append_nil] at fs
          exact iteF ⟨e3, by rw [fs]; exact hL⟩
      obtain ⟨e3, hL⟩ := z
      rw [lv, List.take_length] at hL
      refine ⟨D, _, rfl, SqL.of hL, ?_⟩
      rw [in_sum b P]
      refine ⟨.int (bp b), rfl, 1, bp b, rfl, rfl, .int (bq b), rfl, _, _, rfl, rfl, .int (sumI (inB b) P), rfl, _, _, rfl, rfl, ?_⟩
      refine ⟨.ref r, rfl, .inl ⟨rfl, _, .inl (.inl (e3 _ _ hr))⟩, .int (bq b), rfl, .int (bn b), rfl, .bl (bg b), rfl, bg b, rfl, ite2 (fun g => ?_) (fun g => ?_)⟩
      · refine ⟨.int (baseB P b), rfl, .bl (bg b), rfl, by show 4 ≤ sizeLine; decide, fun t nt => ?_⟩
        have y1 := e3.trans (Ex.new (o := .tup [V.int (bq b), V.int (bn b), V.int (baseB P b), V.bl (bg b)]) nt)
        have R := Rws.snoc (x := (bq b, bn b, baseB P b, bg b)) (y1 _ _ hr) (Pz.imp (fun _ _ => IsRw.mono y1) pu) (fun z => by rw [z, e3 _ _ hr] at nt; cases nt) upd_same
        obtain ⟨us', hu', pu'⟩ := R
        rw [upd_same] at hu'
        cases hu'
        have sb : srB P b = (bq b, bn b, baseB P b, bg b) := by
          unfold srB
          rw [if_pos g]
        rw [← sb] at pu'
        refine ⟨r, us, .ref t, rfl, rfl, y1 _ _ hr, small20 (by omega), _, _, _, _, _, _, us ++ [.ref t], rfl, (e2.trans y1).mut nr, upd_same, ?_⟩
        rw [List.take_add_one, gb, List.map_append]
        exact pu'
      · refine ⟨.int (baseB P b), rfl, .int (bn b), rfl, baseB P b, bn b, rfl, rfl, baseB P b + bn b, 1, rfl, rfl, .bl (bg b), rfl, by show 4 ≤ sizeLine; decide, fun t nt => ?_⟩
        have y1 := e3.trans (Ex.new (o := .tup [V.int (bq b), V.int (bn b), V.int (baseB P b + bn b - 1), V.bl (bg b)]) nt)
        have R := Rws.snoc (x := (bq b, bn b, baseB P b + bn b - 1, bg b)) (y1 _ _ hr) (Pz.imp (fun _ _ => IsRw.mono y1) pu) (fun z => by rw [z, e3 _ _ hr] at nt; cases nt) upd_same
        obtain ⟨us', hu', pu'⟩ := R
        rw [upd_same] at hu'
        cases hu'
        have sb : srB P b = (bq b, bn b, baseB P b + bn b - 1, bg b) := by
          unfold srB
          rw [if_neg g]
        rw [← sb] at pu'
        refine ⟨r, us, .ref t, rfl, rfl, y1 _ _ hr, small20 (by omega), _, _, _, _, _, _, us ++ [.ref t], rfl, (e2.trans y1).mut nr, upd_same, ?_⟩
        rw [List.take_add_one, gb, List.map_append]
        exact pu'
    · obtain ⟨y4, y5, y6, y7, y8, y9, us, rfl, e2, hr, pu⟩ := z
      rw [lv, List.take_length] at pu
      exact ⟨_, rfl, q r _ nr0 (e1.trans e2) ⟨us, hr, pu⟩⟩
theorem ok_straightPieces (B : Bt mg) (Dstraight_rows : Df P w K mg base "straight_rows" 3 ["lasts", "firsts"] spRows) {f : Addr} {fd : FuncData} (F : Fun K "straight_pieces" "straight_pieces" sstraight_pieces f fd) : FnOk P w K mg base CX0 4 f fd ["lasts", "firsts"] spPieces := by
  refine F.ok scstraight_pieces (fun vs H Q E h => ?_) (fun cdv A outer s H vs Q E hr h => ?_)
  · obtain ⟨a, c, ls, fs, rfl, _⟩ := h
    rfl
  · obtain ⟨a, c, ls, fs, rfl, T2, q⟩ := h
    refine ⟨_, (pss_cons (ps_set (i := 2) scstraight_pieces.nd rfl (by first | exact Or.inl rfl | exact Or.inr rfl) (pe_lst pa_nil))
      (pss_cons (ps_for PassesOwn.never rfl (pi_list (pe_df Dstraight_rows hr (pa_cons (pv 0) (pa_cons (pv 1) pa_nil)))) (pg_tup rfl (pgs_cons (pg_name (i := 3) scstraight_pieces.nd rfl (by first | exact Or.inl rfl | exact Or.inr rfl)) (pgs_cons (pg_name (i := 4) scstraight_pieces.nd rfl (by first | exact Or.inl rfl | exact Or.inr rfl)) (pgs_cons (pg_name (i := 5) scstraight_pieces.nd rfl (by first | exact Or.inl rfl | exact Or.inr rfl)) (pgs_cons (pg_name (i := 6) scstraight_pieces.nd rfl (by first | exact Or.inl rfl | exact Or.inr rfl)) pgs_nil))))) (pss_one (ps_if (pt_truth (pv 6) (by intro _; rfl)) (pss_one (ps_expr (pe_bm PySem.F.plainAttrs_list PySem.F.slot_list_append PySem.F.type_list_append mt_append (pv 2) (pa_cons (pe_tup (pa_cons (pv 5) (pa_cons (pe_op op_sub (pe_op op_add (pv 5) (pv 4)) pe_int) (pa_cons pe_int pa_nil)))) pa_nil)))) (pss_one (ps_expr (pe_bm PySem.F.plainAttrs_list PySem.F.slot_list_append PySem.F.type_list_append mt_append (pv 2) (pa_cons (pe_tup (pa_cons (pv 5) (pa_cons (pv 5) (pa_cons (pv 4) pa_nil)))) pa_nil)))))))
      (pss_one (ps_ret (pv 2))))), ?_⟩
    refine ⟨Nat.zero_le _, fun r nr => ?_⟩
    have z1 := Ex.new (o := .lst []) nr
    refine ⟨.ref a, rfl, .ref c, rfl, a, c, ls, fs, rfl, T2.mono z1, fun p H1 LA LB np e1 SA SB R => ?_⟩
    obtain ⟨vs, hp, pa⟩ := R
    have few : (shr LA LB).length ≤ 2 ^ 19 := by
      have := shr_few SA SB
      have := T2.l18
      have := T2.f18
      omega
    have q := fun r H' np e h => q r H' LA LB np e SA SB h
    have hr := e1 _ _ (upd_same (H := H) (a := r) (o := .lst []))
    have e01 := z1.trans e1
    generalize shr LA LB = P at pa few q
    have lv := Pz.len pa
    rw [List.length_map] at lv
    refine ⟨p, rfl, ⟨_, SqL.of hp⟩, for_list (xs := vs) (fun i σ H' => ∃ y3 y4 y5 y6 us, σ = [some (.ref a), some (.ref c), some (.ref r), y3, y4, y5, y6] ∧ Ex H H' ∧ H' p = some (.lst vs) ∧ Paired (IsRw H') vs (P.map (srB P)) ∧ H' r = some (.lst us) ∧ PaP H' us ((P.take i).map (pcB P)))
      ⟨none, none, none, none, [], rfl, e01, hp, pa, hr, .nil⟩ (fun i σ H2 _ z => ?_) (fun i v σ H2 hx z => ?_) (fun σ H2 z => ?_)⟩
    · obtain ⟨_, _, _, _, _, _, _, hp, _⟩ := z
      exact SqL.of hp
    · obtain ⟨y3, y4, y5, y6, us, rfl, e2, hp, pa, hr, pu⟩ := z
      obtain ⟨x, gx, t, rfl, ht⟩ := Pz.get pa hx
      rw [List.getElem?_map, Option.map_eq_some_iff] at gx
      obtain ⟨b, gb, rfl⟩ := gx
      have li : i < P.length := (List.getElem?_eq_some_iff.mp gb).1
      have lus := Pz.len pu
      rw [List.length_map, List.length_take] at lus
      have npr : p ≠ r := fun z => by
        rw [z, upd_same] at np
        cases np
      refine ⟨t, _, rfl, SqT.of ht, rfl, _, _, rfl, _, _, rfl, _, _, rfl, _, _, rfl, rfl, ?_⟩
      have push : ∀ (d h n : Int) (t : Addr) (y3 y4 y5 y6 : Option V), pcB P b = (d, h, n) → H2 t = none → ∃ z3 z4 z5 z6 us', [some (V.ref a), some (.ref c), some (.ref r), y3, y4, y5, y6] = [some (V.ref a), some (.ref c), some (.ref r), z3, z4, z5, z6] ∧ Ex H (upd (upd H2 t (.tup [.int d, .int h, .int n])) r (.lst (us ++ [.ref t]))) ∧ upd (upd H2 t (.tup [.int d, .int h, .int n])) r (.lst (us ++ [.ref t])) p = some (.lst vs) ∧ Paired (IsRw (upd (upd H2 t (.tup [.int d, .int h, .int n])) r (.lst (us ++ [.ref t])))) vs (P.map (srB P)) ∧ upd (upd H2 t (.tup [.int d, .int h, .int n])) r (.lst (us ++ [.ref t])) r = some (.lst us') ∧ PaP (upd (upd H2 t (.tup [.int d, .int h, .int n])) r (.lst (us ++ [.ref t]))) us' ((P.take (i + 1)).map (pcB P)) := fun d h n t y3 y4 y5 y6 eb nt => by
        have y1 := Ex.new (o := HO.tup [.int d, .int h, .int n]) nt
        refine ⟨_, _, _, _, us ++ [.ref t], rfl, (e2.trans y1).mut nr, by rw [upd_ne npr]; exact y1 _ _ hp, Pz.imp (fun _ _ h => IsRw.lset (y1 _ _ hr) (IsRw.mono y1 h)) pa, upd_same, ?_⟩
        rw [List.take_add_one, gb, List.map_append]
        have ntr : t ≠ r := fun z => by
          rw [z, hr] at nt
          cases nt
        refine Pr.snoc (PaP.lset (y1 _ _ hr) (PaP.mono y1 pu)) ⟨t, rfl, ?_⟩
        rw [upd_ne ntr, upd_same]
        show _ = some (HO.tup [.int (pcB P b).1, .int (pcB P b).2.1, .int (pcB P b).2.2])
        rw [eb]
      refine ⟨.bl (bg b), rfl, bg b, rfl, ite2 (fun g => ?_) (fun g => ?_)⟩
      · refine ⟨.ref r, rfl, .inl ⟨rfl, _, .inl (.inl hr)⟩, _, rfl, _, rfl, .int (bn b), rfl, _, _, rfl, rfl, _, _, rfl, rfl, by show 3 ≤ sizeLine; decide, fun t nt => ?_⟩
        refine ⟨r, us, .ref t, rfl, rfl, (Ex.new nt) _ _ hr, small20 (by omega), push _ _ _ t _ _ _ _ ?_ nt⟩
        show pcB P b = ((if bg b = true then baseB P b else baseB P b + bn b - 1), (if bg b = true then baseB P b else baseB P b + bn b - 1) + bn b - 1, 1)
        unfold pcB
        rw [if_pos g, if_pos g]
      · refine ⟨.ref r, rfl, .inl ⟨rfl, _, .inl (.inl hr)⟩, _, rfl, _, rfl, .int (bn b), rfl, by show 3 ≤ sizeLine; decide, fun t nt => ?_⟩
        refine ⟨r, us, .ref t, rfl, rfl, (Ex.new nt) _ _ hr, small20 (by omega), push _ _ _ t _ _ _ _ ?_ nt⟩
        show pcB P b = ((if bg b = true then baseB P b else baseB P b + bn b - 1), (if bg b = true then baseB P b else baseB P b + bn b - 1), bn b)
        unfold pcB
        rw [if_neg g, if_neg g]
    · obtain ⟨y3, y4, y5, y6, us, rfl, e2, hp, pa, hr, pu⟩ := z
      rw [lv, List.take_length] at pu
      exact ⟨_, rfl, q r _ nr e2 ⟨us, hr, pu⟩⟩
end
end Kb

namespace Kb
open PySem PySem.Spec PyProof.Rows L2 StX TL
abbrev smultiplied : Stmt := topS 60
theorem scmultiplied : FnScope ["pieces", "times", "low", "high", "many"] ["pieces", "times"] (defScope smultiplied) := ⟨rfl, rfl, rfl, by decide +kernel, rfl, by decide +kernel, by decide +kernel⟩
abbrev sthree_behind : Stmt := topS 73
theorem scthree_behind : FnScope ["one", "two", "pieces"] ["one", "two"] (defScope sthree_behind) := ⟨rfl, rfl, rfl, by decide +kernel, rfl, by decide +kernel, by decide +kernel⟩
abbrev sthree_times : Stmt := topS 74
theorem scthree_times : FnScope ["three", "times", "firsts", "lasts", "pieces", "again"] ["three", "times"] (defScope sthree_times) := ⟨rfl, rfl, rfl, by decide +kernel, rfl, by decide +kernel, by decide +kernel⟩
abbrev sthree_of : Stmt := topS 75
theorem scthree_of : FnScope ["parts", "three", "part", "following"] ["parts"] (defScope sthree_of) := ⟨rfl, rfl, rfl, by decide +kernel, rfl, by decide +kernel, by decide +kernel⟩
section
variable {P : Program} {w : World} {K : PySem.W.Frag} {mg : Str → Option Value} {base : Heap}
theorem ok_mulT {f : Addr} {fd : FuncData} (F : Fun K "multiplied" "multiplied" smultiplied f fd) : FnOk P w K mg base CX0 1 f fd ["pieces", "times"] spMulT := by
  refine F.ok scmultiplied (fun vs H Q E h => ?_) (fun cdv A outer s H vs Q E hr h => ?_)
  · obtain ⟨a, ps, n, rfl, _⟩ := h
    rfl
  · obtain ⟨a, ps, n, rfl, ⟨vs, ha, pa⟩, few, bd, n0, n1, q⟩ := h
    refine ⟨_, (pss_one (ps_ret (pe_lc (own := [("low", 2), ("high", 3), ("many", 4)]) (g := (gTup K 3 (gCons (gName 2) (gCons (gName 3) (gCons (gName 4) gNil))))) (te := (tTup (tCons (tVar 2) (tCons (tVar 3) (tCons (tOp _ (tVar 4) (tVar 1)) tNil))))) rfl scmultiplied.nd (pi_list (pv 0)) (blkOk_by (N := ["pieces", "times", "low", "high", "many"]) (sc := defScope smultiplied) (by decide +kernel)) (by exact fun _ _ _ _ _ => (pg_tup rfl (pgs_cons (pg_name (i := 2) scmultiplied.nd rfl (by first | exact Or.inl rfl | exact Or.inr rfl)) (pgs_cons (pg_name (i := 3) scmultiplied.nd rfl (by first | exact Or.inl rfl | exact Or.inr rfl)) (pgs_cons (pg_name (i := 4) scmultiplied.nd rfl (by first | exact Or.inl rfl | exact Or.inr rfl)) pgs_nil))))) (by exact fun _ _ _ _ _ => pts_nil) (by exact fun _ _ _ _ _ => (pe_tup (pa_cons (pv 2) (pa_cons (pv 3) (pa_cons (pe_op op_mulW (pv 4) (pv 1)) pa_nil)))))))), ?_⟩
    have lv : vs.length = ps.length := Pr.len pa
    refine ⟨.ref a, rfl, a, rfl, ⟨_, SqL.of ha⟩, fun D hD => lc_list (xs := vs) (fun i H1 => Ex H H1 ∧ ∃ us, H1 D = some (.lst us) ∧ PaP H1 us (mulP (ps.take i) n)) ⟨Ex.new hD, [], upd_same, .nil⟩ (fun i H1 _ p => SqL.of (p.1 _ _ ha)) (fun i v H1 hx p => ?_) (fun H1 p => ?_)⟩
    · obtain ⟨e1, us, hL, pu⟩ := p
      obtain ⟨⟨l, h, t⟩, gs, tp, rfl, ht⟩ := Pr.get pa hx
      have li : i < ps.length := (List.getElem?_eq_some_iff.mp gs).1
      obtain ⟨b3, b5⟩ := bd _ (List.mem_of_getElem? gs)
      have b3' : 1 ≤ t := b3
      have b5' : t ≤ 10 ^ 300 := b5
      have big : (10 : Nat) ^ 300 < 2 ^ 1000 := by decide +kernel
      have big2 : (10 : Nat) ^ 100 < 2 ^ 1000 := by decide +kernel
      have lu : us.length ≤ i := by
        have z := Pr.len pu
        unfold mulP at z
        rw [List.length_map, List.length_take] at z
        omega
      refine ⟨tp, _, rfl, SqT.of (e1 _ _ ht), rfl, _, _, rfl, _, _, rfl, _, _, rfl, rfl, rfl, ?_⟩
      refine ⟨.int l, rfl, .int h, rfl, .int t, rfl, .int n, rfl, t, n, rfl, rfl, ?_, by show 3 ≤ sizeLine; decide, fun p np => ?_⟩
      · exact wide_mul (a := 1000) (b := 1000) (Nat.lt_of_le_of_lt (m := 10 ^ 300) (by omega) big) (Nat.lt_of_le_of_lt (m := 10 ^ 100) (by omega) big2) (by decide) (by decide) (by decide)
      have x1 := Ex.new (o := .tup [V.int l, V.int h, V.int (t * n)]) np
      have hL2 := x1 _ _ hL
      refine ⟨us, hL2, small20 (by omega), (e1.trans x1).mut hD, us ++ [.ref p], upd_same, ?_⟩
      have tk : mulP (ps.take (i + 1)) n = mulP (ps.take i) n ++ [(l, h, t * n)] := by
        unfold mulP
        rw [List.take_add_one, gs, List.map_append]
        rfl
      rw [tk]
      exact PaP.lset hL2 (Pr.snoc (PaP.mono x1 pu) ⟨p, rfl, upd_same⟩)
    · obtain ⟨e1, us, hL, pu⟩ := p
      rw [lv, List.take_length] at pu
      exact q D H1 hD e1 ⟨us, hL, pu⟩
theorem Pcs.cat {H : Hp} {a c : Addr} {ps qs : List Pc} {Q : VK} (h : Pcs H a ps) (k : Pcs H c qs) (l : ps.length + qs.length ≤ 2 ^ 20) (q : ∀ p H', H p = none → Ex H H' → Pcs H' p (ps ++ qs) → Q (.ref p) H') : rCat (V.ref a) (V.ref c) H Q := by
  obtain ⟨us, h1, h2⟩ := h
  obtain ⟨vs, k1, k2⟩ := k
  have l1 := Pr.len h2
  have l2 := Pr.len k2
  refine ⟨a, c, us, vs, rfl, rfl, h1, k1, size64' (by omega), fun p np => ?_⟩
  have z := Ex.new (o := .lst (us ++ vs)) np
  exact q p _ np z ⟨_, upd_same, Pr.app (PaP.mono z h2) (PaP.mono z k2)⟩
theorem ok_behind (B : Bt mg) (Dstraight_pieces : Df P w K mg base "straight_pieces" 4 ["lasts", "firsts"] spPieces) (Dput_ahead : Df P w K mg base "put_ahead" 4 ["scans", "others"] spAhead) {f : Addr} {fd : FuncData} (F : Fun K "three_behind" "three_behind" sthree_behind f fd) : FnOk P w K mg base CX0 5 f fd ["one", "two"] spBehind := by
  refine F.ok scthree_behind (fun vs H Q E h => ?_) (fun cdv A outer s H vs Q E hr h => ?_)
  · obtain ⟨v, u, X, Y, ps, qs, M, N, Z, rfl, _⟩ := h
    rfl
  · obtain ⟨v, u, X, Y, ps, qs, M, N, Z, rfl, ⟨t, f1, l1, c1, rfl, ht, hf1, hl1, hc1⟩, ⟨s2, f2, l2, c2, rfl, hs, hf2, hl2, hc2⟩, tX, tY, fX, fY, M1, N1, few, q⟩ := h
    refine ⟨_, (pss_cons (ps_set (i := 2) scthree_behind.nd rfl (by first | exact Or.inl rfl | exact Or.inr rfl) (pe_op op_cat (pe_op op_cat (pe_ix ix_tup (pv 0) pe_int (fun _ _ => rfl)) (pe_ix ix_tup (pv 1) pe_int (fun _ _ => rfl))) (pe_df Dstraight_pieces hr (pa_cons (pe_ix ix_tup (pv 0) pe_int (fun _ _ => rfl)) (pa_cons (pe_ix ix_tup (pv 1) pe_int (fun _ _ => rfl)) pa_nil)))))
      (pss_one (ps_ret (pe_tup (pa_cons (pe_df Dput_ahead hr (pa_cons (pe_ix ix_tup (pv 0) pe_int (fun _ _ => rfl)) (pa_cons (pe_ix ix_tup (pv 1) pe_int (fun _ _ => rfl)) pa_nil))) (pa_cons (pe_df Dput_ahead hr (pa_cons (pe_ix ix_tup (pv 1) pe_int (fun _ _ => rfl)) (pa_cons (pe_ix ix_tup (pv 0) pe_int (fun _ _ => rfl)) pa_nil))) (pa_cons (pv 2) pa_nil))))))), ?_⟩
    refine ⟨_, rfl, t, _, 2, _, rfl, rfl, SqT.of ht, rfl, _, rfl, s2, _, 2, _, rfl, rfl, SqT.of hs, rfl, ?_⟩
    refine Pcs.cat hc1 hc2 (by omega) fun p H1 np e1 hp => ?_
    refine ⟨_, rfl, t, _, 1, _, rfl, rfl, SqT.of (e1 _ _ ht), rfl, _, rfl, s2, _, 0, _, rfl, rfl, SqT.of (e1 _ _ hs), rfl, l1, f2, _, _, rfl, ⟨hl1.mono e1, hf2.mono e1, by have := fX.l; omega, by have := fY.f; omega, tdy_apart (lstF_nodup _), tdy_apart (lstR_nodup _)⟩, fun p2 H2 LA LB np2 e2 SA SB hp2 => ?_⟩
    obtain ⟨g1, g2, g3⟩ := straight_tp fX fY SA SB
    generalize (shr LA LB).map (pcB (shr LA LB)) = ss at g1 g2 g3 hp2
    refine Pcs.cat (hp.mono e2) hp2 (by rw [List.length_append]; omega) fun p3 H3 np3 e3 hp3 => ?_
    have e13 := (e1.trans e2).trans e3
    refine ⟨_, rfl, t, _, 0, _, rfl, rfl, SqT.of (e13 _ _ ht), rfl, _, rfl, s2, _, 0, _, rfl, rfl, SqT.of (e13 _ _ hs), rfl, f1, f2, _, _, rfl, hf1.mono e13, hf2.mono e13, by have := fX.f; omega, by have := fY.f; omega, tdy_apart (lstR_nodup _), fun p4 H4 np4 e4 hp4 _ => ?_⟩
    rw [firsts_app] at hp4
    have e14 := e13.trans e4
    refine ⟨_, rfl, s2, _, 1, _, rfl, rfl, SqT.of (e14 _ _ hs), rfl, _, rfl, t, _, 1, _, rfl, rfl, SqT.of (e14 _ _ ht), rfl, l2, l1, _, _, rfl, hl2.mono e14, hl1.mono e14, by have := fY.l; omega, by have := fX.l; omega, tdy_apart (lstF_nodup _), fun p5 H5 np5 e5 hp5 _ => ?_⟩
    rw [lasts_app] at hp5
    refine ⟨_, rfl, by show 3 ≤ sizeLine; decide, fun p6 np6 => ?_⟩
    have e6 := Ex.new (o := .tup [V.ref p4, V.ref p5, V.ref p3]) np6
    have e46 := e5.trans e6
    exact q _ _ _ (e14.trans e46) ⟨p6, p4, p5, p3, rfl, upd_same, hp4.mono e46, hp5.mono e6, hp3.mono (e4.trans e46)⟩ (tX.app tY g1 g2) (by rw [List.length_append, List.length_append]; omega)
theorem ok_times3 (B : Bt mg) (Dstraight_pieces : Df P w K mg base "straight_pieces" 4 ["lasts", "firsts"] spPieces) (Dmultiplied : Df P w K mg base "multiplied" 1 ["pieces", "times"] spMulT) {f : Addr} {fd : FuncData} (F : Fun K "three_times" "three_times" sthree_times f fd) : FnOk P w K mg base CX0 5 f fd ["three", "times"] spTimes3 := by
  refine F.ok scthree_times (fun vs H Q E h => ?_) (fun cdv A outer s H vs Q E hr h => ?_)
  · obtain ⟨v, X, ps, n, M, Z, rfl, _⟩ := h
    rfl
  · obtain ⟨v, X, ps, n, M, Z, rfl, ⟨t, f1, l1, c1, rfl, ht, hf1, hl1, hc1⟩, tX, fX, M1, few, lX, n2, n3, q⟩ := h
    refine ⟨_, (pss_cons (ps_if (pt_cmpR op_eq (pv 1) pe_int (nomark _)) (pss_one (ps_ret (pe_tup (pa_cons (pe_lst pa_nil) (pa_cons (pe_lst pa_nil) (pa_cons (pe_lst pa_nil) pa_nil)))))) pss_nil)
      (pss_cons (ps_asg (pv 0) (pg_tup rfl (pgs_cons (pg_name (i := 2) scthree_times.nd rfl (by first | exact Or.inl rfl | exact Or.inr rfl)) (pgs_cons (pg_name (i := 3) scthree_times.nd rfl (by first | exact Or.inl rfl | exact Or.inr rfl)) (pgs_cons (pg_name (i := 4) scthree_times.nd rfl (by first | exact Or.inl rfl | exact Or.inr rfl)) pgs_nil)))))
      (pss_cons (ps_set (i := 5) scthree_times.nd rfl (by first | exact Or.inl rfl | exact Or.inr rfl) (pe_df Dstraight_pieces hr (pa_cons (pv 3) (pa_cons (pv 2) pa_nil))))
      (pss_one (ps_ret (pe_tup (pa_cons (pv 2) (pa_cons (pv 3) (pa_cons (pe_op op_cat (pe_df Dmultiplied hr (pa_cons (pv 4) (pa_cons (pv 1) pa_nil))) (pe_df Dmultiplied hr (pa_cons (pv 5) (pa_cons (pe_op op_sub (pv 1) pe_int) pa_nil)))) pa_nil))))))))), ?_⟩
    refine ⟨_, rfl, rfl, _, rfl, ?_⟩
    rw [decide_eq_false (fun e => absurd (V.int.inj e) (by omega))]
    refine iteF ⟨_, rfl, t, _, rfl, SqT.of ht, rfl, _, _, rfl, _, _, rfl, _, _, rfl, rfl, ?_⟩
    have mX : (tdy (lstR X)).length ≤ 1000 ∧ (tdy (lstF X)).length ≤ 1000 := ⟨by have := fX.f; omega, by have := fX.l; omega⟩
    refine ⟨_, rfl, _, rfl, l1, f1, _, _, rfl, ⟨hl1, hf1, by omega, by omega, tdy_apart (lstF_nodup _), tdy_apart (lstR_nodup _)⟩, fun p2 H2 LA LB np2 e2 SA SB hp2 => ?_⟩
    obtain ⟨g1, g2, g3⟩ := straight_tp fX fX SA SB
    generalize (shr LA LB).map (pcB (shr LA LB)) = ss at g1 g2 g3 hp2
    have lz : ∀ p ∈ ss, p.2.2 ≤ 10 ^ 300 := fun p hp => by
      have a := at_mem (fun p hp => (g1 p hp).1) hp
      rw [g2] at a
      have b := (stH_bd (lstF X) (lstR X) p.1).2
      have c := (lstR_nodup X).length_le_of_subset fun z hz => mem_lstR.mp hz
      omega
    refine ⟨_, rfl, _, rfl, _, rfl, _, rfl, c1, ps, n, rfl, hc1.mono e2, by omega, fun p hp => ⟨(tX.pok p hp).2.2, Int.le_trans (tX.tm hp) lX⟩, by omega, n3, fun p3 H3 np3 e3 hp3 => ?_⟩
    refine ⟨_, rfl, _, rfl, _, 1, rfl, rfl, p2, ss, n - 1, rfl, hp2.mono e3, by omega, fun p hp => ⟨(g1 p hp).1.2.2, lz p hp⟩, by omega, by omega, fun p4 H4 np4 e4 hp4 => ?_⟩
    refine Pcs.cat (hp3.mono e4) hp4 (by unfold mulP; rw [List.length_map, List.length_map]; omega) fun p5 H5 np5 e5 hp5 => ⟨by show 3 ≤ sizeLine; decide, fun p6 np6 => ?_⟩
    have e6 := Ex.new (o := .tup [V.ref f1, V.ref l1, V.ref p5]) np6
    have e16 := (((e2.trans e3).trans e4).trans e5).trans e6
    obtain ⟨k, ek⟩ : ∃ k : Nat, n.toNat = k + 1 := ⟨n.toNat - 1, by omega⟩
    refine q _ _ _ e16 ⟨p6, f1, l1, p5, rfl, upd_same, ?_, ?_, hp5.mono e6⟩ (tX.rep n2 g1 g2) (by unfold mulP; rw [List.length_append, List.length_map, List.length_map]; omega)
    · rw [ek, lstR_rep]
      exact hf1.mono e16
    · rw [ek, lstF_rep]
      exact hl1.mono e16
theorem ok_three (B : Bt2 mg) (Dis_repeat : Df P w K mg base "is_repeat" 1 ["part"] spIsRep) (Dthree_behind : Df P w K mg base "three_behind" 5 ["one", "two"] spBehind) (Dthree_times : Df P w K mg base "three_times" 5 ["three", "times"] spTimes3) {f : Addr} {fd : FuncData} (F : Fun K "three_of" "three_of" sthree_of f fd)
    (mk : ∀ {k : Nat} {sp : Sp}, FnOk P w K mg base CX0 k f fd ["parts"] sp → Df P w K mg base "three_of" k ["parts"] sp) : ∀ d : Nat, FnOk P w K mg base CX0 (d + 6) f fd ["parts"] (spThree d)
  | 0 => ⟨fun vs H Q E h => by obtain ⟨v, g, Bd, M, Z, rfl, _⟩ := h; rfl, fun A outer s H args us vs Q E _ _ _ _ h => by obtain ⟨v, g, Bd, M, Z, rfl, _, h0, _⟩ := h; exact absurd h0 (Nat.not_lt_zero _)⟩
  | d + 1 => by
    have Dthree_of := mk (ok_three B Dis_repeat Dthree_behind Dthree_times F mk d)
    refine F.ok scthree_of (fun vs H Q E h => ?_) (fun cdv A outer s H vs Q E hr h => ?_)
    · obtain ⟨v, g, Bd, M, Z, rfl, _⟩ := h
      rfl
    · obtain ⟨v, g, Bd, M, Z, rfl, ⟨t, vs, rfl, ht, hI⟩, hd, hok, hBd, hF, hc, M1, nd, q⟩ := h
      refine ⟨_, (pss_cons (ps_set (i := 1) scthree_of.nd rfl (by first | exact Or.inl rfl | exact Or.inr rfl) (pe_tup (pa_cons (pe_lst pa_nil) (pa_cons (pe_lst pa_nil) (pa_cons (pe_lst pa_nil) pa_nil)))))
      (pss_cons (ps_for PassesOwn.never rfl (pi_tup (pv 0)) (pg_name (i := 2) scthree_of.nd rfl (by first | exact Or.inl rfl | exact Or.inr rfl)) (pss_cons (ps_if (pt_val (pe_df Dis_repeat hr (pa_cons (pv 2) pa_nil) (hk := by omega))) (pss_one (ps_set (i := 3) scthree_of.nd rfl (by first | exact Or.inl rfl | exact Or.inr rfl) (pe_df Dthree_times hr (pa_cons (pe_df Dthree_of hr (pa_cons (pe_ix ix_tup (pv 2) pe_int (fun _ _ => rfl)) pa_nil) (hk := by omega)) (pa_cons (pe_ix ix_tup (pv 2) pe_int (fun _ _ => rfl)) pa_nil)) (hk := by omega)))) (pss_one (ps_set (i := 3) scthree_of.nd rfl (by first | exact Or.inl rfl | exact Or.inr rfl) (pe_tup (pa_cons (pe_lst (pa_cons (pv 2) pa_nil)) (pa_cons (pe_lst (pa_cons (pe_tup (pa_cons (pe_ix ix_tup (pv 2) pe_int (fun _ _ => rfl)) (pa_cons (pe_ix ix_tup (pv 2) pe_int (fun _ _ => rfl)) pa_nil))) pa_nil)) (pa_cons (pe_lst pa_nil) pa_nil)))))))
      (pss_one (ps_set (i := 1) scthree_of.nd rfl (by first | exact Or.inl rfl | exact Or.inr rfl) (pe_df Dthree_behind hr (pa_cons (pv 1) (pa_cons (pv 3) pa_nil)) (hk := by omega))))))
      (pss_one (ps_ret (pv 1))))), ?_⟩
      refine ⟨Nat.zero_le _, fun p1 np1 => ⟨Nat.zero_le _, fun p2 np2 => ⟨Nat.zero_le _, fun p3 np3 => ⟨by show 3 ≤ sizeLine; decide, fun p4 np4 => ?_⟩⟩⟩⟩
      have x1 := Ex.new (o := .lst ([] : List V)) np1
      have x2 := Ex.new (o := .lst ([] : List V)) np2
      have x3 := Ex.new (o := .lst ([] : List V)) np3
      have x4 := Ex.new (o := .tup [V.ref p1, V.ref p2, V.ref p3]) np4
      have x14 := ((x1.trans x2).trans x3).trans x4
      have i0 : IsTr (upd (upd (upd (upd H p1 (.lst [])) p2 (.lst [])) p3 (.lst [])) p4 (.tup [V.ref p1, V.ref p2, V.ref p3])) (.ref p4) [] [] := ⟨p4, p1, p2, p3, rfl, upd_same, ⟨[], ((x2.trans x3).trans x4) _ _ upd_same, .nil⟩, ⟨[], (x3.trans x4) _ _ upd_same, .nil⟩, ⟨[], x4 _ _ upd_same, .nil⟩⟩
      generalize upd (upd (upd (upd H p1 (.lst [])) p2 (.lst [])) p3 (.lst [])) p4 (.tup [V.ref p1, V.ref p2, V.ref p3]) = H0 at x14 i0 ⊢
      refine ⟨.ref t, rfl, t, rfl, ⟨_, SqT.of (x14 _ _ ht)⟩, for_tup (xs := vs) (fun i σ H1 => ∃ y2 y3 w a b rs, σ = [some (.ref t), some w, y2, y3] ∧ Ex H H1 ∧ IsTr H1 w a.rd rs ∧ Tp Z a.rd rs ∧ rs.length ≤ 2 * M * a.nds ∧ g = Pg.app a b ∧ a.len = i) ⟨none, none, .ref p4, .nil, g, [], rfl, x14, i0, Tp.nil Z, Nat.zero_le _, rfl, rfl⟩ (fun i σ H1 _ z => ?_) (fun i v σ H1 hx z => ?_) (fun σ H1 z => ?_)⟩
      · obtain ⟨_, _, _, _, _, _, _, e1, _⟩ := z
        exact SqT.of (e1 _ _ ht)
      · obtain ⟨y2, y3, w, a, b, rs, rfl, e1, iw, tw, lw, eg, rfl⟩ := z
        have hI1 := hI.kp e1.kp
        obtain ⟨hF1, hF2, hF3⟩ := hF
        have fa := hF1 a b eg
        subst eg
        obtain ⟨oka, okb⟩ := app_ok hok
        rw [nds_app] at nd
        rw [Pg.cnt_app] at hc
        have ca := Pg.cnt_nn oka
        rcases hI1.get hx with ⟨s1, r, rfl, i1⟩ | ⟨n, x, r, t1, u1, bs, rfl, rfl, h1, h2, h3⟩
        · have fs := hF3 a s1 r rfl
          have nd : 2 * M * (a.nds + (r.nds + 1)) ≤ 2 ^ 17 := nd
          rw [Nat.mul_add, Nat.mul_add, Nat.mul_one] at nd
          refine ⟨v, rfl, v, rfl, .inl ⟨s1, i1, fun H2 e2 => ⟨false, rfl, iteF ?_⟩⟩⟩
          obtain ⟨t1, rfl, ht1⟩ := i1.mono e2
          refine ⟨_, rfl, by show 1 ≤ sizeLine; decide, fun q1 nq1 => ?_⟩
          have z1 := Ex.new (o := .lst [V.ref t1]) nq1
          refine ⟨.ref t1, rfl, t1, _, 1, _, rfl, rfl, SqT.of (z1 _ _ ht1), rfl, .ref t1, rfl, t1, _, 0, _, rfl, rfl, SqT.of (z1 _ _ ht1), rfl, by show 2 ≤ sizeLine; decide, fun q2 nq2 => ⟨by show 1 ≤ sizeLine; decide, fun q3 nq3 => ⟨Nat.zero_le _, fun q4 nq4 => ⟨by show 3 ≤ sizeLine; decide, fun q5 nq5 => ?_⟩⟩⟩⟩
          have z2 := Ex.new (o := .tup [V.int s1.2, V.int s1.1]) nq2
          have z3 := Ex.new (o := .lst [V.ref q2]) nq3
          have z4 := Ex.new (o := .lst ([] : List V)) nq4
          have z5 := Ex.new (o := .tup [V.ref q1, V.ref q3, V.ref q4]) nq5
          have z25 := ((z2.trans z3).trans z4).trans z5
          have iF : IsTr _ (.ref q5) (rd s1) [] := ⟨q5, q1, q3, q4, rfl, upd_same, by
              rw [lstR_id (rd_nodup _), tdy_rd]
              exact ⟨[V.ref t1], z25 _ _ upd_same, .cons ⟨t1, rfl, (z1.trans z25) _ _ ht1⟩ .nil⟩, by
              unfold lstF
              rw [← rd_swp, lstR_id (rd_nodup _), tdy_rd]
              exact ⟨[V.ref q2], (z4.trans z5) _ _ upd_same, .cons ⟨q2, rfl, ((z3.trans z4).trans z5) _ _ upd_same⟩ .nil⟩, ⟨[], z5 _ _ upd_same, .nil⟩⟩
          have e15 := (e1.trans e2).trans (z1.trans z25)
          refine ⟨_, rfl, _, rfl, w, .ref q5, a.rd, rd s1, rs, [], M, M, Z, rfl, iw.mono (e2.trans (z1.trans z25)), iF, tw, Tp.one Z (rd_nodup _), fa, fs, M1, M1, by rw [List.length_nil]; omega, fun w' H4 rs' e4 i4 t4 l4 => ?_⟩
          refine ⟨_, _, w', a.app (.sc s1 .nil), r, rs', rfl, e15.trans e4, ?_, ?_, ?_, Pg.sc_app _ _ _, ?_⟩
          · rw [rd_app]
            show IsTr H4 w' (a.rd ++ (rdS s1 ++ [])) rs'
            rw [List.append_nil, ← rd_rdS]
            exact i4
          · rw [rd_app]
            show Tp Z (a.rd ++ (rdS s1 ++ [])) rs'
            rw [List.append_nil, ← rd_rdS]
            exact t4
          · rw [nds_app]
            show rs'.length ≤ 2 * M * (a.nds + (0 + 1))
            rw [Nat.mul_add, Nat.zero_add, Nat.mul_one]
            rw [List.length_nil] at l4
            omega
          · rw [Pg.len_app]
            rfl
        · obtain ⟨n2, nC, xn, okx, okr⟩ := okb
          have hdx : x.dep < d := by
            rw [Pg.dep_app] at hd
            have hd : max a.dep (max (x.dep + 1) r.dep) < d + 1 := hd
            omega
          have nd : 2 * M * (a.nds + (x.nds + r.nds + 2)) ≤ 2 ^ 17 := nd
          have nd' : 2 * M * a.nds + 2 * M * x.nds + 2 * M * 2 ≤ 2 ^ 17 := by
            refine Nat.le_trans ?_ nd
            rw [← Nat.mul_add, ← Nat.mul_add]
            exact Nat.mul_le_mul_left _ (by omega)
          have hc : a.cnt + (n * x.cnt + r.cnt) ≤ 10 ^ 300 := hc
          have cx := Pg.cnt_nn okx
          have cr := Pg.cnt_nn okr
          have cn : x.cnt ≤ n * x.cnt := by
            have := Int.mul_le_mul_of_nonneg_right (show 1 ≤ n by omega) cx
            omega
          have fx := hF2 a n x r rfl
          have fxx : Fs M Z x.rd := by
            obtain ⟨g1, _, _⟩ := fx
            exact g1 x .nil (Pg.app_nil x).symm
          refine ⟨_, rfl, _, rfl, .inr ⟨t1, n, u1, bs, rfl, h1, h2, fun H2 e2 => ⟨true, rfl, iteT ?_⟩⟩⟩
          refine ⟨.ref t1, rfl, t1, _, 1, _, rfl, rfl, SqT.of (e2 _ _ h1), rfl, .ref u1, x, Bd, M, Z, rfl, ⟨u1, bs, rfl, e2 _ _ h2, h3.kp e2.kp⟩, hdx, okx, hBd, fx, by omega, M1, by omega, fun w3 H3 rs3 e3 i3 t3 l3 => ?_⟩
          refine ⟨.ref t1, rfl, t1, _, 0, _, rfl, rfl, SqT.of ((e2.trans e3) _ _ h1), rfl, w3, x.rd, rs3, n, M, Z, rfl, i3, t3, fxx, M1, by omega, by rw [prd_len okx]; omega, n2, by omega, fun w4 H4 rs4 e4 i4 t4 l4 => ?_⟩
          have e24 := (e2.trans e3).trans e4
          have frep : Fs M Z (List.replicate n.toNat x.rd).flatten := by
            obtain ⟨k, ek⟩ : ∃ k : Nat, n.toNat = k + 1 := ⟨n.toNat - 1, by omega⟩
            rw [ek]
            exact ⟨by rw [lstR_rep]; exact fxx.f, by rw [lstF_rep]; exact fxx.l, by rw [lstR_rep]; exact fxx.z⟩
          refine ⟨_, rfl, _, rfl, w, w4, a.rd, _, rs, rs4, M, M, Z, rfl, iw.mono e24, i4, tw, t4, fa, frep, M1, M1, by omega, fun w' H5 rs' e5 i5 t5 l5 => ?_⟩
          refine ⟨_, _, w', a.app (.rp n x .nil), r, rs', rfl, (e1.trans e24).trans e5, ?_, ?_, ?_, Pg.rp_app _ _ _ _, ?_⟩
          · rw [rd_app]
            show IsTr H5 w' (a.rd ++ ((List.replicate n.toNat x.rd).flatten ++ [])) rs'
            rw [List.append_nil]
            exact i5
          · rw [rd_app]
            show Tp Z (a.rd ++ ((List.replicate n.toNat x.rd).flatten ++ [])) rs'
            rw [List.append_nil]
            exact t5
          · rw [nds_app]
            show rs'.length ≤ 2 * M * (a.nds + (x.nds + 0 + 2))
            rw [Nat.mul_add, Nat.mul_add, Nat.add_zero]
            omega
          · rw [Pg.len_app]
            rfl
      · obtain ⟨y2, y3, w, a, b, rs, rfl, e1, iw, tw, lw, rfl, hl⟩ := z
        have := hI.done hl
        subst this
        rw [Pg.app_nil] at q
        exact ⟨_, rfl, q w H1 rs e1 iw tw lw⟩
end
end Kb

namespace Kb
open PySem PySem.Spec PyProof.Rows L2 StX TL
abbrev scount_accesses : Stmt := topS 32
theorem sccount_accesses : FnScope ["parts", "many", "part"] ["parts"] (defScope scount_accesses) := ⟨rfl, rfl, rfl, by decide +kernel, rfl, by decide +kernel, by decide +kernel⟩
abbrev srepeated : Stmt := topS 33
theorem screpeated : FnScope ["parts", "times"] ["parts", "times"] (defScope srepeated) := ⟨rfl, rfl, rfl, by decide +kernel, rfl, by decide +kernel, by decide +kernel⟩
abbrev sbackwards : Stmt := topS 34
theorem scbackwards : FnScope ["parts", "rows", "part"] ["parts"] (defScope sbackwards) := ⟨rfl, rfl, rfl, by decide +kernel, rfl, by decide +kernel, by decide +kernel⟩
abbrev sread_digits : Stmt := topS 41
theorem scread_digits : FnScope ["word", "most"] ["word", "most"] (defScope sread_digits) := ⟨rfl, rfl, rfl, by decide +kernel, rfl, by decide +kernel, by decide +kernel⟩
abbrev sread_number : Stmt := topS 42
theorem scread_number : FnScope ["word", "number"] ["word"] (defScope sread_number) := ⟨rfl, rfl, rfl, by decide +kernel, rfl, by decide +kernel, by decide +kernel⟩
abbrev sread_scan : Stmt := topS 43
theorem scread_scan : FnScope ["word", "start", "dash", "stop", "first", "last"] ["word"] (defScope sread_scan) := ⟨rfl, rfl, rfl, by decide +kernel, rfl, by decide +kernel, by decide +kernel⟩
abbrev sread_times : Stmt := topS 44
theorem scread_times : FnScope ["word", "times"] ["word"] (defScope sread_times) := ⟨rfl, rfl, rfl, by decide +kernel, rfl, by decide +kernel, by decide +kernel⟩
abbrev sread_text : Stmt := topS 45
theorem scread_text : FnScope ["text", "words", "bodies", "many", "index", "word", "times", "body", "scan"] ["text"] (defScope sread_text) := ⟨rfl, rfl, rfl, by decide +kernel, rfl, by decide +kernel, by decide +kernel⟩
abbrev sdigits_of : Stmt := topS 46
theorem scdigits_of : FnScope ["number", "chunks", "rest"] ["number"] (defScope sdigits_of) := ⟨rfl, rfl, rfl, by decide +kernel, rfl, by decide +kernel, by decide +kernel⟩
abbrev sscan_word : Stmt := topS 47
theorem scscan_word : FnScope ["scan", "first", "last"] ["scan"] (defScope sscan_word) := ⟨rfl, rfl, rfl, by decide +kernel, rfl, by decide +kernel, by decide +kernel⟩
abbrev swords_of : Stmt := topS 48
theorem scwords_of : FnScope ["parts", "words", "part"] ["parts"] (defScope swords_of) := ⟨rfl, rfl, rfl, by decide +kernel, rfl, by decide +kernel, by decide +kernel⟩
abbrev sProgram___init__ : Stmt := inClass (topS 50) 0
theorem scProgram___init__ : FnScope ["self", "text"] ["self", "text"] (defScope sProgram___init__) := ⟨rfl, rfl, rfl, by decide +kernel, rfl, by decide +kernel, by decide +kernel⟩
abbrev sProgram_text : Stmt := inClass (topS 50) 1
theorem scProgram_text : FnScope ["self"] ["self"] (defScope sProgram_text) := ⟨rfl, rfl, rfl, by decide +kernel, rfl, by decide +kernel, by decide +kernel⟩
abbrev sProgram_accesses : Stmt := inClass (topS 50) 3
theorem scProgram_accesses : FnScope ["self"] ["self"] (defScope sProgram_accesses) := ⟨rfl, rfl, rfl, by decide +kernel, rfl, by decide +kernel, by decide +kernel⟩
abbrev sProgram___eq__ : Stmt := inClass (topS 50) 7
theorem scProgram___eq__ : FnScope ["self", "other"] ["self", "other"] (defScope sProgram___eq__) := ⟨rfl, rfl, rfl, by decide +kernel, rfl, by decide +kernel, by decide +kernel⟩
abbrev sProgram___add__ : Stmt := inClass (topS 50) 4
theorem scProgram___add__ : FnScope ["self", "other"] ["self", "other"] (defScope sProgram___add__) := ⟨rfl, rfl, rfl, by decide +kernel, rfl, by decide +kernel, by decide +kernel⟩
abbrev sProgram___mul__ : Stmt := inClass (topS 50) 5
theorem scProgram___mul__ : FnScope ["self", "times"] ["self", "times"] (defScope sProgram___mul__) := ⟨rfl, rfl, rfl, by decide +kernel, rfl, by decide +kernel, by decide +kernel⟩
abbrev sProgram___invert__ : Stmt := inClass (topS 50) 6
theorem scProgram___invert__ : FnScope ["self"] ["self"] (defScope sProgram___invert__) := ⟨rfl, rfl, rfl, by decide +kernel, rfl, by decide +kernel, by decide +kernel⟩
abbrev scheck_program : Stmt := topS 51
theorem sccheck_program : FnScope ["program"] ["program"] (defScope scheck_program) := ⟨rfl, rfl, rfl, by decide +kernel, rfl, by decide +kernel, by decide +kernel⟩
abbrev sprogram_of : Stmt := topS 52
theorem scprogram_of : FnScope ["parts", "program"] ["parts"] (defScope sprogram_of) := ⟨rfl, rfl, rfl, by decide +kernel, rfl, by decide +kernel, by decide +kernel⟩
abbrev sread_all : Stmt := topS 54
theorem scread_all : FnScope ["parts", "found", "part", "place"] ["parts"] (defScope sread_all) := ⟨rfl, rfl, rfl, by decide +kernel, rfl, by decide +kernel, by decide +kernel⟩
abbrev swritten : Stmt := topS 57
theorem scwritten : FnScope ["program"] ["program"] (defScope swritten) := ⟨rfl, rfl, rfl, by decide +kernel, rfl, by decide +kernel, by decide +kernel⟩
def spWritten (C : Addr) : Sp := fun vs H Q _ => ∃ (x : Addr) (g : Pg), vs = [.ref x] ∧ PgAt C H x g ∧ Med g ∧ g.cnt ≤ 10000 ∧ ∀ p H', H p = none → Ex H H' → H' p = some (.lst (g.rd.map V.int)) → Q (.ref p) H'
section
variable {P : Program} {w : World} {K : PySem.W.Frag} {mg : Str → Option Value} {base : Heap}
theorem ok_count (B : Bt2 mg) (Dis_repeat : Df P w K mg base "is_repeat" 1 ["part"] spIsRep) (Dscan_length : Df P w K mg base "scan_length" 1 ["scan"] spScanLength) {f : Addr} {fd : FuncData} (F : Fun K "count_accesses" "count_accesses" scount_accesses f fd)
    (mk : ∀ {k : Nat} {sp : Sp}, FnOk P w K mg base CX0 k f fd ["parts"] sp → Df P w K mg base "count_accesses" k ["parts"] sp) : ∀ d : Nat, FnOk P w K mg base CX0 (d + 2) f fd ["parts"] (spCnt d)
  | 0 => ⟨fun vs H Q E h => by obtain ⟨v, g, B, rfl, _⟩ := h; rfl, fun A outer s H args us vs Q E _ _ _ _ h => by obtain ⟨v, g, B, rfl, _, h0, _⟩ := h; exact absurd h0 (Nat.not_lt_zero _)⟩
  | d + 1 => by
    have Dcount_accesses := mk (ok_count B Dis_repeat Dscan_length F mk d)
    refine F.ok sccount_accesses (fun vs H Q E h => ?_) (fun cdv A outer s H vs Q E hr h => ?_)
    · obtain ⟨v, g, B, rfl, _⟩ := h
      rfl
    · obtain ⟨v, g, C, rfl, ⟨t, vs, rfl, ht, hI⟩, hd, hd2, hC, hok, few, q⟩ := h
      refine ⟨_, (pss_cons (ps_set (i := 1) sccount_accesses.nd rfl (by first | exact Or.inl rfl | exact Or.inr rfl) pe_int)
      (pss_cons (ps_for PassesOwn.never rfl (pi_tup (pv 0)) (pg_name (i := 2) sccount_accesses.nd rfl (by first | exact Or.inl rfl | exact Or.inr rfl)) (pss_one (ps_if (pt_val (pe_df Dis_repeat hr (pa_cons (pv 2) pa_nil) (hk := by omega))) (pss_one (ps_set (i := 1) sccount_accesses.nd rfl (by first | exact Or.inl rfl | exact Or.inr rfl) (pe_op op_add (pv 1) (pe_op op_mulW (pe_ix ix_tup (pv 2) pe_int (fun _ _ => rfl)) (pe_df Dcount_accesses hr (pa_cons (pe_ix ix_tup (pv 2) pe_int (fun _ _ => rfl)) pa_nil) (hk := by omega)))))) (pss_one (ps_set (i := 1) sccount_accesses.nd rfl (by first | exact Or.inl rfl | exact Or.inr rfl) (pe_op op_add (pv 1) (pe_df Dscan_length hr (pa_cons (pv 2) pa_nil) (hk := by omega))))))))
      (pss_one (ps_ret (pv 1))))), ?_⟩
      refine ⟨.ref t, rfl, t, rfl, ⟨_, SqT.of ht⟩, for_tup (xs := vs) (fun i σ H1 => ∃ y a b, σ = [some (.ref t), some (.int a.cnt), y] ∧ Ex H H1 ∧ g = Pg.app a b ∧ a.len = i) ⟨none, .nil, g, rfl, Ex.refl _, rfl, rfl⟩ (fun i σ H1 _ z => ?_) (fun i v σ H1 hx z => ?_) (fun σ H1 z => ?_)⟩
      · obtain ⟨_, _, _, _, e1, _⟩ := z
        exact SqT.of (e1 _ _ ht)
      · obtain ⟨y, a, b, rfl, e1, eg, rfl⟩ := z
        subst eg
        have hI1 := hI.kp e1.kp
        rcases hI1.get hx with ⟨s1, r, rfl, i1⟩ | ⟨n, x, r, t1, u1, bs, rfl, rfl, h1, h2, h3⟩
        · refine ⟨v, rfl, v, rfl, .inl ⟨s1, i1, fun H2 e2 => ⟨false, rfl, iteF ?_⟩⟩⟩
          refine ⟨_, rfl, v, rfl, v, s1, rfl, i1.mono e2, fun H3 e3 => ⟨_, _, rfl, rfl, some v, a.app (.sc s1 .nil), r, ?_, (e1.trans e2).trans e3, Pg.sc_app _ _ _, ?_⟩⟩
          · rw [Pg.cnt_app]
            show _ = [some (V.ref t), some (V.int (a.cnt + (slen s1 + 0))), some v]
            rw [Int.add_zero]
            rfl
          · rw [Pg.len_app]
            rfl
        · obtain ⟨n2, nC, _, okx, _⟩ : 2 ≤ n ∧ n ≤ C ∧ x ≠ .nil ∧ x.Ok C ∧ r.Ok C := by
            have go : ∀ a : Pg, (a.app (.rp n x r)).Ok C → (Pg.rp n x r).Ok C := by
              intro a
              induction a with
              | nil => exact id
              | sc s a ih => exact fun h => ih h.2
              | rp m y a _ ih => exact fun h => ih h.2.2.2.2
            exact go a hok
          have hdx : x.dep < d := by
            rw [Pg.dep_app] at hd
            have hd : max a.dep (max (x.dep + 1) r.dep) < d + 1 := hd
            omega
          rw [Pg.scs_app, List.length_append] at few
          have few : a.scs.length + (x.scs ++ r.scs).length ≤ 2 ^ 18 := few
          rw [List.length_append] at few
          obtain ⟨c0, c1⟩ := cnt_bits hC okx hdx (by omega)
          have nb : n < 2 ^ 400 := by have := hC.2; omega
          refine ⟨_, rfl, _, rfl, .inr ⟨t1, n, u1, bs, rfl, h1, h2, fun H2 e2 => ⟨true, rfl, iteT ?_⟩⟩⟩
          refine ⟨_, rfl, .ref t1, rfl, t1, _, 0, _, rfl, rfl, SqT.of (e2 _ _ h1), rfl, .ref t1, rfl, t1, _, 1, _, rfl, rfl, SqT.of (e2 _ _ h1), rfl, .ref u1, x, C, rfl, ⟨u1, bs, rfl, e2 _ _ h2, h3.kp e2.kp⟩, hdx, by omega, hC, okx, by omega, fun H4 e4 => ?_⟩
          refine ⟨n, x.cnt, rfl, rfl, wide_mul (abs_lt (by omega) nb) (abs_lt c0 c1) (by decide) (by omega) (by omega), _, _, rfl, rfl, ?_⟩
          refine ⟨some (.ref t1), a.app (.rp n x .nil), r, ?_, (e1.trans e2).trans e4, Pg.rp_app _ _ _ _, ?_⟩
          · rw [Pg.cnt_app]
            show _ = [some (V.ref t), some (V.int (a.cnt + (n * x.cnt + 0))), some (V.ref t1)]
            rw [Int.add_zero]
            rfl
          · rw [Pg.len_app]
            rfl
      · obtain ⟨y, a, b, rfl, e1, rfl, hl⟩ := z
        rw [hI.done hl, Pg.app_nil] at q
        exact ⟨_, rfl, q H1 e1⟩
theorem ok_repd (B : Bt2 mg) {f : Addr} {fd : FuncData} (F : Fun K "repeated" "repeated" srepeated f fd) : FnOk P w K mg base CX0 1 f fd ["parts", "times"] spRepd := by
  refine F.ok screpeated (fun vs H Q E h => ?_) (fun cdv A outer s H vs Q E hr h => ?_)
  · obtain ⟨v, g, n, rfl, _⟩ := h
    rfl
  · obtain ⟨v, g, n, rfl, ⟨t, ws, rfl, ht, hg⟩, q⟩ := h
    refine ⟨_, (pss_cons (ps_if (pt_cmpR op_eq (pv 1) pe_int (nomark _)) (pss_one (ps_ret (pe_tup pa_nil))) pss_nil)
      (pss_cons (ps_if (pw_or (pt_cmpR op_eq (pv 1) pe_int (nomark _)) (pw_or1 (pt_not (pt_truth (pv 0) (by intro _; rfl))))).pt (pss_one (ps_ret (pv 0))) pss_nil)
      (pss_one (ps_ret (pe_tup (pa_cons (pe_tup (pa_cons (pv 1) (pa_cons (pv 0) pa_nil))) pa_nil)))))), ?_⟩
    refine ⟨_, rfl, rfl, _, rfl, ?_⟩
    by_cases c0 : n = 0
    · rw [decide_eq_true (show V.int n = V.int 0 from congrArg V.int c0)]
      refine iteT ⟨Nat.zero_le _, fun r nr => q _ _ (Ex.new nr) ⟨r, [], rfl, upd_same, ?_⟩⟩
      rw [show g.rep n = .nil from if_pos c0]
      rfl
    rw [decide_eq_false (show ¬ V.int n = V.int 0 from fun e => c0 (V.int.inj e))]
    refine iteF ⟨_, rfl, rfl, _, rfl, ?_⟩
    have same : n = 1 ∨ g = .nil → Q (.ref t) H := fun e => q _ _ (Ex.refl _) ⟨t, ws, rfl, ht, by rw [show g.rep n = g from (if_neg c0).trans (if_pos e)]; exact hg⟩
    by_cases c1 : n = 1
    · rw [decide_eq_true (show V.int n = V.int 1 from congrArg V.int c1)]
      exact iteT ⟨_, rfl, same (.inl c1)⟩
    rw [decide_eq_false (show ¬ V.int n = V.int 1 from fun e => c1 (V.int.inj e))]
    have lg := hg.len
    have em : (!ws.isEmpty) = decide (g ≠ .nil) := by
      cases ws with
      | nil =>
        have : g = .nil := Pg.len_zero lg.symm
        rw [decide_eq_false (fun h => h this)]
        rfl
      | cons a r =>
        rw [decide_eq_true]
        · rfl
        · intro e
          rw [e] at lg
          cases lg
    refine iteF ⟨.ref t, rfl, decide (g ≠ .nil), .inr (.inl ⟨ws, SqT.of ht, em.symm⟩), ?_⟩
    by_cases c2 : g = .nil
    · rw [decide_eq_false (fun h => h c2)]
      exact iteT ⟨_, rfl, same (.inr c2)⟩
    · rw [decide_eq_true c2]
      refine iteF ⟨_, rfl, .ref t, rfl, by show 2 ≤ sizeLine; decide, fun r nr => ⟨by show 1 ≤ sizeLine; decide, fun z nz => ?_⟩⟩
      have z1 := Ex.new (o := .tup [V.int n, V.ref t]) nr
      have z2 := Ex.new (o := .tup [V.ref r]) nz
      refine q _ _ (z1.trans z2) ⟨z, _, rfl, upd_same, ?_⟩
      rw [show g.rep n = .rp n g .nil from (if_neg c0).trans (if_neg (fun h => h.elim c1 c2))]
      exact ⟨r, t, ws, [], rfl, z2 _ _ upd_same, (z1.trans z2) _ _ ht, hg.kp (z1.trans z2).kp, rfl⟩
theorem ok_backs (B : Bt2 mg) (Dis_repeat : Df P w K mg base "is_repeat" 1 ["part"] spIsRep) {f : Addr} {fd : FuncData} (F : Fun K "backwards" "backwards" sbackwards f fd)
    (mk : ∀ {k : Nat} {sp : Sp}, FnOk P w K mg base CX0 k f fd ["parts"] sp → Df P w K mg base "backwards" k ["parts"] sp) : ∀ d : Nat, FnOk P w K mg base CX0 (d + 2) f fd ["parts"] (spBack d)
  | 0 => ⟨fun vs H Q E h => by obtain ⟨v, g, rfl, _⟩ := h; rfl, fun A outer s H args us vs Q E _ _ _ _ h => by obtain ⟨v, g, rfl, _, h0, _⟩ := h; omega⟩
  | d + 1 => by
    have Dbackwards := mk (ok_backs B Dis_repeat F mk d)
    refine F.ok scbackwards (fun vs H Q E h => ?_) (fun cdv A outer s H vs Q E hr h => ?_)
    · obtain ⟨v, g, rfl, _⟩ := h
      rfl
    · obtain ⟨v, g, rfl, ⟨t, ws, rfl, ht, hg⟩, hd, hn, q⟩ := h
      refine ⟨_, (pss_cons (ps_set (i := 1) scbackwards.nd rfl (by first | exact Or.inl rfl | exact Or.inr rfl) (pe_lst pa_nil))
      (pss_cons (ps_for PassesOwn.never rfl (RT.pi_revA (by rfl) B.reversed (pv 0)) (pg_name (i := 2) scbackwards.nd rfl (by first | exact Or.inl rfl | exact Or.inr rfl)) (pss_one (ps_if (pt_val (pe_df Dis_repeat hr (pa_cons (pv 2) pa_nil) (hk := by omega))) (pss_one (ps_expr (pe_bm PySem.F.plainAttrs_list PySem.F.slot_list_append PySem.F.type_list_append mt_append (pv 1) (pa_cons (pe_tup (pa_cons (pe_ix ix_tup (pv 2) pe_int (fun _ _ => rfl)) (pa_cons (pe_df Dbackwards hr (pa_cons (pe_ix ix_tup (pv 2) pe_int (fun _ _ => rfl)) pa_nil) (hk := by omega)) pa_nil))) pa_nil)))) (pss_one (ps_expr (pe_bm PySem.F.plainAttrs_list PySem.F.slot_list_append PySem.F.type_list_append mt_append (pv 1) (pa_cons (pe_tup (pa_cons (pe_ix ix_tup (pv 2) pe_int (fun _ _ => rfl)) (pa_cons (pe_ix ix_tup (pv 2) pe_int (fun _ _ => rfl)) pa_nil))) pa_nil)))))))
      (pss_one (ps_ret (pe_callTy call_tuple_of (by rfl) B.tuple bo_tuple (pa_cons (pv 1) pa_nil)))))), ?_⟩
      refine ⟨Nat.zero_le _, fun p np => ?_⟩
      have e0 := Ex.new (o := .lst ([] : List V)) np
      have lws := hg.len
      have lgt := Pg.len_toks g
      refine ⟨.ref t, rfl, t, ws, rfl, .inr ⟨SqT.of (e0 _ _ ht), RT.for_ItvT (xs := ws) (fun i σ H1 => ∃ y a b us, σ = [some (.ref t), some (.ref p), y] ∧ Ex H H1 ∧ g = Pg.app a b ∧ b.len = i ∧ H1 p = some (.lst us) ∧ Its H1 b.back us) ⟨none, g, .nil, [], rfl, e0, (Pg.app_nil g).symm, rfl, upd_same, rfl⟩ (fun i σ H1 z => ?_) (fun i v σ H1 hi hx z => ?_) (fun σ H1 z => ?_)⟩⟩
      · obtain ⟨_, _, _, _, _, e1, _⟩ := z
        exact SqT.of (e1 _ _ ht)
      · obtain ⟨y, a, b, us, rfl, e1, eg, rfl, hp, iu⟩ := z
        subst eg
        have hI1 := hg.kp e1.kp
        have lu := iu.len
        have la : a ≠ .nil := fun e => by
          subst e
          have : b.len = ws.length := lws.symm
          omega
        rw [Pg.len_app] at lws lgt
        rw [show b.back.len = b.len from back_len b] at lu
        rcases Pg.last a la with ⟨a', s1, rfl⟩ | ⟨a', n, x, rfl⟩
        · have l1 : (a'.app (.sc s1 .nil)).len = a'.len + 1 := Pg.len_app _ _
          have hI2 : Its H1 (a'.app (.sc s1 b)) ws := by
            rw [Pg.sc_app]
            exact hI1
          rw [show ws.length - 1 - b.len = a'.len by omega] at hx
          rcases hI2.get hx with ⟨s2, r, e, t1, rfl, h1⟩ | ⟨n, x, r, _, _, _, e, _⟩
          · cases e
            refine ⟨_, rfl, _, rfl, .inl ⟨s1, ⟨t1, rfl, h1⟩, fun H2 e2 => ⟨false, rfl, iteF ?_⟩⟩⟩
            have hp2 := e2 _ _ hp
            have h12 := e2 _ _ h1
            refine ⟨.ref p, rfl, .inl ⟨rfl, _, .inl (.inl hp2)⟩, .ref t1, rfl, t1, _, 1, _, rfl, rfl, SqT.of h12, rfl, .ref t1, rfl, t1, _, 0, _, rfl, rfl, SqT.of h12, rfl, by show 2 ≤ sizeLine; decide, fun r nr => ?_⟩
            have z1 := Ex.new (o := .tup [V.int s1.2, V.int s1.1]) nr
            have hp3 := z1 _ _ hp2
            refine ⟨p, us, .ref r, rfl, rfl, hp3, small20 (by omega), ?_⟩
            have e3 := (e1.trans e2).trans z1
            refine ⟨_, a', .sc s1 b, us ++ [V.ref r], rfl, e3.mut np, by rw [Pg.app_assoc]; rfl, rfl, upd_same, ?_⟩
            have k3 : Kp H1 (upd (upd H2 r (.tup [V.int s1.2, V.int s1.1])) p (.lst (us ++ [V.ref r]))) := (e2.trans z1).kp.trans (Kp.lst hp3)
            refine (iu.kp k3).app (b := .sc (swp s1) .nil) ⟨_, [], rfl, ⟨r, rfl, Kp.lst hp3 _ _ upd_same⟩, rfl⟩
          · cases e
        · have l1 : (a'.app (.rp n x .nil)).len = a'.len + 1 := Pg.len_app _ _
          have hI2 : Its H1 (a'.app (.rp n x b)) ws := by
            rw [Pg.rp_app]
            exact hI1
          rw [show ws.length - 1 - b.len = a'.len by omega] at hx
          rcases hI2.get hx with ⟨s2, r, e, _⟩ | ⟨n', x', r, t1, u1, bs, e, rfl, h1, h2, h3⟩
          · cases e
          · cases e
            have dx : x.dep < d := by
              rw [← Pg.rp_app] at hd
              have := Pg.mid_dep a' x b n
              omega
            have tx : x.toks.length ≤ 2 ^ 18 := by
              rw [← Pg.rp_app] at hn
              have := Pg.mid_toks a' x b n
              omega
            refine ⟨_, rfl, _, rfl, .inr ⟨t1, n, u1, bs, rfl, h1, h2, fun H2 e2 => ⟨true, rfl, iteT ?_⟩⟩⟩
            have hp2 := e2 _ _ hp
            have h12 := e2 _ _ h1
            refine ⟨.ref p, rfl, .inl ⟨rfl, _, .inl (.inl hp2)⟩, .ref t1, rfl, t1, _, 0, _, rfl, rfl, SqT.of h12, rfl, .ref t1, rfl, t1, _, 1, _, rfl, rfl, SqT.of h12, rfl, .ref u1, x, rfl, ⟨u1, bs, rfl, e2 _ _ h2, h3.kp e2.kp⟩, dx, tx, fun w1 H3 e3 i3 => ⟨by show 2 ≤ sizeLine; decide, fun r nr => ?_⟩⟩
            have z1 := Ex.new (o := .tup [V.int n, V.ref w1]) nr
            have hp3 := z1 _ _ (e3 _ _ hp2)
            refine ⟨p, us, .ref r, rfl, rfl, hp3, small20 (by omega), ?_⟩
            have e4 := ((e1.trans e2).trans e3).trans z1
            refine ⟨_, a', .rp n x b, us ++ [V.ref r], rfl, e4.mut np, by rw [Pg.app_assoc]; rfl, rfl, upd_same, ?_⟩
            have k2 := z1.kp.trans (Kp.lst hp3 (o := .lst (us ++ [V.ref r])))
            have k3 := (e2.trans e3).kp.trans k2
            obtain ⟨w2, cs, ew, h5, h6⟩ := i3
            cases ew
            exact (iu.kp k3).app (b := .rp n x.back .nil) ⟨r, w1, cs, [], rfl, Kp.lst hp3 _ _ upd_same, k2 _ _ h5, h6.kp k2, rfl⟩
      · obtain ⟨y, a, b, us, rfl, e1, eg, hl, hp, iu⟩ := z
        have : a = .nil := by
          refine Pg.len_zero ?_
          rw [eg, Pg.len_app] at lws
          omega
        subst this
        have eg : g = b := eg
        subst eg
        refine ⟨.ref p, rfl, p, us, rfl, .inl ⟨SqL.of hp, fun r nr => ?_⟩⟩
        have z1 := Ex.new (o := .tup us) nr
        exact q r _ (e1.trans z1) ⟨r, us, rfl, upd_same, iu.kp z1.kp⟩
theorem ok_rdD (B : Bt2 mg) {f : Addr} {fd : FuncData} (F : Fun K "read_digits" "read_digits" sread_digits f fd) : FnOk P w K mg base CX0 1 f fd ["word", "most"] spRdD := by
  refine F.ok scread_digits (fun vs H Q E h => ?_) (fun cdv A outer s H vs Q E hr h => ?_)
  · obtain ⟨i, m, rfl, _⟩ := h
    rfl
  · obtain ⟨i, m, rfl, h0, h1, hm, q⟩ := h
    refine ⟨_, (pss_cons (ps_if (pw_or (pt_cmpR op_gt (pe_callB call_len_str (by rfl) B.len bo_len (pa_cons (pv 0) pa_nil)) (pv 1) (nomark _)) (pw_or (pt_not (pt_val (pe_m0 PySem.F.slot_str_isascii PySem.F.type_str_isascii mt_isascii (pv 0)))) (pw_or1 (pt_not (pt_val (pe_m0 PySem.F.slot_str_isdigit PySem.F.type_str_isdigit mt_isdigit (pv 0))))))).pt (pss_one (ps_ret pe_non)) pss_nil)
      (pss_cons (ps_if (pw_and (pt_val (pe_m1 PySem.F.slot_str_startswith PySem.F.type_str_startswith mt_startswith (pv 0) pe_str)) (pw_and1 (pt_cmpR op_ne (pv 0) pe_str (nomark _)))).pt (pss_one (ps_ret pe_non)) pss_nil)
      (pss_one (ps_ret (pe_callTy call_int_str (by rfl) B.int bo_int (pa_cons (pv 0) pa_nil)))))), ?_⟩
    have l6 := nw_len h0 (k := 600) (by decide) h1
    refine ⟨.str (nw i), rfl, nw i, rfl, Nat.le_trans l6 (by decide), .int m, rfl, _, _, rfl, rfl, _, rfl, ?_⟩
    rw [decide_eq_false (show ¬ ((nw i).length : Int) > m by omega)]
    refine iteF ⟨.str (nw i), rfl, ⟨_, rfl⟩, nw i, rfl, rfl, trivial, true, congrArg V.bl (nw_ascii h0), iteF ?_⟩
    refine ⟨.str (nw i), rfl, ⟨_, rfl⟩, nw i, rfl, rfl, trivial, true, congrArg V.bl (nw_isdigit h0), iteF ?_⟩
    have z48 : (Str.ofString "0") = (⟨#[48]⟩ : Str) := by decide +kernel
    have sw : Txt.startswith (nw i) (Str.ofString "0") = decide (i = 0) := by
      rw [z48, starts1]
      exact decide_eq_decide.mpr (nw_zero h0)
    refine ⟨.str (nw i), rfl, ⟨_, rfl⟩, nw i, _, rfl, rfl, decide (i = 0), congrArg V.bl sw, ?_⟩
    by_cases c : i = 0
    · subst c
      rw [decide_eq_true rfl]
      refine iteT ⟨_, rfl, rfl, _, rfl, ?_⟩
      rw [show nw 0 = Str.ofString "0" from rfl, decide_eq_true rfl]
      exact iteF ⟨_, rfl, _, 0, rfl, nw_int h0 h1, by decide, q.go (Ex.refl _)⟩
    · rw [decide_eq_false c]
      exact iteF ⟨_, rfl, nw i, i, rfl, nw_int h0 h1, by omega, q.go (Ex.refl _)⟩
theorem ok_rdN (B : Bt2 mg) (hMD : ∃ u, mg "MOST_DIGITS" = some u ∧ RelV (.int 31) u) (hGR : ∃ u, mg "GREATEST" = some u ∧ RelV (.int (10 ^ 30)) u) (Dread_digits : Df P w K mg base "read_digits" 1 ["word", "most"] spRdD) {f : Addr} {fd : FuncData} (F : Fun K "read_number" "read_number" sread_number f fd) : FnOk P w K mg base CX0 2 f fd ["word"] spRdN := by
  obtain ⟨uMD, hMOST_DIGITS, rMOST_DIGITS⟩ := hMD
  obtain ⟨uGR, hGREATEST, rGREATEST⟩ := hGR
  refine F.ok scread_number (fun vs H Q E h => ?_) (fun cdv A outer s H vs Q E hr h => ?_)
  · obtain ⟨i, rfl, _⟩ := h
    rfl
  · obtain ⟨i, rfl, h0, h1, q⟩ := h
    refine ⟨_, (pss_cons (ps_set (i := 1) scread_number.nd rfl (by first | exact Or.inl rfl | exact Or.inr rfl) (pe_df Dread_digits hr (pa_cons (pv 0) (pa_cons (pe_glob (v := .int (31)) (by rfl) hMOST_DIGITS rMOST_DIGITS) pa_nil))))
      (pss_one (ps_ret (pe_ifExp (pw_or (pt_cmpR op_isN (pv 1) pe_non (nomark _)) (pw_or1 (pt_cmpR op_gt (pv 1) (pe_glob (v := .int (10 ^ 30)) (by rfl) hGREATEST rGREATEST) (nomark _)))).pt pe_non (pv 1))))), ?_⟩
    have l := nw_len h0 (k := 31) (by decide) (by omega)
    refine ⟨.str (nw i), rfl, i, 31, rfl, h0, Int.lt_of_le_of_lt h1 (by decide +kernel), by omega, fun H1 e1 => ?_⟩
    refine ⟨.int i, rfl, rfl, _, rfl, iteF ⟨.int i, rfl, _, _, rfl, rfl, _, rfl, ?_⟩⟩
    rw [decide_eq_false (show ¬ i > 10 ^ 30 by omega)]
    exact iteF ⟨.int i, rfl, q.go e1⟩
theorem ok_rdS (B : Bt2 mg) (Dread_number : Df P w K mg base "read_number" 2 ["word"] spRdN) {f : Addr} {fd : FuncData} (F : Fun K "read_scan" "read_scan" sread_scan f fd) : FnOk P w K mg base CX0 3 f fd ["word"] spRdS := by
  refine F.ok scread_scan (fun vs H Q E h => ?_) (fun cdv A outer s H vs Q E hr h => ?_)
  · obtain ⟨s, rfl, _⟩ := h
    rfl
  · obtain ⟨⟨x, y⟩, rfl, ok, q⟩ := h
    have ok' : 0 ≤ x ∧ x ≤ 10 ^ 30 ∧ 0 ≤ y ∧ y ≤ 10 ^ 30 := ok
    obtain ⟨x0, x1, y0, y1⟩ := ok'
    refine ⟨_, (pss_cons (ps_asg (pe_partition (pv 0) pe_str) (pg_tup rfl (pgs_cons (pg_name (i := 1) scread_scan.nd rfl (by first | exact Or.inl rfl | exact Or.inr rfl)) (pgs_cons (pg_name (i := 2) scread_scan.nd rfl (by first | exact Or.inl rfl | exact Or.inr rfl)) (pgs_cons (pg_name (i := 3) scread_scan.nd rfl (by first | exact Or.inl rfl | exact Or.inr rfl)) pgs_nil)))))
      (pss_cons (ps_set (i := 4) scread_scan.nd rfl (by first | exact Or.inl rfl | exact Or.inr rfl) (pe_df Dread_number hr (pa_cons (pv 1) pa_nil)))
      (pss_cons (ps_if (pt_cmpR op_eq (pv 2) pe_str (nomark _)) (pss_one (ps_ret (pe_ifExp (pt_cmpR op_isN (pv 4) pe_non (nomark _)) pe_non (pe_tup (pa_cons (pv 4) (pa_cons (pv 4) pa_nil)))))) pss_nil)
      (pss_cons (ps_set (i := 5) scread_scan.nd rfl (by first | exact Or.inl rfl | exact Or.inr rfl) (pe_df Dread_number hr (pa_cons (pv 3) pa_nil)))
      (pss_cons (ps_if (pw_or (pt_cmpR op_isN (pv 4) pe_non (nomark _)) (pw_or (pt_cmpR op_isN (pv 5) pe_non (nomark _)) (pw_or1 (pt_cmpR op_eq (pv 4) (pv 5) (nomark _))))).pt (pss_one (ps_ret pe_non)) pss_nil)
      (pss_one (ps_ret (pe_tup (pa_cons (pv 4) (pa_cons (pv 5) pa_nil)))))))))), ?_⟩
    have pt := scw_part ok
    have lw := (wd_len (t := .sc (x, y)) (B := 10 ^ 30) ok (k := 31) (by decide) (by decide +kernel)).2
    have lw : (scw (x, y)).length ≤ 63 := lw
    refine ⟨.str (scw (x, y)), rfl, ⟨_, rfl⟩, scw (x, y), dash, rfl, rfl, by decide +kernel, Nat.le_trans lw (by decide), fun t nt => ?_⟩
    rw [pt]
    have et := fun o => Ex.new (H := H) (p := t) (o := o) nt
    by_cases c : x = y
    · subst c
      rw [if_pos rfl]
      refine ⟨t, _, rfl, SqT.of upd_same, rfl, _, _, rfl, _, _, rfl, _, _, rfl, rfl, ?_⟩
      refine ⟨_, rfl, x, rfl, x0, x1, fun H1 e1 => ?_⟩
      refine ⟨_, rfl, rfl, _, rfl, ?_⟩
      refine iteT ⟨.int x, rfl, rfl, _, rfl, iteF ⟨.int x, rfl, .int x, rfl, by show 2 ≤ sizeLine; decide, fun r nr => ?_⟩⟩
      exact q r _ (((et _).trans e1).back nr) (((et _).trans e1).add nr) upd_same
    · rw [if_neg c]
      refine ⟨t, _, rfl, SqT.of upd_same, rfl, _, _, rfl, _, _, rfl, _, _, rfl, rfl, ?_⟩
      refine ⟨_, rfl, x, rfl, x0, x1, fun H1 e1 => ?_⟩
      refine ⟨_, rfl, rfl, _, rfl, ?_⟩
      refine iteF ⟨_, rfl, y, rfl, y0, y1, fun H2 e2 => ?_⟩
      refine ⟨.int x, rfl, rfl, _, rfl, iteF ⟨.int y, rfl, rfl, _, rfl, iteF ⟨.int x, rfl, .int y, rfl, rfl, _, rfl, ?_⟩⟩⟩
      rw [decide_eq_false (show ¬ V.int x = V.int y from fun e => c (by cases e; rfl))]
      refine iteF ⟨.int x, rfl, .int y, rfl, by show 2 ≤ sizeLine; decide, fun r nr => ?_⟩
      exact q r _ ((((et _).trans e1).trans e2).back nr) ((((et _).trans e1).trans e2).add nr) upd_same
theorem ok_rdT (B : Bt2 mg) (Dread_number : Df P w K mg base "read_number" 2 ["word"] spRdN) {f : Addr} {fd : FuncData} (F : Fun K "read_times" "read_times" sread_times f fd) : FnOk P w K mg base CX0 3 f fd ["word"] spRdT := by
  refine F.ok scread_times (fun vs H Q E h => ?_) (fun cdv A outer s H vs Q E hr h => ?_)
  · obtain ⟨n, rfl, _⟩ := h
    rfl
  · obtain ⟨n, rfl, h0, h1, q⟩ := h
    refine ⟨_, (pss_cons (ps_set (i := 1) scread_times.nd rfl (by first | exact Or.inl rfl | exact Or.inr rfl) (pe_df Dread_number hr (pa_cons (pe_slice sl_str (pv 0) (po_some pe_int) po_none) pa_nil)))
      (pss_one (ps_ret (pe_ifExp (pw_or (pt_cmpR op_isN (pv 1) pe_non (nomark _)) (pw_or1 (pt_cmpR op_lt (pv 1) pe_int (nomark _)))).pt pe_non (pv 1))))), ?_⟩
    have lw := (wd_len (t := .cl n) (B := 10 ^ 30) ⟨h0, h1⟩ (k := 31) (by decide) (by decide +kernel)).2
    have lw : (clW ++ nw n).length ≤ 63 := lw
    refine ⟨.str (clW ++ nw n), rfl, 1, rfl, clW ++ nw n, rfl, Nat.le_trans lw (by decide), ?_⟩
    rw [cut_cl]
    refine ⟨n, rfl, by omega, h1, fun H1 e1 => ?_⟩
    refine ⟨.int n, rfl, rfl, _, rfl, iteF ⟨.int n, rfl, _, _, rfl, rfl, _, rfl, ?_⟩⟩
    rw [decide_eq_false (show ¬ n < 2 by omega)]
    exact iteF ⟨.int n, rfl, q.go e1⟩
theorem ok_read (B : Bt2 mg) (hMS : ∃ u, mg "MOST_SCANS" = some u ∧ RelV (.int 40) u) (hMB : ∃ u, mg "MOST_BRACKETS" = some u ∧ RelV (.int 5) u) (Dread_scan : Df P w K mg base "read_scan" 3 ["word"] spRdS) (Dread_times : Df P w K mg base "read_times" 3 ["word"] spRdT) {f : Addr} {fd : FuncData} (F : Fun K "read_text" "read_text" sread_text f fd) : FnOk P w K mg base CX0 4 f fd ["text"] spRead := by
  obtain ⟨uMS, hMOST_SCANS, rMOST_SCANS⟩ := hMS
  obtain ⟨uMB, hMOST_BRACKETS, rMOST_BRACKETS⟩ := hMB
  refine F.ok scread_text (fun vs H Q E h => ?_) (fun cdv A outer s H vs Q E hr h => ?_)
  · obtain ⟨g, rfl, _⟩ := h
    rfl
  · obtain ⟨g, rfl, lim, q⟩ := h
    refine ⟨_, (pss_cons (ps_if (pt_not (pt_val (pe_callB call_isi (by rfl) B.isinstance bo_isinstance (pa_cons (pv 0) (pa_cons (pe_bltn (v := .ty "str") (by rfl) B.str bo_str rfl) pa_nil))))) (pss_one ps_never) pss_nil)
      (pss_cons (ps_set (i := 1) scread_text.nd rfl (by first | exact Or.inl rfl | exact Or.inr rfl) (pe_ifExp (pt_truth (pv 0) (by intro _; rfl)) (pe_split (pv 0) pe_str) (pe_lst pa_nil)))
      (pss_cons (ps_set (i := 2) scread_text.nd rfl (by first | exact Or.inl rfl | exact Or.inr rfl) (pe_lst (pa_cons (pe_tup pa_nil) pa_nil)))
      (pss_cons (ps_set (i := 3) scread_text.nd rfl (by first | exact Or.inl rfl | exact Or.inr rfl) pe_int)
      (pss_cons (ps_for PassesOwn.never rfl (pi_enum (by rfl) B.enumerate (pa_cons (pv 1) pa_nil)) (pg_tup rfl (pgs_cons (pg_name (i := 4) scread_text.nd rfl (by first | exact Or.inl rfl | exact Or.inr rfl)) (pgs_cons (pg_name (i := 5) scread_text.nd rfl (by first | exact Or.inl rfl | exact Or.inr rfl)) pgs_nil))) (pss_one (ps_if (pt_cmpR op_eq (pv 5) pe_str (nomark _)) (pss_cons (ps_if (pt_cmpR op_gt (pe_callB call_len_seq (by rfl) B.len bo_len (pa_cons (pv 2) pa_nil)) (pe_glob (v := .int (5)) (by rfl) hMOST_BRACKETS rMOST_BRACKETS) (nomark _)) (pss_one ps_never) pss_nil)
      (pss_one (ps_expr (pe_bm PySem.F.plainAttrs_list PySem.F.slot_list_append PySem.F.type_list_append mt_append (pv 2) (pa_cons (pe_tup pa_nil) pa_nil))))) (pss_one (ps_if (pt_val (pe_m1 PySem.F.slot_str_startswith PySem.F.type_str_startswith mt_startswith (pv 5) pe_str)) (pss_cons (ps_set (i := 6) scread_text.nd rfl (by first | exact Or.inl rfl | exact Or.inr rfl) (pe_df Dread_times hr (pa_cons (pv 5) pa_nil)))
      (pss_cons (ps_if (pw_or (pt_cmpR op_isN (pv 6) pe_non (nomark _)) (pw_or (pt_cmpR op_eq (pe_callB call_len_seq (by rfl) B.len bo_len (pa_cons (pv 2) pa_nil)) pe_int (nomark _)) (pw_or1 (pt_cmpR (op_eqD hr.units) (pe_ix ix_list (pv 2) (pe_un un_neg pe_int) (fun _ _ => rfl)) (pe_tup pa_nil) (nomark _))))).pt (pss_one ps_never) pss_nil)
      (pss_cons (ps_set (i := 7) scread_text.nd rfl (by first | exact Or.inl rfl | exact Or.inr rfl) (pe_bm0 PySem.F.plainAttrs_list PySem.F.slot_list_pop PySem.F.type_list_pop mt_pop (pv 2)))
      (pss_one (ps_asg (pe_op op_catA (pe_ix ix_list (pv 2) (pe_un un_neg pe_int) (fun _ _ => rfl)) (pe_tup (pa_cons (pe_tup (pa_cons (pv 6) (pa_cons (pv 7) pa_nil))) pa_nil))) (pg_sub (pv 2) (pe_un un_neg pe_int) set_list)))))) (pss_cons (ps_set (i := 8) scread_text.nd rfl (by first | exact Or.inl rfl | exact Or.inr rfl) (pe_df Dread_scan hr (pa_cons (pv 5) pa_nil)))
      (pss_cons (ps_aug (i := 3) scread_text.nd rfl (by first | exact Or.inl rfl | exact Or.inr rfl) pe_int ip_add)
      (pss_cons (ps_if (pw_or (pt_cmpR op_isN (pv 8) pe_non (nomark _)) (pw_or1 (pt_cmpR op_gt (pv 3) (pe_glob (v := .int (40)) (by rfl) hMOST_SCANS rMOST_SCANS) (nomark _)))).pt (pss_one ps_never) pss_nil)
      (pss_one (ps_asg (pe_op op_catA (pe_ix ix_list (pv 2) (pe_un un_neg pe_int) (fun _ _ => rfl)) (pe_tup (pa_cons (pv 8) pa_nil))) (pg_sub (pv 2) (pe_un un_neg pe_int) set_list)))))))))))
      (pss_cons (ps_if (pt_cmpR op_gt (pe_callB call_len_seq (by rfl) B.len bo_len (pa_cons (pv 2) pa_nil)) pe_int (nomark _)) (pss_one ps_never) pss_nil)
      (pss_one (ps_ret (pe_ix ix_list (pv 2) pe_int (fun _ _ => rfl)))))))))), ?_⟩
    have lt := lim.txt
    have ltk := lim.toks
    refine ⟨.str (txt g), rfl, .str (txt g), .ty "str", _, _, true, rfl, .ty _, .base (.str _), kit_ty (by decide +kernel), true, rfl, iteF ?_⟩
    by_cases gn : g = .nil
    case' pos =>
      subst gn
      refine ⟨_, rfl, false, ⟨Nat.zero_le _, rfl⟩, iteF ⟨Nat.zero_le _, fun pw npw => ?_⟩⟩
      have hW : (upd H pw (.lst ([] : List V))) pw = some (.lst (Pg.nil.wl.map V.str)) := upd_same
      have eW : Ex H (upd H pw (.lst ([] : List V))) := Ex.new npw
      generalize Pg.nil = g at *
      generalize upd H pw (.lst ([] : List V)) = H0 at hW eW ⊢
    case' neg =>
      have ne := txt_pos lim.ok gn
      have lne : true = (((txt g).length : Int) != 0) := by
        symm
        rw [bne_iff_ne]
        intro z
        refine ne (ext_tl ?_)
        show tl (txt g) = []
        exact List.eq_nil_of_length_eq_zero (by rw [← len_tl]; omega)
      refine ⟨.str (txt g), rfl, true, ⟨Nat.le_trans lt (by decide), lne⟩, iteT ⟨.str (txt g), rfl, ⟨_, rfl⟩, txt g, spW, rfl, rfl, by decide +kernel, by rw [sizeLine_eq]; omega, fun pw npw => ?_⟩⟩
      rw [txt_split lim.ok gn]
      have hW : (upd H pw (.lst (g.wl.map V.str))) pw = some (.lst (g.wl.map V.str)) := upd_same
      have eW : Ex H (upd H pw (.lst (g.wl.map V.str))) := Ex.new npw
      generalize upd H pw (.lst (g.wl.map V.str)) = H0 at hW eW ⊢
    all_goals
      refine ⟨by show 0 ≤ sizeLine; decide, fun t0 nt0 => ⟨by show 1 ≤ sizeLine; decide, fun p np => ?_⟩⟩
      have x1 := Ex.new (o := .tup ([] : List V)) nt0
      have x2 := Ex.new (o := .lst [V.ref t0]) np
      have np0 : H p = none := eW.back (x1.back np)
      have npW : H0 p = none := x1.back np
      have hB : Bod (upd (upd H0 t0 (.tup [])) p (.lst [V.ref t0])) p [.nil] := ⟨[.ref t0], upd_same, .cons ⟨t0, [], rfl, x2 _ _ upd_same, rfl⟩ .nil⟩
      have e01 : Ex H0 (upd (upd H0 t0 (.tup [])) p (.lst [V.ref t0])) := x1.trans x2
      generalize upd (upd H0 t0 (.tup [])) p (.lst [V.ref t0]) = H1 at hB e01 ⊢
      have whole := run_toks (D := 6) (M := 40) g .nil [] 0 lim.ok (by have := lim.dep; simp; omega) (by have := lim.few; omega)
      refine ⟨.ref pw, rfl, pw, _, rfl, SqL.of (e01 _ _ hW), ?_⟩
      refine for_enum (xs := g.wl.map V.str) (fun i σ H2 => ∃ st m y4 y5 y6 y7 y8, σ = [some (.str (txt g)), some (.ref pw), some (.ref p), some (.int (m : Nat)), y4, y5, y6, y7, y8] ∧ Ex H0 H2 ∧ run 6 40 (g.toks.take i) ([.nil], 0) = some (st, m) ∧ Bod H2 p st ∧ Dp0 6 st ∧ lens st ≤ i ∧ (∀ x ∈ st, x.Ok (10 ^ 30)) ∧ scss st ≤ m)
        ⟨[.nil], 0, _, _, _, _, _, rfl, e01, rfl, hB, ⟨by decide, trivial⟩, Nat.le_refl _, fun x hx => by rw [List.mem_singleton.mp hx]; trivial, Nat.le_refl _⟩ (fun i σ H2 _ z => ?_) (fun i x T σ H2 hx nT z => ?_) (fun σ H2 z => ?_)
      · obtain ⟨_, _, _, _, _, _, _, _, e2, _⟩ := z
        exact SqL.of (e2 _ _ hW)
      · obtain ⟨st, m0, y4, y5, y6, y7, y8, rfl, e2, hrun, hBod, hD, hL, hOk, hSm⟩ := z
        rw [Pg.wl, List.map_map, List.getElem?_map] at hx
        obtain ⟨tk, gtk, rfl⟩ := Option.map_eq_some_iff.mp hx
        obtain ⟨⟨v1, v2⟩, hs', hrun'⟩ := run_at whole gtk hrun
        have li : i < 440 := Nat.lt_of_lt_of_le (List.getElem?_eq_some_iff.mp gtk).1 ltk
        have tok := toks_ok lim.ok tk (List.mem_of_getElem? gtk)
        obtain ⟨hD', hL', hOk', hSm', _⟩ := step_inv hs' tok hD hOk hSm
        have eT := Ex.new (o := .tup [V.int (i : Nat), (V.str ∘ Tk.wd) tk]) nT
        refine ⟨T, _, rfl, SqT.of upd_same, rfl, _, _, rfl, _, _, rfl, rfl, ?_⟩
        have hBod3 := hBod.mono eT
        have e23 := e2.trans eT
        generalize upd H2 T (.tup [V.int (i : Nat), (V.str ∘ Tk.wd) tk]) = H3 at hBod3 e23 ⊢
        obtain ⟨us, hus, pus⟩ := hBod3
        have lus := Pp.len pus
        cases tk with
        | op =>
          obtain ⟨l5, e⟩ := step_op hs'
          cases e
          refine ⟨_, rfl, rfl, _, rfl, ?_⟩
          rw [decide_eq_true (show (V.str ∘ Tk.wd) Tk.op = V.str (Str.ofString "(") from rfl)]
          refine iteT ?_
          refine ⟨.ref p, rfl, p, _, rfl, .inl (SqL.of hus), _, _, rfl, rfl, _, rfl, ?_⟩
          rw [decide_eq_false (show ¬ ((us.reverse.length : Nat) : Int) > 5 by rw [List.length_reverse]; omega)]
          refine iteF ⟨.ref p, rfl, .inl ⟨rfl, _, .inl (.inl hus)⟩, by show 0 ≤ sizeLine; decide, fun t1 nt1 => ?_⟩
          have y1 := Ex.new (o := .tup ([] : List V)) nt1
          refine ⟨p, us.reverse, .ref t1, rfl, rfl, y1 _ _ hus, small20 (by rw [List.length_reverse]; omega), ?_⟩
          refine ⟨_, m0, _, _, _, _, _, rfl, (e23.trans y1).mut npW, hrun', ⟨.ref t1 :: us, ?_, ?_⟩, hD', by omega, hOk', hSm'⟩
          · rw [upd_same, List.reverse_cons]
          · have k := Kp.lst (o := .lst (us.reverse ++ [V.ref t1])) (y1 _ _ hus)
            exact .cons ⟨t1, [], rfl, k _ _ upd_same, rfl⟩ (Pp.kp (y1.kp.trans k) pus)
        | cl n =>
          obtain ⟨b, c, r, rfl, bn, e⟩ := step_cl hs'
          cases e
          have tok : 2 ≤ n ∧ n ≤ 10 ^ 30 := tok
          cases pus with
          | @cons vb _ us1 _ ib pus =>
          cases pus with
          | @cons vc _ ur _ ic pur =>
          rw [List.reverse_cons] at hus
          refine ⟨_, rfl, rfl, _, rfl, ?_⟩
          rw [decide_eq_false (show ¬ (V.str ∘ Tk.wd) (Tk.cl n) = V.str (Str.ofString "(") from fun e => cl_ne_op n (V.str.inj e))]
          refine iteF ⟨_, rfl, ⟨_, rfl⟩, clW ++ nw n, clW, rfl, rfl, true, congrArg V.bl (cl_starts n), iteT ?_⟩
          refine ⟨_, rfl, n, rfl, tok.1, tok.2, fun H4 e4 => ?_⟩
          have hus4 := e4 _ _ hus
          refine ⟨.int n, rfl, rfl, _, rfl, iteF ⟨.ref p, rfl, p, _, rfl, .inl (SqL.of hus4), rfl, _, rfl, ?_⟩⟩
          rw [decide_eq_false (show ¬ V.int ((((vc :: ur).reverse ++ [vb]).length : Nat) : Int) = V.int 1 from fun e => by
            have e := V.int.inj e
            rw [List.length_append, List.length_reverse, List.length_cons, List.length_singleton] at e
            omega)]
          refine iteF ⟨.ref p, rfl, 1, rfl, p, _, -1, vb, rfl, rfl, SqL.of hus4, atI_last _ _, by show 0 ≤ sizeLine; decide, fun t1 nt1 => ?_⟩
          have y1 := Ex.new (o := .tup ([] : List V)) nt1
          have db : b.dep ≤ 30 := by have := hD.1; omega
          refine ⟨pdP b, pdP .nil, ((ib.mono e4).mono y1).dp, .tup (SqT.of upd_same) .nil, shaped_Pg db, rfl, _, rfl, ?_⟩
          rw [eqv_Pg, decide_eq_false bn]
          refine iteF ?_
          have hus5 := y1 _ _ hus4
          have e35 := e4.trans y1
          generalize upd H4 t1 (.tup ([] : List V)) = H5 at hus5 e35 ⊢
          refine ⟨.ref p, rfl, .inl ⟨rfl, _, .inl (.inl hus5)⟩, p, _, vb, rfl, rfl, hus5, ?_, ?_⟩
          · rw [List.length_append, List.length_singleton, Nat.add_sub_cancel, List.getElem?_append_right (Nat.le_refl _), Nat.sub_self]
            rfl
          rw [List.dropLast_concat, List.reverse_cons]
          have k6 : Kp H5 (upd H5 p (.lst (ur.reverse ++ [vc]))) := Kp.lst hus5
          have e06 : Ex H0 (upd H5 p (.lst (ur.reverse ++ [vc]))) := (e23.trans e35).mut npW
          have hp6 : (upd H5 p (.lst (ur.reverse ++ [vc]))) p = some (.lst (ur.reverse ++ [vc])) := upd_same
          have ib6 := (ib.mono e35).kp k6
          have ic6 := (ic.mono e35).kp k6
          have pur6 := Pp.kp (e35.kp.trans k6) pur
          generalize upd H5 p (.lst (ur.reverse ++ [vc])) = H6 at e06 hp6 ib6 ic6 pur6 ⊢
          have fin : ∀ v4 H7, Ex H6 H7 → IsPg H7 v4 (c.app (.rp n b .nil)) → ∃ st m y4 y5 y6 y7 y8', [some (V.str (txt g)), some (.ref pw), some (.ref p), some (.int (m0 : Nat)), some (.int (i : Nat)), some (.str (clW ++ nw n)), some (.int n), some vb, y8] = [some (V.str (txt g)), some (.ref pw), some (.ref p), some (.int (m : Nat)), y4, y5, y6, y7, y8'] ∧
              Ex H0 (upd H7 p (.lst (ur.reverse ++ [v4]))) ∧ run 6 40 (g.toks.take (i + 1)) ([.nil], 0) = some (st, m) ∧ Bod (upd H7 p (.lst (ur.reverse ++ [v4]))) p st ∧ Dp0 6 st ∧ lens st ≤ i + 1 ∧ (∀ x ∈ st, x.Ok (10 ^ 30)) ∧ scss st ≤ m := fun v4 H7 e7 i7 => by
            refine ⟨_, _, _, _, _, _, _, rfl, (e06.trans e7).mut npW, hrun', ⟨v4 :: ur, ?_, ?_⟩, hD', by omega, hOk', hSm'⟩
            · rw [upd_same, List.reverse_cons]
            · have k := Kp.lst (o := .lst (ur.reverse ++ [v4])) (e7 _ _ hp6)
              exact .cons (i7.kp k) (Pp.kp (e7.kp.trans k) pur6)
          obtain ⟨tc, cs, rfl, htc, hIc⟩ := ic6
          refine ⟨.ref p, rfl, 1, rfl, p, _, -1, .ref tc, rfl, rfl, SqL.of hp6, atI_last _ _, .int n, rfl, vb, rfl, by show 2 ≤ sizeLine; decide, fun t2 nt2 => ⟨by show 1 ≤ sizeLine; decide, fun t3 nt3 => ?_⟩⟩
          have z2 := Ex.new (o := .tup [V.int n, vb]) nt2
          have z3 := Ex.new (o := .tup [V.ref t2]) nt3
          have z23 := z2.trans z3
          obtain ⟨tb, bs, rfl, htb, hIb⟩ := ib6
          have iNew : Its (upd (upd H6 t2 (.tup [V.int n, V.ref tb])) t3 (.tup [V.ref t2])) (.rp n b .nil) [.ref t2] := ⟨t2, tb, bs, [], rfl, z3 _ _ upd_same, z23 _ _ htb, hIb.kp z23.kp, rfl⟩
          have lcs := hIc.len
          refine ⟨tc, t3, cs, [.ref t2], rfl, rfl, SqT.of (z23 _ _ htc), SqT.of upd_same, ?_, fun cn => ?_, fun _ h => (by cases h), fun cn _ t4 nt4 => ?_⟩
          · have : b.len + (c.len + lens r) ≤ i := hL
            rw [List.length_singleton]
            exact Nat.le_of_lt (small20 (by omega))
          · have cn' : c = .nil := Pg.len_zero (by rw [← lcs, cn]; rfl)
            refine ⟨.ref p, rfl, 1, rfl, p, _, _, _, rfl, rfl, z23 _ _ hp6, ix_last _ _, ?_⟩
            rw [set_last]
            exact fin _ _ z23 ⟨t3, _, rfl, upd_same, by rw [cn']; exact iNew⟩
          · have z4 := Ex.new (o := .tup (cs ++ [V.ref t2])) nt4
            refine ⟨.ref p, rfl, 1, rfl, p, _, _, _, rfl, rfl, z4 _ _ (z23 _ _ hp6), ix_last _ _, ?_⟩
            rw [set_last]
            exact fin _ _ (z23.trans z4) ⟨t4, _, rfl, upd_same, (hIc.kp (z23.trans z4).kp).app (iNew.kp z4.kp)⟩
        | sc s1 =>
          obtain ⟨b, r, rfl, m40, e⟩ := step_sc hs'
          cases e
          have tok : SOk (10 ^ 30) s1 := tok
          cases pus with
          | @cons vb _ ur _ ib pur =>
          rw [List.reverse_cons] at hus
          refine ⟨_, rfl, rfl, _, rfl, ?_⟩
          rw [decide_eq_false (show ¬ (V.str ∘ Tk.wd) (Tk.sc s1) = V.str (Str.ofString "(") from fun e => sc_ne_op tok (V.str.inj e))]
          refine iteF ⟨_, rfl, ⟨_, rfl⟩, scw s1, clW, rfl, rfl, false, congrArg V.bl (sc_starts tok), iteF ?_⟩
          refine ⟨_, rfl, s1, rfl, tok, fun t1 H4 nt1 e4 ht1 => ?_⟩
          have hus4 := e4 _ _ hus
          refine ⟨_, rfl, _, _, rfl, rfl, ?_⟩
          refine ⟨.ref t1, rfl, rfl, _, rfl, iteF ⟨_, rfl, _, _, rfl, rfl, _, rfl, ?_⟩⟩
          rw [decide_eq_false (show ¬ (m0 : Int) + 1 > 40 by omega)]
          refine iteF ?_
          have fin : ∀ v4 H7, Ex H4 H7 → IsPg H7 v4 (b.app (.sc s1 .nil)) → ∃ st m q4 q5 q6 q7 q8, [some (V.str (txt g)), some (.ref pw), some (.ref p), some (.int ((m0 : Int) + 1)), some (.int (i : Nat)), some (.str (scw s1)), y6, y7, some (.ref t1)] = [some (V.str (txt g)), some (.ref pw), some (.ref p), some (.int (m : Nat)), q4, q5, q6, q7, q8] ∧
              Ex H0 (upd H7 p (.lst (ur.reverse ++ [v4]))) ∧ run 6 40 (g.toks.take (i + 1)) ([.nil], 0) = some (st, m) ∧ Bod (upd H7 p (.lst (ur.reverse ++ [v4]))) p st ∧ Dp0 6 st ∧ lens st ≤ i + 1 ∧ (∀ x ∈ st, x.Ok (10 ^ 30)) ∧ scss st ≤ m := fun v4 H7 e7 i7 => by
            refine ⟨_, _, _, _, _, _, _, rfl, ((e23.trans e4).trans e7).mut npW, hrun', ⟨v4 :: ur, ?_, ?_⟩, hD', by omega, hOk', hSm'⟩
            · rw [upd_same, List.reverse_cons]
            · have k := Kp.lst (o := .lst (ur.reverse ++ [v4])) (e7 _ _ hus4)
              exact .cons (i7.kp k) (Pp.kp ((e4.trans e7).kp.trans k) pur)
          obtain ⟨tb, bs, rfl, htb, hIb⟩ := ib.mono e4
          refine ⟨.ref p, rfl, 1, rfl, p, _, -1, .ref tb, rfl, rfl, SqL.of hus4, atI_last _ _, .ref t1, rfl, by show 1 ≤ sizeLine; decide, fun t3 nt3 => ?_⟩
          have z3 := Ex.new (o := .tup [V.ref t1]) nt3
          have iNew : Its (upd H4 t3 (.tup [V.ref t1])) (.sc s1 .nil) [.ref t1] := ⟨.ref t1, [], rfl, ⟨t1, rfl, z3 _ _ ht1⟩, rfl⟩
          have lbs := hIb.len
          have hL1 : b.len + lens r ≤ i := hL
          refine ⟨tb, t3, bs, [.ref t1], rfl, rfl, SqT.of (z3 _ _ htb), SqT.of upd_same, ?_, fun cn => ?_, fun _ h => (by cases h), fun cn _ t4 nt4 => ?_⟩
          · rw [List.length_singleton]
            exact Nat.le_of_lt (small20 (by omega))
          · have cn' : b = .nil := Pg.len_zero (by rw [← lbs, cn]; rfl)
            refine ⟨.ref p, rfl, 1, rfl, p, _, _, _, rfl, rfl, z3 _ _ hus4, ix_last _ _, ?_⟩
            rw [set_last]
            exact fin _ _ z3 ⟨t3, _, rfl, upd_same, by rw [cn']; exact iNew⟩
          · have z4 := Ex.new (o := .tup (bs ++ [V.ref t1])) nt4
            refine ⟨.ref p, rfl, 1, rfl, p, _, _, _, rfl, rfl, z4 _ _ (z3 _ _ hus4), ix_last _ _, ?_⟩
            rw [set_last]
            exact fin _ _ (z3.trans z4) ⟨t4, _, rfl, upd_same, (hIb.kp (z3.trans z4).kp).app (iNew.kp z4.kp)⟩
      · obtain ⟨st, m0, y4, y5, y6, y7, y8, rfl, e2, hrun, hBod, hD, hL, hOk, hSm⟩ := z
        rw [show (g.wl.map V.str).length = g.toks.length by rw [List.length_map, wl_len], List.take_length, whole] at hrun
        cases hrun
        obtain ⟨us, hus, pus⟩ := hBod
        cases pus with
        | @cons vb _ us1 _ ib pus =>
        cases pus
        refine ⟨.ref p, rfl, p, _, rfl, .inl (SqL.of hus), _, _, rfl, rfl, _, rfl, ?_⟩
        rw [decide_eq_false (show ¬ (((([vb] : List V).reverse).length : Nat) : Int) > 1 from (by decide : ¬ ((1 : Nat) : Int) > 1))]
        exact iteF ⟨.ref p, rfl, p, _, 0, vb, rfl, rfl, SqL.of hus, rfl, q vb H2 (eW.trans e2) ib⟩
theorem ok_digits (B : Bt2 mg) (hCH : ∃ u, mg "CHUNK" = some u ∧ RelV (.int (10 ^ 64)) u) {f : Addr} {fd : FuncData} (F : Fun K "digits_of" "digits_of" sdigits_of f fd) : FnOk P w K mg base CX0 1 f fd ["number"] (spDigits 64) := by
  obtain ⟨uCHUNK, hCHUNK, rCHUNK⟩ := hCH
  refine F.ok scdigits_of (fun vs H Q E h => ?_) (fun cdv A outer s H vs Q E hr h => ?_)
  · obtain ⟨n, rfl, _⟩ := h
    rfl
  · obtain ⟨n, rfl, h0, h1, q⟩ := h
    refine ⟨_, (pss_cons (ps_set (i := 1) scdigits_of.nd rfl (by first | exact Or.inl rfl | exact Or.inr rfl) (pe_lst pa_nil))
      (pss_cons (ps_while PassesOwn.never (pt_cmpR op_ge (pv 0) (pe_glob (v := .int (10 ^ 64)) (by rfl) hCHUNK rCHUNK) (nomark _)) (pss_cons ps_never (pss_one ps_never)))
      (pss_cons (ps_expr (pe_bm PySem.F.plainAttrs_list PySem.F.slot_list_append PySem.F.type_list_append mt_append (pv 1) (pa_cons (pe_callTy call_str_int (by rfl) B.str bo_str (pa_cons (pv 0) pa_nil)) pa_nil)))
      (pss_one (ps_ret (pe_join pe_str (pe_revL (pv 1)))))))), ?_⟩
    refine ⟨Nat.zero_le _, fun p np => ?_⟩
    refine ⟨fun m σ H1 => m = 0 ∧ σ = [some (.int n), some (.ref p), none] ∧ H1 = upd H p (.lst []), ⟨0, rfl, rfl, rfl⟩, fun m σ H1 hW => ?_⟩
    obtain ⟨rfl, rfl, rfl⟩ := hW
    refine ⟨.int n, rfl, n, _, rfl, rfl, _, rfl, ?_⟩
    rw [decide_eq_false (show ¬ n ≥ 10 ^ 64 by omega)]
    refine iteF ?_
    refine ⟨.ref p, rfl, .inl ⟨rfl, _, .inl (.inl upd_same)⟩, .int n, rfl, n, rfl, log_nw h0 (Int.lt_of_lt_of_le h1 (by decide +kernel)), p, [], .str (nw n), rfl, rfl, upd_same, by decide, ?_⟩
    have e1 : Ex H (upd (upd H p (.lst [])) p (.lst ([] ++ [V.str (nw n)]))) := (Ex.new np).mut np
    refine ⟨⟨_, rfl⟩, .ref p, rfl, p, _, rfl, SqL.of upd_same, fun r nr => ⟨_, r, [nw n], rfl, rfl, .inl (SqL.of upd_same), ?_, ?_⟩⟩
    · have l := nw_len h0 (k := 64) (by decide) h1
      show (nw n).length + 0 + 1 * 0 ≤ 16777216
      omega
    · rw [join_eq]
      exact q.go (e1.add nr)
theorem ok_scw (B : Bt2 mg) (Ddigits_of : Df P w K mg base "digits_of" 1 ["number"] (spDigits 64)) {f : Addr} {fd : FuncData} (F : Fun K "scan_word" "scan_word" sscan_word f fd) : FnOk P w K mg base CX0 2 f fd ["scan"] (spScw 64) := by
  refine F.ok scscan_word (fun vs H Q E h => ?_) (fun cdv A outer s H vs Q E hr h => ?_)
  · obtain ⟨v, s, B, rfl, _⟩ := h
    rfl
  · obtain ⟨v, ⟨x, y⟩, B, rfl, ⟨t, rfl, ht⟩, ⟨x0, x1, y0, y1⟩, hB, q⟩ := h
    refine ⟨_, (pss_cons (ps_asg (pv 0) (pg_tup rfl (pgs_cons (pg_name (i := 1) scscan_word.nd rfl (by first | exact Or.inl rfl | exact Or.inr rfl)) (pgs_cons (pg_name (i := 2) scscan_word.nd rfl (by first | exact Or.inl rfl | exact Or.inr rfl)) pgs_nil))))
      (pss_one (ps_ret (pe_ifExp (pt_cmpR op_eq (pv 1) (pv 2) (nomark _)) (pe_df Ddigits_of hr (pa_cons (pv 1) pa_nil)) (pe_joined (PJ.cons (pe_fmt (pe_df Ddigits_of hr (pa_cons (pv 1) pa_nil))) (PJ.cons pe_str (PJ.cons (pe_fmt (pe_df Ddigits_of hr (pa_cons (pv 2) pa_nil))) PJ.nil)))))))), ?_⟩
    have x0 : 0 ≤ x := x0
    have x1 : x ≤ B := x1
    have y0 : 0 ≤ y := y0
    have y1 : y ≤ B := y1
    have lx := nw_len x0 (k := 64) (by decide) (by omega)
    have ly := nw_len y0 (k := 64) (by decide) (by omega)
    refine ⟨.ref t, rfl, t, _, rfl, SqT.of ht, rfl, _, _, rfl, _, _, rfl, rfl, ?_⟩
    refine ⟨.int x, rfl, .int y, rfl, rfl, _, rfl, ite2 (fun e => ?_) (fun e => ?_)⟩
    · have e' : x = y := by
        have z := of_decide_eq_true e
        cases z
        rfl
      refine ⟨.int x, rfl, x, rfl, x0, by omega, ?_⟩
      rw [show scw (x, y) = nw x from if_pos e'] at q
      exact q
    · have e' : ¬ x = y := fun z => e (decide_eq_true (by rw [z]))
      rw [show scw (x, y) = nw x ++ dash ++ nw y from if_neg e'] at q
      have ld : dash.length = 1 := by rw [len_tl, tl_dash]; rfl
      have l2 : ∀ a b : Str, (a ++ b).length = a.length + b.length := fun a b => by rw [len_tl, tl_append, List.length_append, ← len_tl, ← len_tl]
      refine ⟨.int x, rfl, x, rfl, x0, by omega, fun H1 e1 => .inl ⟨nw x, rfl, by rw [sizeLine_eq]; omega, nw x, rfl, ?_, ?_⟩⟩
      · rw [l2]
        show 0 + _ ≤ _
        rw [sizeLine_eq]
        omega
      refine ⟨dash, rfl, ?_, ?_⟩
      · rw [l2, l2]
        show 0 + _ + _ ≤ _
        rw [sizeLine_eq]
        omega
      refine ⟨.int y, rfl, y, rfl, y0, by omega, fun H2 e2 => .inl ⟨nw y, rfl, by rw [sizeLine_eq]; omega, nw y, rfl, ?_, ?_⟩⟩
      · rw [l2, l2, l2]
        show 0 + _ + _ + _ ≤ _
        rw [sizeLine_eq]
        omega
      rw [show Str.empty ++ nw x ++ dash ++ nw y = nw x ++ dash ++ nw y from by
        refine ext_tl ?_
        rw [tl_append, tl_append, tl_append, tl_append, tl_append]
        rfl]
      exact q.go (e1.trans e2)
theorem ok_words (B : Bt2 mg) (Dis_repeat : Df P w K mg base "is_repeat" 1 ["part"] spIsRep) (Ddigits_of : Df P w K mg base "digits_of" 1 ["number"] (spDigits 64)) (Dscan_word : Df P w K mg base "scan_word" 2 ["scan"] (spScw 64)) {f : Addr} {fd : FuncData} (F : Fun K "words_of" "words_of" swords_of f fd)
    (mk : ∀ {k : Nat} {sp : Sp}, FnOk P w K mg base CX0 k f fd ["parts"] sp → Df P w K mg base "words_of" k ["parts"] sp) : ∀ d : Nat, FnOk P w K mg base CX0 (d + 3) f fd ["parts"] (spWords 64 d)
  | 0 => ⟨fun vs H Q E h => by obtain ⟨v, g, B, rfl, _⟩ := h; rfl, fun A outer s H args us vs Q E _ _ _ _ h => by obtain ⟨v, g, B, rfl, _, h0, _⟩ := h; exact absurd h0 (Nat.not_lt_zero _)⟩
  | d + 1 => by
    have Dwords_of := mk (ok_words B Dis_repeat Ddigits_of Dscan_word F mk d)
    refine F.ok scwords_of (fun vs H Q E h => ?_) (fun cdv A outer s H vs Q E hr h => ?_)
    · obtain ⟨v, g, B, rfl, _⟩ := h
      rfl
    · obtain ⟨v, g, C, rfl, ⟨t, vs, rfl, ht, hI⟩, hd, hok, hC, few, q⟩ := h
      refine ⟨_, (pss_cons (ps_set (i := 1) scwords_of.nd rfl (by first | exact Or.inl rfl | exact Or.inr rfl) (pe_lst pa_nil))
      (pss_cons (ps_for PassesOwn.never rfl (pi_tup (pv 0)) (pg_name (i := 2) scwords_of.nd rfl (by first | exact Or.inl rfl | exact Or.inr rfl)) (pss_one (ps_if (pt_val (pe_df Dis_repeat hr (pa_cons (pv 2) pa_nil) (hk := by omega))) (pss_cons (ps_expr (pe_bm PySem.F.plainAttrs_list PySem.F.slot_list_append PySem.F.type_list_append mt_append (pv 1) (pa_cons pe_str pa_nil)))
      (pss_cons (ps_expr (pe_bm PySem.F.plainAttrs_list PySem.F.slot_list_extend PySem.F.type_list_extend mt_extend (pv 1) (pa_cons (pe_df Dwords_of hr (pa_cons (pe_ix ix_tup (pv 2) pe_int (fun _ _ => rfl)) pa_nil) (hk := by omega)) pa_nil)))
      (pss_one (ps_expr (pe_bm PySem.F.plainAttrs_list PySem.F.slot_list_append PySem.F.type_list_append mt_append (pv 1) (pa_cons (pe_joined (PJ.cons pe_str (PJ.cons (pe_fmt (pe_df Ddigits_of hr (pa_cons (pe_ix ix_tup (pv 2) pe_int (fun _ _ => rfl)) pa_nil) (hk := by omega))) PJ.nil))) pa_nil)))))) (pss_one (ps_expr (pe_bm PySem.F.plainAttrs_list PySem.F.slot_list_append PySem.F.type_list_append mt_append (pv 1) (pa_cons (pe_df Dscan_word hr (pa_cons (pv 2) pa_nil) (hk := by omega)) pa_nil)))))))
      (pss_one (ps_ret (pv 1))))), ?_⟩
      refine ⟨Nat.zero_le _, fun p np => ?_⟩
      have e0 := Ex.new (o := .lst ([] : List V)) np
      refine ⟨.ref t, rfl, t, rfl, ⟨_, SqT.of (e0 _ _ ht)⟩, for_tup (xs := vs) (fun i σ H1 => ∃ y a b, σ = [some (.ref t), some (.ref p), y] ∧ Ex H H1 ∧ g = Pg.app a b ∧ a.len = i ∧ H1 p = some (.lst (a.wl.map V.str))) ⟨none, .nil, g, rfl, e0, rfl, rfl, upd_same⟩ (fun i σ H1 _ z => ?_) (fun i v σ H1 hx z => ?_) (fun σ H1 z => ?_)⟩
      · obtain ⟨_, _, _, _, e1, _⟩ := z
        exact SqT.of (e1 _ _ ht)
      · obtain ⟨y, a, b, rfl, e1, eg, rfl, hp⟩ := z
        subst eg
        have hI1 := hI.kp e1.kp
        have lw : a.wl.length + b.toks.length ≤ 2 ^ 18 := by
          rw [toks_app, List.length_append] at few
          rw [wl_len]
          exact few
        rcases hI1.get hx with ⟨s1, r, rfl, i1⟩ | ⟨n, x, r, t1, u1, bs, rfl, rfl, h1, h2, h3⟩
        · have so : SOk C s1 := hok.mem s1 (by rw [Pg.scs_app]; exact List.mem_append_right _ List.mem_cons_self)
          refine ⟨v, rfl, v, rfl, .inl ⟨s1, i1, fun H2 e2 => ⟨false, rfl, iteF ?_⟩⟩⟩
          refine ⟨.ref p, rfl, .inl ⟨rfl, _, .inl (.inl (e2 _ _ hp))⟩, v, rfl, v, s1, C, rfl, i1.mono e2, so, hC, fun H3 e3 => ⟨p, _, .str (scw s1), rfl, rfl, e3 _ _ (e2 _ _ hp), ?_, ?_⟩⟩
          · rw [List.length_map]
            exact small20 (by omega)
          · refine ⟨_, a.app (.sc s1 .nil), r, rfl, ((e1.trans e2).trans e3).mut np, Pg.sc_app _ _ _, ?_, ?_⟩
            · rw [Pg.len_app]
              rfl
            · rw [upd_same, wl_app, List.map_append]
              rfl
        · have l2 : (Tk.op :: (x.toks ++ Tk.cl n :: r.toks)).length = x.toks.length + r.toks.length + 2 := by
            rw [List.length_cons, List.length_append, List.length_cons]
            omega
          have lw : a.wl.length + (Tk.op :: (x.toks ++ Tk.cl n :: r.toks)).length ≤ 2 ^ 18 := lw
          obtain ⟨n2, nC, _, okx, _⟩ : 2 ≤ n ∧ n ≤ C ∧ x ≠ .nil ∧ x.Ok C ∧ r.Ok C := by
            have go : ∀ a : Pg, (a.app (.rp n x r)).Ok C → (Pg.rp n x r).Ok C := by
              intro a
              induction a with
              | nil => exact id
              | sc s a ih => exact fun h => ih h.2
              | rp m y a _ ih => exact fun h => ih h.2.2.2.2
            exact go a hok
          have hdx : x.dep < d := by
            rw [Pg.dep_app] at hd
            have hd : max a.dep (max (x.dep + 1) r.dep) < d + 1 := hd
            omega
          refine ⟨_, rfl, _, rfl, .inr ⟨t1, n, u1, bs, rfl, h1, h2, fun H2 e2 => ⟨true, rfl, iteT ?_⟩⟩⟩
          have hp2 := e2 _ _ hp
          refine ⟨.ref p, rfl, .inl ⟨rfl, _, .inl (.inl hp2)⟩, p, _, .str opW, rfl, rfl, hp2, ?_, ?_⟩
          · rw [List.length_map]
            exact small20 (by omega)
          have e13 : Ex H (upd H2 p (.lst (a.wl.map V.str ++ [V.str opW]))) := (e1.trans e2).mut np
          have k3 : Kp H1 (upd H2 p (.lst (a.wl.map V.str ++ [V.str opW]))) := e2.kp.trans (Kp.lst hp2)
          refine ⟨.ref p, rfl, .inl ⟨rfl, _, .inl (.inl upd_same)⟩, .ref t1, rfl, t1, _, 1, _, rfl, rfl, SqT.of (k3 _ _ h1), rfl, .ref u1, x, C, rfl, ⟨u1, bs, rfl, k3 _ _ h2, h3.kp k3⟩, hdx, okx, hC, by omega, fun q1 H4 nq e4 hq => ⟨p, q1, _, _, rfl, rfl, e4 _ _ upd_same, hq, ?_, ?_⟩⟩
          · rw [List.length_append, List.length_map, List.length_map, wl_len x]
            exact Nat.le_of_lt (small20 (by rw [List.length_singleton]; omega))
          have e15 : Ex H (upd H4 p (.lst (a.wl.map V.str ++ [V.str opW] ++ x.wl.map V.str))) := (e13.trans e4).mut np
          have k5 : Kp H1 (upd H4 p (.lst (a.wl.map V.str ++ [V.str opW] ++ x.wl.map V.str))) := (k3.trans e4.kp).trans (Kp.lst (e4 _ _ upd_same))
          have ln := nw_len (show 0 ≤ n by omega) (k := 64) (by decide) (by omega)
          have lc : clW.length = 1 := by rw [len_tl, tl_cl]; rfl
          have l2' : ∀ a b : Str, (a ++ b).length = a.length + b.length := Str.length_append
          refine ⟨.ref p, rfl, .inl ⟨rfl, _, .inl (.inl upd_same)⟩, clW, rfl, ?_, .ref t1, rfl, t1, _, 0, _, rfl, rfl, SqT.of (k5 _ _ h1), rfl, n, rfl, by omega, by omega, fun H6 e6 => .inl ⟨nw n, rfl, ?_, nw n, rfl, ?_, p, _, .str (Str.empty ++ clW ++ nw n), rfl, rfl, e6 _ _ upd_same, ?_, ?_⟩⟩
          · rw [l2', lc]
            show 0 + 1 ≤ sizeLine
            decide
          · rw [sizeLine_eq]
            omega
          · rw [l2', l2', lc]
            show 0 + 1 + _ ≤ _
            rw [sizeLine_eq]
            omega
          · rw [List.length_append, List.length_append, List.length_map, List.length_map, wl_len x]
            exact small20 (by rw [List.length_singleton]; omega)
          · refine ⟨_, a.app (.rp n x .nil), r, rfl, (e15.trans e6).mut np, Pg.rp_app _ _ _ _, ?_, ?_⟩
            · rw [Pg.len_app]
              rfl
            · rw [upd_same, wl_app, wl_rp, Str.empty_append]
              simp [Pg.wl, Pg.toks]
      · obtain ⟨y, a, b, rfl, e1, rfl, hl, hp⟩ := z
        rw [hI.done hl, Pg.app_nil] at q
        exact ⟨_, rfl, q p H1 np e1 hp⟩
theorem ok_initPg {C : Addr} (T : Tpg K C) (Dread_text : Df P w K mg base "read_text" 4 ["text"] spRead) {f : Addr} {fd : FuncData} (F : Fun K "__init__" "Program.__init__" sProgram___init__ f fd) : FnOk P w K mg base CX0 5 f fd ["self", "text"] (spInitPg C) := by
  refine F.ok scProgram___init__ (fun vs H Q E h => ?_) (fun cdv A outer s H vs Q E hr h => ?_)
  · obtain ⟨x, dx, g, rfl, _⟩ := h
    rfl
  · obtain ⟨x, dx, g, rfl, hx, lim, q⟩ := h
    refine ⟨_, (pss_one (ps_fld (pv 0) (pe_df Dread_text hr (pa_cons (pv 1) pa_nil)) rfl)), ?_⟩
    refine ⟨_, rfl, g, rfl, lim, fun v H1 e1 i1 => ?_⟩
    have hx1 := e1 _ _ hx
    refine ⟨.ref x, rfl, x, C, dx, [], rfl, hx1, T.cl, T.nP, (by show 0 < 1000; decide), ?_⟩
    rw [pgF_put]
    have k : Kp H1 (upd H1 x (.ins C dx (pgF v))) := fun a xs e => by
      rw [upd_ne (ne_of e hx1 (by intro z; cases z))]
      exact e
    refine q _ (fun b o nb hb => ?_) ⟨dx, v, upd_same, i1.kp k⟩
    rw [upd_ne nb]
    exact e1 _ _ hb
theorem ok_textP {C : Addr} (T : Tpg K C) (Dwords_of : Df P w K mg base "words_of" 15 ["parts"] (spWords 64 12)) {f : Addr} {fd : FuncData} (F : Fun K "text" "Program.text" sProgram_text f fd) : FnOk P w K mg base CX0 16 f fd ["self"] (spTextP C) := by
  refine F.ok scProgram_text (fun vs H Q E h => ?_) (fun cdv A outer s H vs Q E hr h => ?_)
  · obtain ⟨x, g, rfl, _⟩ := h
    rfl
  · obtain ⟨x, g, rfl, ⟨dx, t, hx, hg⟩, med, q⟩ := h
    refine ⟨_, (pss_one (ps_ret (pe_join pe_str (pe_df Dwords_of hr (pa_cons (pe_fld (pv 0) rfl) pa_nil))))), ?_⟩
    refine ⟨⟨_, rfl⟩, .ref x, rfl, x, C, dx, _, _, rfl, hx, T.cl, T.nP, pgF_get _, t, g, _, rfl, hg, med.dep, med.ok, by decide +kernel, by have := med.few; omega, fun p H1 np e1 hp => ?_⟩
    exact ⟨_, p, g.wl, rfl, rfl, .inl (SqL.of hp), med.txt, q.go e1⟩
theorem ok_accP {C : Addr} (T : Tpg K C) (Dcount_accesses : Df P w K mg base "count_accesses" 14 ["parts"] (spCnt 12)) {f : Addr} {fd : FuncData} (F : Fun K "accesses" "Program.accesses" sProgram_accesses f fd) : FnOk P w K mg base CX0 15 f fd ["self"] (spAccPg C) := by
  refine F.ok scProgram_accesses (fun vs H Q E h => ?_) (fun cdv A outer s H vs Q E hr h => ?_)
  · obtain ⟨x, g, rfl, _⟩ := h
    rfl
  · obtain ⟨x, g, rfl, ⟨dx, t, hx, hg⟩, med, q⟩ := h
    refine ⟨_, (pss_one (ps_ret (pe_df Dcount_accesses hr (pa_cons (pe_fld (pv 0) rfl) pa_nil)))), ?_⟩
    exact ⟨.ref x, rfl, x, C, dx, _, _, rfl, hx, T.cl, T.nP, pgF_get _, t, g, _, rfl, hg, med.dep, by decide, ⟨by decide +kernel, by decide +kernel⟩, med.ok, by have := med.scs; omega, q⟩
theorem ok_eqPg {C : Addr} (B : Bt2 mg) (T : Tpg K C) (O : Pof K C) (hP : mg "Program" = some (.ref C)) {f : Addr} {fd : FuncData} (F : Fun K "__eq__" "Program.__eq__" sProgram___eq__ f fd) : FnOk P w K mg base CX0 1 f fd ["self", "other"] (spEqPg K C) := by
  refine F.ok scProgram___eq__ (fun vs H Q E h => ?_) (fun cdv A outer s H vs Q E hr h => ?_)
  · obtain ⟨x, g, y, rfl, _⟩ := h
    rfl
  · obtain ⟨x, g, y, rfl, ⟨dx, t, hx, hg⟩, dg, h⟩ := h
    refine ⟨_, (pss_one (ps_ret (pe_and (pe_callB call_isi (by rfl) B.isinstance bo_isinstance (pa_cons (pv 1) (pa_cons (pe_glob (v := .ref C) (by rfl) hP rfl) pa_nil))) (pe_one (pe_cmpR (op_eqD hr.units) (pe_fld (pv 0) rfl) (pe_fld (pv 1) rfl) (nomark _)))))), ?_⟩
    rcases h with ⟨z, h, rfl, ⟨dz, u, hz, hh⟩, dh, q⟩ | ⟨t, ty, ni, oth, q⟩
    · refine ⟨.ref z, rfl, .ref z, .ref C, _, _, true, rfl, .own C, .base (.ins hz O.cl O.ha O.hn O.htk O.hm), O.me, true, rfl, iteT ?_⟩
      refine ⟨.ref x, rfl, x, C, dx, _, _, rfl, hx, T.cl, T.nP, pgF_get _, .ref z, rfl, z, C, dz, _, _, rfl, hz, T.cl, T.nP, pgF_get _, pdP g, pdP h, hg.dp, hh.dp, shaped_Pg dg, shaped_Pg dh, ?_⟩
      rw [eqv_Pg]
      exact q.go (Ex.refl _)
    · exact ⟨y, rfl, y, .ref C, _, _, false, rfl, .own C, ty.tyx ni, oth.1, false, rfl, iteF (q.go (Ex.refl _))⟩
theorem ok_check_program {C : Addr} (B : Bt mg) (O : Pof K C) (hP : mg "Program" = some (.ref C)) {f : Addr} {fd : FuncData} (F : Fun K "check_program" "check_program" scheck_program f fd) : FnOk P w K mg base CX0 1 f fd ["program"] (spCheckProf C) := by
  refine F.ok sccheck_program (fun vs H Q E h => ?_) (fun cdv A outer s H vs Q E hr h => ?_)
  · obtain ⟨z, dz, fs, rfl, _⟩ := h
    rfl
  · obtain ⟨z, dz, fs, rfl, hz, q⟩ := h
    refine ⟨_, (pss_one (ps_if (pt_not (pt_val (pe_callB call_isi (by rfl) B.isinstance bo_isinstance (pa_cons (pv 0) (pa_cons (pe_glob (v := .ref C) (by rfl) hP rfl) pa_nil))))) (pss_one ps_never) pss_nil)), ?_⟩
    exact ⟨.ref z, rfl, .ref z, .ref C, _, _, true, rfl, .own C, .base (.ins hz O.cl O.ha O.hn O.htk O.hm), O.me, true, rfl, iteF (q.go (Ex.refl _))⟩
theorem ok_progOf {C : Addr} (T : Tpg K C) (DProgram : DMk P w K mg base "Program" C 5 ["self", "text"] (spInitPg C)) {f : Addr} {fd : FuncData} (F : Fun K "program_of" "program_of" sprogram_of f fd) : FnOk P w K mg base CX0 7 f fd ["parts"] (spProgOf C) := by
  refine F.ok scprogram_of (fun vs H Q E h => ?_) (fun cdv A outer s H vs Q E hr h => ?_)
  · obtain ⟨v, g, rfl, _⟩ := h
    rfl
  · obtain ⟨v, g, rfl, hg, q⟩ := h
    refine ⟨_, (pss_cons (ps_set (i := 1) scprogram_of.nd rfl (by first | exact Or.inl rfl | exact Or.inr rfl) (pe_mk DProgram hr (pa_cons pe_str pa_nil)))
      (pss_cons (ps_fld (pv 1) (pv 0) rfl)
      (pss_one (ps_ret (pv 1))))), ?_⟩
    refine fun x dx nx ndx ne => ⟨x, dx, .nil, congrArg (fun t => [V.ref x, V.str t]) txt_none, upd_same, lim_nil, fun H2 fr P2 => ⟨rfl, ?_⟩⟩
    have e2 := mk_ex nx ndx fr
    obtain ⟨d2, t2, hx2, _⟩ := P2
    refine ⟨v, rfl, .ref x, rfl, x, C, d2, pgF t2, rfl, hx2, T.cl, T.nP, (by show 1 < 1000; decide), ?_⟩
    have k : Kp H2 (upd H2 x (.ins C d2 (pgF v))) := fun a xs e => by
      rw [upd_ne (ne_of e hx2 (by intro z; cases z))]
      exact e
    exact ⟨_, rfl, q x _ nx (e2.mut nx) ⟨d2, v, upd_same, hg.kp (e2.kp.trans k)⟩⟩
theorem ok_addPg {C : Addr} (T : Tpg K C) (Dcheck_program : Df P w K mg base "check_program" 1 ["program"] (spCheckProf C)) (Dprogram_of : Df P w K mg base "program_of" 7 ["parts"] (spProgOf C)) {f : Addr} {fd : FuncData} (F : Fun K "__add__" "Program.__add__" sProgram___add__ f fd) : FnOk P w K mg base CX0 8 f fd ["self", "other"] (spAddPg C) := by
  refine F.ok scProgram___add__ (fun vs H Q E h => ?_) (fun cdv A outer s H vs Q E hr h => ?_)
  · obtain ⟨x, y, g, h, rfl, _⟩ := h
    rfl
  · obtain ⟨x, y, g, h, rfl, Px, Py, hl, q⟩ := h
    refine ⟨_, (pss_cons (ps_expr (pe_df Dcheck_program hr (pa_cons (pv 1) pa_nil)))
      (pss_one (ps_ret (pe_df Dprogram_of hr (pa_cons (pe_op op_catA (pe_fld (pv 0) rfl) (pe_fld (pv 1) rfl)) pa_nil))))), ?_⟩
    obtain ⟨dy, u, hy, y2, us, rfl, hu, iu⟩ := id Py
    refine ⟨.ref y, rfl, y, dy, _, rfl, hy, fun H1 e1 => ?_⟩
    obtain ⟨dx, t, hx, x2, ts, rfl, ht, it⟩ := Px.mono e1
    have lt := it.len
    have lu := iu.len
    have hu1 := e1 _ _ hu
    have iu1 := iu.kp e1.kp
    refine ⟨.ref x, rfl, x, C, dx, _, _, rfl, hx, T.cl, T.nP, pgF_get _, .ref y, rfl, y, C, dy, _, _, rfl, e1 _ _ hy, T.cl, T.nP, pgF_get _, x2, y2, ts, us, rfl, rfl, SqT.of ht, SqT.of hu1, Nat.le_of_lt (small20 (by omega)), fun e => ?_, fun _ e => ?_, fun _ _ p np => ?_⟩
    · subst e
      have : g = .nil := Pg.len_zero lt.symm
      subst this
      exact ⟨_, h, rfl, ⟨y2, us, rfl, hu1, iu1⟩, fun p H2 np e2 P2 => q p H2 (e1.back np) (e1.trans e2) P2⟩
    · subst e
      have : h = .nil := Pg.len_zero lu.symm
      subst this
      refine ⟨_, g, rfl, ⟨x2, ts, rfl, ht, it⟩, fun p H2 np e2 P2 => q p H2 (e1.back np) (e1.trans e2) ?_⟩
      rw [Pg.app_nil]
      exact P2
    · have z1 := Ex.new (o := .tup (ts ++ us)) np
      exact ⟨_, g.app h, rfl, ⟨p, _, rfl, upd_same, (it.kp z1.kp).app (iu1.kp z1.kp)⟩, fun p H2 np e2 P2 => q p H2 ((e1.trans z1).back np) ((e1.trans z1).trans e2) P2⟩
theorem ok_mulPg {C : Addr} (T : Tpg K C) (hGR : ∃ u, mg "GREATEST" = some u ∧ RelV (.int (10 ^ 30)) u) (Dcheck_between : Df P w K mg base "check_between" 2 ["number", "least", "greatest"] spCheckBet) (Drepeated : Df P w K mg base "repeated" 1 ["parts", "times"] spRepd) (Dprogram_of : Df P w K mg base "program_of" 7 ["parts"] (spProgOf C)) {f : Addr} {fd : FuncData} (F : Fun K "__mul__" "Program.__mul__" sProgram___mul__ f fd) : FnOk P w K mg base CX0 8 f fd ["self", "times"] (spMulPg C) := by
  obtain ⟨uG, hGREATEST, rGREATEST⟩ := hGR
  refine F.ok scProgram___mul__ (fun vs H Q E h => ?_) (fun cdv A outer s H vs Q E hr h => ?_)
  · obtain ⟨x, g, n, rfl, _⟩ := h
    rfl
  · obtain ⟨x, g, n, rfl, Px, n0, n1, q⟩ := h
    refine ⟨_, (pss_cons (ps_expr (pe_df Dcheck_between hr (pa_cons (pv 1) (pa_cons pe_int (pa_cons (pe_glob (v := .int (10 ^ 30)) (by rfl) hGREATEST rGREATEST) pa_nil)))))
      (pss_one (ps_ret (pe_df Dprogram_of hr (pa_cons (pe_df Drepeated hr (pa_cons (pe_fld (pv 0) rfl) (pa_cons (pv 1) pa_nil))) pa_nil))))), ?_⟩
    refine ⟨.int n, rfl, n, 0, 10 ^ 30, rfl, n0, n1, fun H1 e1 => ?_⟩
    obtain ⟨dx, t, hx, ht⟩ := Px.mono e1
    refine ⟨.ref x, rfl, x, C, dx, _, _, rfl, hx, T.cl, T.nP, pgF_get _, .int n, rfl, t, g, n, rfl, ht, fun v2 H2 e2 i2 => ?_⟩
    refine ⟨v2, g.rep n, rfl, i2, fun p H3 np e3 P3 => ?_⟩
    exact q p H3 ((e1.trans e2).back np) ((e1.trans e2).trans e3) P3
theorem ok_invPg {C : Addr} (T : Tpg K C) (Dbackwards : Df P w K mg base "backwards" 14 ["parts"] (spBack 12)) (Dprogram_of : Df P w K mg base "program_of" 7 ["parts"] (spProgOf C)) {f : Addr} {fd : FuncData} (F : Fun K "__invert__" "Program.__invert__" sProgram___invert__ f fd) : FnOk P w K mg base CX0 15 f fd ["self"] (spInvPg C) := by
  refine F.ok scProgram___invert__ (fun vs H Q E h => ?_) (fun cdv A outer s H vs Q E hr h => ?_)
  · obtain ⟨x, g, rfl, _⟩ := h
    rfl
  · obtain ⟨x, g, rfl, Px, hd, ht, q⟩ := h
    refine ⟨_, (pss_one (ps_ret (pe_df Dprogram_of hr (pa_cons (pe_df Dbackwards hr (pa_cons (pe_fld (pv 0) rfl) pa_nil)) pa_nil)))), ?_⟩
    obtain ⟨dx, t, hx, i0⟩ := Px
    refine ⟨.ref x, rfl, x, C, dx, _, _, rfl, hx, T.cl, T.nP, pgF_get _, t, g, rfl, i0, hd, ht, fun v2 H2 e2 i2 => ?_⟩
    exact ⟨.ref v2, g.back, rfl, i2, fun p H3 np e3 P3 => q p H3 (e2.back np) (e2.trans e3) P3⟩
theorem ok_readAll (B : Bt2 mg) (Dis_repeat : Df P w K mg base "is_repeat" 1 ["part"] spIsRep) (Dscan_length : Df P w K mg base "scan_length" 1 ["scan"] spScanLength) (Daddress_in : Df P w K mg base "address_in" 1 ["scan", "place"] spAddressIn) {f : Addr} {fd : FuncData} (F : Fun K "read_all" "read_all" sread_all f fd)
    (mk : ∀ {k : Nat} {sp : Sp}, FnOk P w K mg base CX0 k f fd ["parts"] sp → Df P w K mg base "read_all" k ["parts"] sp) : ∀ d : Nat, FnOk P w K mg base CX0 (d + 2) f fd ["parts"] (spReadAll d)
  | 0 => ⟨fun vs H Q E h => by obtain ⟨v, g, Bd, rfl, _⟩ := h; rfl, fun A outer s H args us vs Q E _ _ _ _ h => by obtain ⟨v, g, Bd, rfl, _, h0, _⟩ := h; omega⟩
  | d + 1 => by
    have Dread_all := mk (ok_readAll B Dis_repeat Dscan_length Daddress_in F mk d)
    refine F.ok scread_all (fun vs H Q E h => ?_) (fun cdv A outer s H vs Q E hr h => ?_)
    · obtain ⟨v, g, Bd, rfl, _⟩ := h
      rfl
    · obtain ⟨v, g, Bd, rfl, ⟨t, ws, rfl, ht, hg⟩, hd, hok, hc, q⟩ := h
      refine ⟨_, (pss_cons (ps_set (i := 1) scread_all.nd rfl (by first | exact Or.inl rfl | exact Or.inr rfl) (pe_lst pa_nil))
      (pss_cons (ps_for PassesOwn.never rfl (pi_tup (pv 0)) (pg_name (i := 2) scread_all.nd rfl (by first | exact Or.inl rfl | exact Or.inr rfl)) (pss_one (ps_if (pt_val (pe_df Dis_repeat hr (pa_cons (pv 2) pa_nil) (hk := by omega))) (pss_one (ps_expr (pe_bm PySem.F.plainAttrs_list PySem.F.slot_list_extend PySem.F.type_list_extend mt_extend (pv 1) (pa_cons (pe_op op_rep (pe_df Dread_all hr (pa_cons (pe_ix ix_tup (pv 2) pe_int (fun _ _ => rfl)) pa_nil) (hk := by omega)) (pe_ix ix_tup (pv 2) pe_int (fun _ _ => rfl))) pa_nil)))) (pss_one (ps_expr (pe_bm PySem.F.plainAttrs_list PySem.F.slot_list_extend PySem.F.type_list_extend mt_extend (pv 1) (pa_cons (pe_lc (own := [("place", 3)]) (g := (gName 3)) (te := (tCall _ [] E0 (tCons (tVar 2) (tCons (tVar 3) tNil)))) rfl scread_all.nd (pi_range1 (by rfl) B.range (pa_cons (pe_df Dscan_length hr (pa_cons (pv 2) pa_nil) (hk := by omega)) pa_nil)) (blkOk_by (N := ["parts", "found", "part", "place"]) (sc := defScope sread_all) (by decide +kernel)) (by exact fun _ _ _ _ _ => (pg_name (i := 3) scread_all.nd rfl (by first | exact Or.inl rfl | exact Or.inr rfl))) (by exact fun _ _ _ _ _ => pts_nil) (by exact fun _ _ _ _ _ => (pe_df Daddress_in hr (pa_cons (pv 2) (pa_cons (pv 3) pa_nil)) (hk := by omega)))) pa_nil)))))))
      (pss_one (ps_ret (pv 1))))), ?_⟩
      refine ⟨Nat.zero_le _, fun p np => ?_⟩
      have e0 := Ex.new (o := .lst ([] : List V)) np
      refine ⟨.ref t, rfl, t, rfl, ⟨_, SqT.of (e0 _ _ ht)⟩, for_tup (xs := ws) (fun i σ H1 => ∃ y x c, σ = [some (.ref t), some (.ref p), y, none] ∧ Ex H H1 ∧ g = Pg.app x c ∧ x.len = i ∧ H1 p = some (.lst (x.rd.map V.int))) ⟨none, .nil, g, rfl, e0, rfl, rfl, upd_same⟩ (fun i σ H1 _ z => ?_) (fun i v σ H1 hx z => ?_) (fun σ H1 z => ?_)⟩
      · obtain ⟨_, _, _, _, e1, _⟩ := z
        exact SqT.of (e1 _ _ ht)
      · obtain ⟨y, x, c, rfl, e1, eg, rfl, hp⟩ := z
        subst eg
        obtain ⟨okx, okc⟩ := app_ok hok
        rw [Pg.cnt_app] at hc
        have lx := prd_len okx
        have cx0 := Pg.cnt_nn okx
        rcases (hg.kp e1.kp).get hx with ⟨s1, r, rfl, i1⟩ | ⟨n, b, r, t1, u1, bs, rfl, rfl, h1, h2, h3⟩
        · have hc : x.cnt + (slen s1 + r.cnt) ≤ 2 ^ 20 := hc
          have r0 := Pg.cnt_nn okc.2
          have sp := slen_pos s1
          have lS := rdS_len s1
          refine ⟨v, rfl, v, rfl, .inl ⟨s1, i1, fun H2 e2 => ⟨false, rfl, iteF ?_⟩⟩⟩
          refine ⟨.ref p, rfl, .inl ⟨rfl, _, .inl (.inl (e2 _ _ hp))⟩, v, rfl, v, s1, rfl, i1.mono e2, fun H3 e3 => ⟨slen s1, rfl, by omega, by omega, fun D hD => ?_⟩⟩
          refine lc_range (lo := 0) (n := (slen s1).toNat) (fun i H4 => Ex H3 H4 ∧ H4 D = some (.lst (((List.range i).map fun (j : Nat) => adr s1 (j : Int)).map V.int))) ⟨Ex.new hD, upd_same⟩ (fun i H4 hi w => ?_) (fun H4 w => ?_)
          · obtain ⟨e4, hL⟩ := w
            refine ⟨rfl, v, rfl, _, rfl, v, s1, _, rfl, (i1.mono e2).mono (e3.trans e4), fun H5 e5 => ⟨_, e5 _ _ hL, by rw [List.length_map, List.length_map, List.length_range]; exact small20 (by omega), (e4.trans e5).mut hD, ?_⟩⟩
            rw [upd_same, List.range_succ, List.map_append, List.map_append]
            show some (HO.lst (_ ++ [_])) = some (HO.lst (_ ++ [V.int (adr s1 (i : Int))]))
            unfold adr
            rw [Int.zero_add]
          obtain ⟨e4, hL⟩ := w
          have e24 := (e2.trans e3).trans e4
          refine ⟨p, D, x.rd.map V.int, _, rfl, rfl, e24 _ _ hp, hL, ?_, ?_⟩
          · rw [List.length_map, List.length_map, List.length_map, List.length_range, sizeLine_eq]
            omega
          refine ⟨some v, x.app (.sc s1 .nil), r, rfl, (e1.trans e24).mut np, Pg.sc_app _ _ _, by rw [Pg.len_app]; rfl, ?_⟩
          rw [upd_same, rd_app, List.map_append]
          show _ = some (HO.lst (_ ++ (rdS s1 ++ []).map V.int))
          rw [List.append_nil]
          rfl
        · have hc : x.cnt + (n * b.cnt + r.cnt) ≤ 2 ^ 20 := hc
          obtain ⟨n2, nB, bn, okb, okr⟩ := okc
          have r0 := Pg.cnt_nn okr
          have b1 := cnt_pos okb bn
          have hd1 := Pg.mid_dep x b r n
          have nk := mul_small (n := n) (c := b.cnt) (k := 2 ^ 20) (by omega) b1 (by omega)
          have bk := mul_small (n := b.cnt) (c := n) (k := 2 ^ 20) (by omega) (by omega) (by rw [Int.mul_comm]; omega)
          have lb := prd_len okb
          have nb0 : 0 ≤ n * b.cnt := Int.mul_nonneg (by omega) (by omega)
          refine ⟨_, rfl, _, rfl, .inr ⟨t1, n, u1, bs, rfl, h1, h2, fun H2 e2 => ⟨true, rfl, iteT ?_⟩⟩⟩
          have h12 := e2 _ _ h1
          refine ⟨.ref p, rfl, .inl ⟨rfl, _, .inl (.inl (e2 _ _ hp))⟩, _, rfl, t1, _, 1, _, rfl, rfl, SqT.of h12, rfl, .ref u1, b, Bd, rfl, ⟨u1, bs, rfl, e2 _ _ h2, h3.kp e2.kp⟩, by omega, okb, bk, fun p2 H3 np2 e3 hp2 => ?_⟩
          have fl : (b.rd.map V.int).length * n.toNat ≤ 2 ^ 20 := by
            rw [List.length_map]
            have : ((b.rd.length * n.toNat : Nat) : Int) = b.cnt * n := by
              rw [Int.natCast_mul, lb]
              congr 1
              omega
            rw [Int.mul_comm] at this
            omega
          refine ⟨_, rfl, t1, _, 0, _, rfl, rfl, SqT.of (e3 _ _ h12), rfl, p2, n, _, rfl, rfl, hp2, by omega, by omega, by rw [sizeLine_eq]; omega, fun p3 np3 => ?_⟩
          have z3 := (e2.trans e3).trans (Ex.new (o := .lst (List.replicate n.toNat (b.rd.map V.int)).flatten) np3)
          have em : (List.replicate n.toNat (b.rd.map V.int)).flatten = ((List.replicate n.toNat b.rd).flatten).map V.int := by
            rw [List.map_flatten, List.map_replicate]
          refine ⟨p, p3, x.rd.map V.int, _, rfl, rfl, z3 _ _ hp, upd_same, ?_, ?_⟩
          · rw [em, List.length_map, List.length_map, flat_len, sizeLine_eq]
            rw [List.length_map, Nat.mul_comm] at fl
            omega
          refine ⟨some (.ref t1), x.app (.rp n b .nil), r, rfl, (e1.trans z3).mut np, Pg.rp_app _ _ _ _, by rw [Pg.len_app]; rfl, ?_⟩
          rw [upd_same, rd_app, List.map_append, em]
          show _ = some (HO.lst (_ ++ ((List.replicate n.toNat b.rd).flatten ++ []).map V.int))
          rw [List.append_nil]
      · obtain ⟨y, x, c, rfl, e1, rfl, hl, hp⟩ := z
        rw [hg.done hl, Pg.app_nil] at q
        exact ⟨_, rfl, q p H1 np e1 hp⟩
theorem ok_written {C : Addr} (T : Tpg K C) (hMW : ∃ u, mg "MOST_WRITTEN" = some u ∧ RelV (.int 10000) u) (Dcheck_program : Df P w K mg base "check_program" 1 ["program"] (spCheckProf C)) (Dp_accesses : DPr P w K mg base C "accesses" 15 (spAccPg C)) (Dread_all : Df P w K mg base "read_all" 14 ["parts"] (spReadAll 12)) {f : Addr} {fd : FuncData} (F : Fun K "written" "written" swritten f fd) : FnOk P w K mg base CX0 17 f fd ["program"] (spWritten C) := by
  obtain ⟨uMW, hMOST_WRITTEN, rMOST_WRITTEN⟩ := hMW
  refine F.ok scwritten (fun vs H Q E h => ?_) (fun cdv A outer s H vs Q E hr h => ?_)
  · obtain ⟨x, g, rfl, _⟩ := h
    rfl
  · obtain ⟨x, g, rfl, Px, med, hc, q⟩ := h
    refine ⟨_, (pss_cons (ps_expr (pe_df Dcheck_program hr (pa_cons (pv 0) pa_nil)))
      (pss_cons (ps_if (pt_cmpR op_gt (pe_pr Dp_accesses hr (pv 0)) (pe_glob (v := .int (10000)) (by rfl) hMOST_WRITTEN rMOST_WRITTEN) (nomark _)) (pss_one ps_never) pss_nil)
      (pss_one (ps_ret (pe_df Dread_all hr (pa_cons (pe_fld (pv 0) rfl) pa_nil)))))), ?_⟩
    obtain ⟨d0, t0, hx0, _⟩ := id Px
    refine ⟨.ref x, rfl, x, d0, _, rfl, hx0, fun H1 e1 => ?_⟩
    obtain ⟨d1, t1, hx1, _⟩ := Px.mono e1
    refine ⟨.ref x, rfl, x, d1, _, rfl, hx1, x, g, rfl, Px.mono e1, med, fun H2 e2 => ⟨_, _, rfl, rfl, _, rfl, ?_⟩⟩
    rw [decide_eq_false (show ¬ 10000 < g.cnt by omega)]
    have e12 := e1.trans e2
    obtain ⟨d2, t2, hx2, i2⟩ := Px.mono e12
    exact iteF ⟨.ref x, rfl, x, C, d2, _, _, rfl, hx2, T.cl, T.nP, pgF_get _, t2, g, 10 ^ 63, rfl, i2, med.dep, med.ok, by omega, fun p H3 np e3 hp => q p H3 (e12.back np) (e12.trans e3) hp⟩
end
end Kb

namespace Kb
open PySem PySem.Spec PyProof.Rows L2 TL
/-! ### the three things of a summary as data -/
theorem lay_S (ss : List Sc) : PyData.canLayAll0 (ss.map pdS) = true := by
  induction ss with
  | nil => rfl
  | cons s r ih =>
    show (PyData.canLay0 (pdS s) && PyData.canLayAll0 (r.map pdS)) = true
    rw [ih]
    rfl
theorem depth_S (ss : List Sc) : PyData.depthAll (ss.map pdS) ≤ 1 := by
  induction ss with
  | nil => exact Nat.zero_le _
  | cons s r ih =>
    show max (PyData.depth (pdS s)) (PyData.depthAll (r.map pdS)) ≤ 1
    have : PyData.depth (pdS s) = 1 := rfl
    omega
def pd3T (X Y : List Sc) (rs : List Pc) : PyData := .tuple [pdL X, pdL Y, pdPs rs]
theorem shaped_3T (X Y : List Sc) (rs : List Pc) : SeqAt.shaped (pd3T X Y rs) = true := by
  show ((PyData.canLayAll0 (X.map pdS) && (PyData.canLayAll0 (Y.map pdS) && (PyData.canLayAll0 (rs.map pdPc) && true))) && decide (max (PyData.depthAll (X.map pdS) + 1) (max (PyData.depthAll (Y.map pdS) + 1) (max (PyData.depthAll (rs.map pdPc) + 1) 0)) + 1 ≤ 64)) = true
  have := depth_S X
  have := depth_S Y
  have := depth_P rs
  rw [lay_S, lay_S, lay_P, decide_eq_true (by omega)]
  rfl
theorem eqv_3T (X Y X' Y' : List Sc) (rs rs' : List Pc) : PyData.eqv (pd3T X Y rs) (pd3T X' Y' rs') = decide (X = X' ∧ Y = Y' ∧ rs = rs') := by
  show (PyData.eqv (pdL X) (pdL X') && (PyData.eqv (pdL Y) (pdL Y') && (PyData.eqv (pdPs rs) (pdPs rs') && true))) = _
  rw [eqv_L, eqv_L, eqv_P, Bool.eq_iff_iff]
  simp
theorem shaped_LF (X Y : List Sc) : SeqAt.shaped (pdLF X Y) = true := by
  show ((PyData.canLayAll0 (X.map pdS) && (PyData.canLayAll0 (Y.map pdS) && true)) && decide (max (PyData.depthAll (X.map pdS) + 1) (max (PyData.depthAll (Y.map pdS) + 1) 0) + 1 ≤ 64)) = true
  have := depth_S X
  have := depth_S Y
  rw [lay_S, lay_S, decide_eq_true (by omega)]
  rfl
theorem eqv_LF (X Y X' Y' : List Sc) : PyData.eqv (pdLF X Y) (pdLF X' Y') = decide (X = X' ∧ Y = Y') := by
  show (PyData.eqv (pdL X) (pdL X') && (PyData.eqv (pdL Y) (pdL Y') && true)) = _
  rw [eqv_L, eqv_L, Bool.eq_iff_iff]
  simp
/-! ### the summary of what a program reads -/
structure IsSm (C D : Addr) (H : Hp) (x : Addr) (X : List Int) : Prop where
  ex : ∃ rs, SmAt C D H x (tdy (lstR X)) (tdy (lstF X)) ((lstR X).length : Int) rs ∧ Can rs ∧ Bd rs ∧ rs.length ≤ 400000 ∧ Sz 190 rs ∧ ∀ d, atP rs d = DH X d
  fs : Fs 80 (10 ^ 32) X
theorem IsSm.mono {C D : Addr} {H H' : Hp} (e : Ex H H') {x : Addr} {X : List Int} (h : IsSm C D H x X) : IsSm C D H' x X := by
  obtain ⟨⟨rs, h1, h2⟩, f⟩ := h
  exact ⟨⟨rs, h1.mono e, h2⟩, f⟩
/-- the list of three lists that a summary has -/
def Is3 (H : Hp) (v : V) (X Y : List Sc) (rs : List Pc) : Prop := ∃ t f l c, v = .ref t ∧ H t = some (.tup [.ref f, .ref l, .ref c]) ∧ Scs H f X ∧ Scs H l Y ∧ Pcs H c rs
theorem Is3.mono {H H' : Hp} (e : Ex H H') {v : V} {X Y : List Sc} {rs : List Pc} (h : Is3 H v X Y rs) : Is3 H' v X Y rs := by
  obtain ⟨t, f, l, c, e1, h1, h2, h3, h4⟩ := h
  exact ⟨t, f, l, c, e1, e _ _ h1, h2.mono e, h3.mono e, h4.mono e⟩
theorem Is3.dp {K : PySem.W.Frag} {H : Hp} {v : V} {X Y : List Sc} {rs : List Pc} (h : Is3 H v X Y rs) : Dp K H v (pd3T X Y rs) := by
  obtain ⟨t, f, l, c, rfl, h1, h2, h3, h4⟩ := h
  exact .tup (SqT.of h1) (.cons h2.dp (.cons h3.dp (.cons h4.dp .nil)))
theorem frX {C dx x : Addr} {H H' : Hp} (hx : H x = some (.ins C dx [])) (fr : ∀ e o, e ≠ x → H e = some o → H' e = some o) {b : Addr} {o : HO} (no : o ≠ .ins C dx []) (hb : H b = some o) : H' b = some o :=
  fr b o (fun e => by
    subst e
    rw [hx] at hb
    cases hb
    exact no rfl) hb
theorem Scs.fr {C dx x : Addr} {H H' : Hp} (hx : H x = some (.ins C dx [])) (fr : ∀ e o, e ≠ x → H e = some o → H' e = some o) {a : Addr} {X : List Sc} (h : Scs H a X) : Scs H' a X := by
  obtain ⟨vs, ha, pv⟩ := h
  refine ⟨vs, frX hx fr (by intro z; cases z) ha, Pr.imp (fun v p r => ?_) pv⟩
  obtain ⟨t, e, ht⟩ := r
  exact ⟨t, e, frX hx fr (by intro z; cases z) ht⟩
theorem PfAt.fr {C D dx x : Addr} {H H' : Hp} (hx : H x = some (.ins C dx [])) (fr : ∀ e o, e ≠ x → H e = some o → H' e = some o) {q : Addr} {c : Int} {rs : List Pc} (h : PfAt D H q c rs) : PfAt D H' q c rs := by
  obtain ⟨dq, l, h1, vs, ha, pv⟩ := h
  refine ⟨dq, l, frX hx fr (by intro z; cases z) h1, vs, frX hx fr (by intro z; cases z) ha, Pr.imp (fun v p r => ?_) pv⟩
  obtain ⟨t, e, ht⟩ := r
  exact ⟨t, e, frX hx fr (by intro z; cases z) ht⟩
theorem tdy_good' {xs : List Int} (h : xs.Nodup) (n : ∀ z ∈ xs, 0 ≤ z) (l : (tdy xs).length ≤ 1000) : Good (tdy xs) := by
  refine ⟨fun s hs => ?_, tdy_apart h, l⟩
  have m : ∀ z, lo s ≤ z → z ≤ hi s → 0 ≤ z := fun z h1 h2 => n z (by rw [← rdL_tdy h]; exact mem_rdL.mpr ⟨s, hs, h1, h2⟩)
  have a := m (lo s) (Int.le_refl _) (lo_hi s)
  have b := sc_cases s
  unfold Nn
  omega
/-! ### promises -/
def spInitSm (C D : Addr) : Sp := fun vs H Q _ => ∃ (x dx a b q : Addr) (X Y : List Sc) (c : Int) (rs : List Pc), vs = [.ref x, .ref a, .ref b, .ref q] ∧ H x = some (.ins C dx []) ∧ Scs H a X ∧ Scs H b Y ∧ PfAt D H q c rs ∧
  ∀ H', (∀ e o, e ≠ x → H e = some o → H' e = some o) → SmAt C D H' x X Y c rs → Q .non H'
def spFirstsP (C D : Addr) : Sp := fun vs H Q _ => ∃ (x : Addr) (X Y : List Sc) (c : Int) (rs : List Pc), vs = [.ref x] ∧ SmAt C D H x X Y c rs ∧ ∀ p H', H p = none → Ex H H' → Scs H' p X → Q (.ref p) H'
def spLastsP (C D : Addr) : Sp := fun vs H Q _ => ∃ (x : Addr) (X Y : List Sc) (c : Int) (rs : List Pc), vs = [.ref x] ∧ SmAt C D H x X Y c rs ∧ ∀ p H', H p = none → Ex H H' → Scs H' p Y → Q (.ref p) H'
def spThreeFrom (C D : Addr) : Sp := fun vs H Q _ => ∃ (x : Addr) (X Y : List Sc) (c : Int) (rs : List Pc), vs = [.ref x] ∧ SmAt C D H x X Y c rs ∧ Can rs ∧ Bd rs ∧ rs.length ≤ 400000 ∧ ∀ v H', Ex H H' → Is3 H' v X Y rs → Q v H'
def spSumFrom (C D : Addr) : Sp := fun vs H Q _ => ∃ (v : V) (X : List Int) (ps : List Pc), vs = [v] ∧ IsTr H v X ps ∧ Tp (10 ^ 32) X ps ∧ Fs 80 (10 ^ 32) X ∧ ps.length ≤ 100000 ∧ (X.length : Int) ≤ 10 ^ 190 ∧ (∀ z ∈ X, 0 ≤ z) ∧ ∀ x H', H x = none → Ex H H' → IsSm C D H' x X → Q (.ref x) H'
def spSumOf (Cp C D : Addr) : Sp := fun vs H Q _ => ∃ (x : Addr) (g : Pg), vs = [.ref x] ∧ PgAt Cp H x g ∧ Lim g ∧ ∀ y H', H y = none → Ex H H' → IsSm C D H' y g.rd → Q (.ref y) H'
def spEqSm (K : PySem.W.Frag) (C D : Addr) : Sp := fun vs H Q _ => ∃ (x y : Addr) (X Y : List Int), vs = [.ref x, .ref y] ∧ IsSm C D H x X ∧ IsSm C D H y Y ∧ ∀ b : Bool, (X = Y → b = true) → RetV (.bl b) H Q
end Kb

namespace Kb
open PySem PySem.Spec PyProof.Rows L2 StX TL
abbrev sSummary___init__ : Stmt := inClass (topS 77) 0
theorem scSummary___init__ : FnScope ["self", "firsts", "lasts", "profile"] ["self", "firsts", "lasts", "profile"] (defScope sSummary___init__) := ⟨rfl, rfl, rfl, by decide +kernel, rfl, by decide +kernel, by decide +kernel⟩
abbrev sSummary_firsts : Stmt := inClass (topS 77) 1
theorem scSummary_firsts : FnScope ["self"] ["self"] (defScope sSummary_firsts) := ⟨rfl, rfl, rfl, by decide +kernel, rfl, by decide +kernel, by decide +kernel⟩
abbrev sSummary_lasts : Stmt := inClass (topS 77) 2
theorem scSummary_lasts : FnScope ["self"] ["self"] (defScope sSummary_lasts) := ⟨rfl, rfl, rfl, by decide +kernel, rfl, by decide +kernel, by decide +kernel⟩
abbrev sSummary___eq__ : Stmt := inClass (topS 77) 6
theorem scSummary___eq__ : FnScope ["self", "other"] ["self", "other"] (defScope sSummary___eq__) := ⟨rfl, rfl, rfl, by decide +kernel, rfl, by decide +kernel, by decide +kernel⟩
abbrev ssummary_of : Stmt := topS 78
theorem scsummary_of : FnScope ["program"] ["program"] (defScope ssummary_of) := ⟨rfl, rfl, rfl, by decide +kernel, rfl, by decide +kernel, by decide +kernel⟩
abbrev sthree_from : Stmt := topS 80
theorem scthree_from : FnScope ["summary"] ["summary"] (defScope sthree_from) := ⟨rfl, rfl, rfl, by decide +kernel, rfl, by decide +kernel, by decide +kernel⟩
abbrev ssummary_from : Stmt := topS 81
theorem scsummary_from : FnScope ["three", "firsts", "lasts", "pieces"] ["three"] (defScope ssummary_from) := ⟨rfl, rfl, rfl, by decide +kernel, rfl, by decide +kernel, by decide +kernel⟩
section
variable {P : Program} {w : World} {K : PySem.W.Frag} {mg : Str → Option Value} {base : Heap}
theorem ok_initSm {C D : Addr} (B : Bt mg) (T : Smx K C) (Tp' : Ptx K D) {f : Addr} {fd : FuncData} (F : Fun K "__init__" "Summary.__init__" sSummary___init__ f fd) :
    FnOk P w K mg base CX0 1 f fd ["self", "firsts", "lasts", "profile"] (spInitSm C D) := by
  refine F.ok scSummary___init__ (fun vs H Q E h => ?_) (fun cdv A outer s H vs Q E hr h => ?_)
  · obtain ⟨x, dx, a, b, q, X, Y, c, rs, rfl, _⟩ := h
    rfl
  · obtain ⟨x, dx, a, b, q, X, Y, c, rs, rfl, hx, ha, hb, hq, k⟩ := h
    refine ⟨_, (pss_cons (ps_fld (pv 0) (pe_callTy call_list_of (by rfl) B.list bo_list (pa_cons (pv 1) pa_nil)) rfl)
      (pss_cons (ps_fld (pv 0) (pe_callTy call_list_of (by rfl) B.list bo_list (pa_cons (pv 2) pa_nil)) rfl)
      (pss_one (ps_fld (pv 0) (pv 3) rfl)))), ?_⟩
    obtain ⟨us, ha1, pa⟩ := id ha
    obtain ⟨ws, hb1, pb⟩ := id hb
    refine ⟨.ref a, rfl, a, us, rfl, .inl (SqL.of ha1), fun p1 np1 => ?_⟩
    have e1 := Ex.new (o := .lst us) np1
    have hx1 := e1 _ _ hx
    have f1 : ∀ e o, e ≠ x → H e = some o → upd (upd H p1 (.lst us)) x (.ins C dx (putF "_firsts" (.ref p1) [])) e = some o := fun e o ne he => (upd_ne ne).trans (e1 _ _ he)
    have nx1 : p1 ≠ x := fun z => by
      rw [z, hx] at np1
      cases np1
    refine ⟨.ref x, rfl, x, C, dx, [], rfl, hx1, T.cl, T.nF, (by show 0 < 1000; decide), ?_⟩
    have s1 : Scs (upd (upd H p1 (.lst us)) x (.ins C dx (putF "_firsts" (.ref p1) []))) p1 X := by
      obtain ⟨us', ha', pa'⟩ := ha.fr hx f1
      have : us' = us := by
        rw [f1 a _ (ne_of ha1 hx (by intro z; cases z)) ha1] at ha'
        cases ha'
        rfl
      subst this
      exact ⟨_, (upd_ne nx1).trans upd_same, pa'⟩
    have hx2 : (upd (upd H p1 (.lst us)) x (.ins C dx (putF "_firsts" (.ref p1) []))) x = some (.ins C dx (putF "_firsts" (.ref p1) [])) := upd_same
    generalize upd (upd H p1 (.lst us)) x (.ins C dx (putF "_firsts" (.ref p1) [])) = H2 at f1 s1 hx2 ⊢
    obtain ⟨ws', hb2, pb2⟩ := hb.fr hx f1
    refine ⟨.ref b, rfl, b, ws', rfl, .inl (SqL.of hb2), fun p2 np2 => ?_⟩
    have e2 := Ex.new (o := .lst ws') np2
    have hx3 := e2 _ _ hx2
    have nx2 : p2 ≠ x := fun z => by
      rw [z, hx2] at np2
      cases np2
    refine ⟨.ref x, rfl, x, C, dx, _, rfl, hx3, T.cl, T.nL, (by show 1 < 1000; decide), ?_⟩
    have g3 : ∀ e o, e ≠ x → H2 e = some o → upd (upd H2 p2 (.lst ws')) x (.ins C dx (putF "_lasts" (.ref p2) (putF "_firsts" (.ref p1) []))) e = some o := fun e o ne he => (upd_ne ne).trans (e2 _ _ he)
    have gS : ∀ {p : Addr} {Z : List Sc}, Scs H2 p Z → Scs (upd (upd H2 p2 (.lst ws')) x (.ins C dx (putF "_lasts" (.ref p2) (putF "_firsts" (.ref p1) [])))) p Z := fun {p Z} h => by
      obtain ⟨vs, hv, pv⟩ := h
      refine ⟨vs, g3 _ _ (ne_of hv hx2 (by intro z; cases z)) hv, Pr.imp (fun v s r => ?_) pv⟩
      obtain ⟨t, e, ht⟩ := r
      exact ⟨t, e, g3 _ _ (ne_of ht hx2 (by intro z; cases z)) ht⟩
    have s1' := gS s1
    have s2 : Scs (upd (upd H2 p2 (.lst ws')) x (.ins C dx (putF "_lasts" (.ref p2) (putF "_firsts" (.ref p1) [])))) p2 Y := by
      obtain ⟨vs, hv, pv⟩ := gS ⟨ws', hb2, pb2⟩
      have : vs = ws' := by
        rw [g3 b _ (ne_of hb2 hx2 (by intro z; cases z)) hb2] at hv
        cases hv
        rfl
      subst this
      exact ⟨_, (upd_ne nx2).trans upd_same, pv⟩
    have hx4 : (upd (upd H2 p2 (.lst ws')) x (.ins C dx (putF "_lasts" (.ref p2) (putF "_firsts" (.ref p1) [])))) x = some (.ins C dx (putF "_lasts" (.ref p2) (putF "_firsts" (.ref p1) []))) := upd_same
    have f4 : ∀ e o, e ≠ x → H e = some o → (upd (upd H2 p2 (.lst ws')) x (.ins C dx (putF "_lasts" (.ref p2) (putF "_firsts" (.ref p1) [])))) e = some o := fun e o ne he => g3 e o ne (f1 e o ne he)
    generalize upd (upd H2 p2 (.lst ws')) x (.ins C dx (putF "_lasts" (.ref p2) (putF "_firsts" (.ref p1) []))) = H4 at s1' s2 hx4 f4 ⊢
    refine ⟨.ref q, rfl, .ref x, rfl, x, C, dx, _, rfl, hx4, T.cl, T.nP, (by show 2 < 1000; decide), ?_⟩
    have g5 : ∀ e o, e ≠ x → H4 e = some o → upd H4 x (.ins C dx (smF (.ref p1) (.ref p2) (.ref q))) e = some o := fun e o ne he => (upd_ne ne).trans he
    have gS5 : ∀ {p : Addr} {Z : List Sc}, Scs H4 p Z → Scs (upd H4 x (.ins C dx (smF (.ref p1) (.ref p2) (.ref q)))) p Z := fun {p Z} h => by
      obtain ⟨vs, hv, pv⟩ := h
      refine ⟨vs, g5 _ _ (ne_of hv hx4 (by intro z; cases z)) hv, Pr.imp (fun v s r => ?_) pv⟩
      obtain ⟨t, e, ht⟩ := r
      exact ⟨t, e, g5 _ _ (ne_of ht hx4 (by intro z; cases z)) ht⟩
    have f5 : ∀ e o, e ≠ x → H e = some o → upd H4 x (.ins C dx (smF (.ref p1) (.ref p2) (.ref q))) e = some o := fun e o ne he => g5 e o ne (f4 e o ne he)
    exact k _ f5 ⟨dx, p1, p2, q, upd_same, gS5 s1', gS5 s2, hq.fr hx f5⟩
theorem ok_firstsSm {C D : Addr} (B : Bt mg) (T : Smx K C) (Tp' : Ptx K D) {f : Addr} {fd : FuncData} (F : Fun K "firsts" "Summary.firsts" sSummary_firsts f fd) : FnOk P w K mg base CX0 1 f fd ["self"] (spFirstsP C D) := by
  refine F.ok scSummary_firsts (fun vs H Q E h => ?_) (fun cdv A outer s H vs Q E hr h => ?_)
  · obtain ⟨x, X, Y, c, rs, rfl, _⟩ := h
    rfl
  · obtain ⟨x, X, Y, c, rs, rfl, ⟨dx, a, b, q, hx, ⟨us, ha, pa⟩, hb, hq⟩, k⟩ := h
    refine ⟨_, (pss_one (ps_ret (pe_callTy call_list_of (by rfl) B.list bo_list (pa_cons (pe_fld (pv 0) rfl) pa_nil)))), ?_⟩
    exact ⟨.ref x, rfl, x, C, dx, _, _, rfl, hx, T.cl, T.nF, smF_f _ _ _, a, us, rfl, .inl (SqL.of ha), fun p np => k p _ np (Ex.new np) ⟨us, upd_same, Pr.imp (fun v s r => IsSc.mono (Ex.new np) r) pa⟩⟩
theorem ok_lastsSm {C D : Addr} (B : Bt mg) (T : Smx K C) (Tp' : Ptx K D) {f : Addr} {fd : FuncData} (F : Fun K "lasts" "Summary.lasts" sSummary_lasts f fd) : FnOk P w K mg base CX0 1 f fd ["self"] (spLastsP C D) := by
  refine F.ok scSummary_lasts (fun vs H Q E h => ?_) (fun cdv A outer s H vs Q E hr h => ?_)
  · obtain ⟨x, X, Y, c, rs, rfl, _⟩ := h
    rfl
  · obtain ⟨x, X, Y, c, rs, rfl, ⟨dx, a, b, q, hx, ha, ⟨us, hb, pb⟩, hq⟩, k⟩ := h
    refine ⟨_, (pss_one (ps_ret (pe_callTy call_list_of (by rfl) B.list bo_list (pa_cons (pe_fld (pv 0) rfl) pa_nil)))), ?_⟩
    exact ⟨.ref x, rfl, x, C, dx, _, _, rfl, hx, T.cl, T.nL, smF_l _ _ _, b, us, rfl, .inl (SqL.of hb), fun p np => k p _ np (Ex.new np) ⟨us, upd_same, Pr.imp (fun v s r => IsSc.mono (Ex.new np) r) pb⟩⟩
theorem ok_threeFrom {C D : Addr} (T : Smx K C) (Tp' : Ptx K D) (Dp_sm_firsts : DPr P w K mg base C "firsts" 1 (spFirstsP C D)) (Dp_sm_lasts : DPr P w K mg base C "lasts" 1 (spLastsP C D)) (Dp_pf_pieces : DPr P w K mg base D "pieces" 1 (spPiecesP D)) {f : Addr} {fd : FuncData} (F : Fun K "three_from" "three_from" sthree_from f fd) : FnOk P w K mg base CX0 3 f fd ["summary"] (spThreeFrom C D) := by
  refine F.ok scthree_from (fun vs H Q E h => ?_) (fun cdv A outer s H vs Q E hr h => ?_)
  · obtain ⟨x, X, Y, c, rs, rfl, _⟩ := h
    rfl
  · obtain ⟨x, X, Y, c, rs, rfl, Sx, ca, bd, few, k⟩ := h
    refine ⟨_, (pss_one (ps_ret (pe_tup (pa_cons (pe_pr Dp_sm_firsts hr (pv 0)) (pa_cons (pe_pr Dp_sm_lasts hr (pv 0)) (pa_cons (pe_pr Dp_pf_pieces hr (pe_fld (pv 0) rfl)) pa_nil)))))), ?_⟩
    obtain ⟨dx, a, b, q, hx, ha, hb, hq⟩ := id Sx
    refine ⟨.ref x, rfl, x, dx, _, rfl, hx, x, X, Y, c, rs, rfl, Sx, fun p1 H1 n1 e1 h1 => ?_⟩
    have hx1 := e1 _ _ hx
    refine ⟨.ref x, rfl, x, dx, _, rfl, hx1, x, X, Y, c, rs, rfl, Sx.mono e1, fun p2 H2 n2 e2 h2 => ?_⟩
    have hx2 := e2 _ _ hx1
    have hq2 := (hq.mono e1).mono e2
    obtain ⟨dq, l, hq3, _⟩ := id hq2
    refine ⟨.ref x, rfl, x, C, dx, _, _, rfl, hx2, T.cl, T.nP, smF_p _ _ _, q, dq, _, rfl, hq3, q, c, rs, rfl, ⟨hq2, bd, ca, few⟩, fun p3 H3 n3 e3 h3 => ⟨by show 3 ≤ sizeLine; decide, fun p4 np4 => ?_⟩⟩
    have e4 := Ex.new (o := .tup [V.ref p1, V.ref p2, V.ref p3]) np4
    exact k _ _ (((e1.trans e2).trans e3).trans e4) ⟨p4, p1, p2, p3, rfl, upd_same, h1.mono ((e2.trans e3).trans e4), h2.mono (e3.trans e4), h3.mono e4⟩
theorem ok_sumFrom {C D : Addr} (T : Smx K C) (Tp' : Ptx K D) (DProfile : DMk P w K mg base "Profile" D 5 ["self", "cold", "pieces"] (spInitF D)) (DSummary : DMk P w K mg base "Summary" C 1 ["self", "firsts", "lasts", "profile"] (spInitSm C D)) (Dcount_all : Df P w K mg base "count_all" 2 ["scans"] spCount) (Dflattened : Df P w K mg base "flattened" 1 ["pieces"] spFlat) {f : Addr} {fd : FuncData} (F : Fun K "summary_from" "summary_from" ssummary_from f fd) : FnOk P w K mg base CX0 7 f fd ["three"] (spSumFrom C D) := by
  refine F.ok scsummary_from (fun vs H Q E h => ?_) (fun cdv A outer s H vs Q E hr h => ?_)
  · obtain ⟨v, X, ps, rfl, _⟩ := h
    rfl
  · obtain ⟨v, X, ps, rfl, ⟨t, f1, l1, c1, rfl, ht, hf, hl, hc⟩, tp, fs, few, lX, nn, k⟩ := h
    refine ⟨_, (pss_cons (ps_asg (pv 0) (pg_tup rfl (pgs_cons (pg_name (i := 1) scsummary_from.nd rfl (by first | exact Or.inl rfl | exact Or.inr rfl)) (pgs_cons (pg_name (i := 2) scsummary_from.nd rfl (by first | exact Or.inl rfl | exact Or.inr rfl)) (pgs_cons (pg_name (i := 3) scsummary_from.nd rfl (by first | exact Or.inl rfl | exact Or.inr rfl)) pgs_nil)))))
      (pss_one (ps_ret (pe_mk DSummary hr (pa_cons (pv 1) (pa_cons (pv 2) (pa_cons (pe_mk DProfile hr (pa_cons (pe_df Dcount_all hr (pa_cons (pv 1) pa_nil)) (pa_cons (pe_df Dflattened hr (pa_cons (pv 3) pa_nil)) pa_nil))) pa_nil))))))), ?_⟩
    refine ⟨_, rfl, t, _, rfl, SqT.of ht, rfl, _, _, rfl, _, _, rfl, _, _, rfl, rfl, ?_⟩
    refine ⟨.ref f1, rfl, .ref l1, rfl, .ref f1, rfl, f1, _, rfl, hf, tdy_good' (lstR_nodup X) (fun z hz => nn z (mem_lstR.mp hz)) (by have := fs.f; omega), fun H1 e1 => ?_⟩
    rw [psum_tdy (lstR_nodup X)]
    refine ⟨.ref c1, rfl, c1, ps, rfl, hc.mono e1, by omega, fun r H2 rs nr e2 hr Tl lr => ?_⟩
    have at_ : ∀ d, atP rs d = DH X d := fun d => (Tl.at tp.pok d).trans (tp.at_ d)
    have S : Sz 190 rs := Sz.of Tl tp.pok (fun p hp => Int.le_trans (tp.ok p hp).2 (by decide +kernel)) fun d => by
      rw [tp.at_]
      have := (DH_bd X d).2
      omega
    have Vr : Val rs := S.val (by decide) (by omega)
    have e12 := e1.trans e2
    intro x dx nx ndx ne
    refine ⟨x, dx, ((lstR X).length : Int), r, rs, rfl, upd_same, Int.natCast_nonneg _, hr.mono (mk_ex0 nx ndx), Vr, fun H3 rs2 l fr P3 T3 nl hx => ⟨rfl, ?_⟩⟩
    have ers : rs2 = rs := Can.unique T3.can Tl.can fun d => T3.at Vr.pok d
    subst ers
    have e3 := mk_ex nx ndx fr
    have e13 := e12.trans e3
    intro y dy ny ndy ney
    have e4 := mk_ex0 (C := C) ny ndy
    refine ⟨y, dy, f1, l1, x, _, _, ((lstR X).length : Int), rs2, rfl, upd_same, (hf.mono e13).mono e4, (hl.mono e13).mono e4, P3.at_.mono e4, fun H5 fr5 S5 => ⟨rfl, ?_⟩⟩
    exact k y H5 (e13.back ny) (e13.trans (mk_ex ny ndy fr5)) ⟨⟨rs2, S5, P3.can, P3.bd, P3.few, S, at_⟩, fs⟩
theorem ok_sumOf {Cp C D : Addr} (T : Tpg K Cp) (Dcheck_program : Df P w K mg base "check_program" 1 ["program"] (spCheckProf Cp)) (Dthree_of : Df P w K mg base "three_of" 18 ["parts"] (spThree 12)) (Dsummary_from : Df P w K mg base "summary_from" 7 ["three"] (spSumFrom C D)) {f : Addr} {fd : FuncData} (F : Fun K "summary_of" "summary_of" ssummary_of f fd) : FnOk P w K mg base CX0 19 f fd ["program"] (spSumOf Cp C D) := by
  refine F.ok scsummary_of (fun vs H Q E h => ?_) (fun cdv A outer s H vs Q E hr h => ?_)
  · obtain ⟨x, g, rfl, _⟩ := h
    rfl
  · obtain ⟨x, g, rfl, Px, lg, k⟩ := h
    refine ⟨_, (pss_cons (ps_expr (pe_df Dcheck_program hr (pa_cons (pv 0) pa_nil)))
      (pss_one (ps_ret (pe_df Dsummary_from hr (pa_cons (pe_df Dthree_of hr (pa_cons (pe_fld (pv 0) rfl) pa_nil)) pa_nil))))), ?_⟩
    obtain ⟨d0, t0, hx0, _⟩ := id Px
    refine ⟨.ref x, rfl, x, d0, _, rfl, hx0, fun H1 e1 => ?_⟩
    obtain ⟨d1, t1, hx1, i1⟩ := Px.mono e1
    have c1 := lim_cnt lg
    have n1 := lim_nds lg
    refine ⟨.ref x, rfl, x, Cp, d1, _, _, rfl, hx1, T.cl, T.nP, pgF_get _, t1, g, 10 ^ 30, 80, 10 ^ 32, rfl, i1, by have := lg.dep; omega, lg.ok, by decide +kernel, lim_fw lg, Int.le_trans c1 (by decide +kernel), by decide, by omega, fun w H2 rs e2 tr tp lr => ?_⟩
    refine ⟨w, g.rd, rs, rfl, tr, tp, lim_fs lg, by omega, by rw [prd_len lg.ok]; exact c1, fun z hz => (rd_bound lg.ok z hz).1, fun y H3 ny e3 S3 => ?_⟩
    have e12 := e1.trans e2
    exact k y H3 (e12.back ny) (e12.trans e3) S3
theorem ok_eqSm {C D : Addr} (B : Bt mg) (O : Pof K C) (hP : mg "Summary" = some (.ref C)) (Dthree_from : Df P w K mg base "three_from" 3 ["summary"] (spThreeFrom C D)) {f : Addr} {fd : FuncData} (F : Fun K "__eq__" "Summary.__eq__" sSummary___eq__ f fd) : FnOk P w K mg base CX0 4 f fd ["self", "other"] (spEqSm K C D) := by
  refine F.ok scSummary___eq__ (fun vs H Q E h => ?_) (fun cdv A outer s H vs Q E hr h => ?_)
  · obtain ⟨x, y, X, Y, rfl, _⟩ := h
    rfl
  · obtain ⟨x, y, X, Y, rfl, Sx, Sy, k⟩ := h
    refine ⟨_, (pss_one (ps_ret (pe_and (pe_callB call_isi (by rfl) B.isinstance bo_isinstance (pa_cons (pv 1) (pa_cons (pe_glob (v := .ref C) (by rfl) hP rfl) pa_nil))) (pe_one (pe_cmpR (op_eqD hr.units) (pe_df Dthree_from hr (pa_cons (pv 0) pa_nil)) (pe_df Dthree_from hr (pa_cons (pv 1) pa_nil)) (nomark _)))))), ?_⟩
    obtain ⟨⟨rs, Sx1, cx, bx, lx, _, ax⟩, _⟩ := Sx
    obtain ⟨⟨qs, Sy1, cy, by', ly, _, ay⟩, _⟩ := Sy
    obtain ⟨dy, a, b, q, hy, _⟩ := id Sy1
    refine ⟨.ref y, rfl, .ref y, .ref C, _, _, true, rfl, .own C, .base (.ins hy O.cl O.ha O.hn O.htk O.hm), O.me, true, rfl, iteT ?_⟩
    refine ⟨.ref x, rfl, x, _, _, _, rs, rfl, Sx1, cx, bx, lx, fun v H1 e1 i1 => ?_⟩
    refine ⟨.ref y, rfl, y, _, _, _, qs, rfl, Sy1.mono e1, cy, by', ly, fun u H2 e2 i2 => ?_⟩
    refine ⟨pd3T _ _ _, pd3T _ _ _, (i1.mono e2).dp, i2.dp, shaped_3T _ _ _, shaped_3T _ _ _, ?_⟩
    rw [eqv_3T]
    refine (k _ fun e => ?_).go (e1.trans e2)
    subst e
    exact decide_eq_true ⟨rfl, rfl, Can.unique cx cy fun d => by rw [ax, ay]⟩
end
end Kb

namespace Kb
open PySem PySem.Spec PyProof.Rows L2 StX TL
abbrev s_law_bag : Stmt := topS 83
theorem sc_law_bag : FnScope ["cell"] ["cell"] (defScope s_law_bag) := ⟨rfl, rfl, rfl, by decide +kernel, rfl, by decide +kernel, by decide +kernel⟩
abbrev s_law_pick : Stmt := topS 84
theorem sc_law_pick : FnScope ["bag", "many", "told", "seed", "turn", "first", "second"] ["bag", "many"] (defScope s_law_pick) := ⟨rfl, rfl, rfl, by decide +kernel, rfl, by decide +kernel, by decide +kernel⟩
abbrev s_law_scan : Stmt := topS 85
theorem sc_law_scan : FnScope ["bag", "wide", "one", "other", "way"] ["bag", "wide"] (defScope s_law_scan) := ⟨rfl, rfl, rfl, by decide +kernel, rfl, by decide +kernel, by decide +kernel⟩
abbrev s_law_words : Stmt := topS 86
theorem sc_law_words : FnScope ["bag", "most", "deep", "wide", "high", "found", "left", "part", "word"] ["bag", "most", "deep", "wide", "high"] (defScope s_law_words) := ⟨rfl, rfl, rfl, by decide +kernel, rfl, by decide +kernel, by decide +kernel⟩
abbrev s_law_pair : Stmt := topS 87
theorem sc_law_pair : FnScope ["word", "parts"] ["word"] (defScope s_law_pair) := ⟨rfl, rfl, rfl, by decide +kernel, rfl, by decide +kernel, by decide +kernel⟩
abbrev s_law_length : Stmt := topS 89
theorem sc_law_length : FnScope ["words", "stack", "word", "part", "first", "last"] ["words"] (defScope s_law_length) := ⟨rfl, rfl, rfl, by decide +kernel, rfl, by decide +kernel, by decide +kernel⟩
section
variable {P : Program} {w : World} {K : PySem.W.Frag} {mg : Str → Option Value} {base : Heap}
theorem ok_bag0 (B : Bt mg) {f : Addr} {fd : FuncData} (F : Fun K "_law_bag" "_law_bag" s_law_bag f fd) : FnOk P w K mg base CX0 1 f fd ["cell"] spBag0 := by
  refine F.ok sc_law_bag (fun vs H Q E h => ?_) (fun cdv A outer s H vs Q E hr h => ?_)
  · obtain ⟨c, rfl, _⟩ := h
    rfl
  · obtain ⟨c, rfl, q⟩ := h
    refine ⟨_, (pss_one (ps_ret (pe_lst (pa_cons (pe_callB (call_max2 rfl) (by rfl) B.max bo_max (pa_cons pe_int (pa_cons (pe_op op_sub (pv 0) (pe_op op_pow pe_int pe_int)) pa_nil))) (pa_cons (pv 0) (pa_cons pe_int pa_nil)))))), ?_⟩
    refine ⟨.int c, rfl, 10, 18, rfl, rfl, ⟨by decide, by decide, by decide⟩, c, _, rfl, rfl, 0, _, rfl, .int c, rfl, by show 3 ≤ sizeLine; decide, fun p np => ?_⟩
    exact q p _ _ _ _ np (Ex.new np) upd_same
theorem ok_bag (B : Bt mg) {f : Addr} {fd : FuncData} (F : Fun K "_law_bag" "_law_bag" s_law_bag f fd) : FnOk P w K mg base CX0 1 f fd ["cell"] spBag :=
  bag_new (ok_bag0 B F) fun vs H Q E h => by
    obtain ⟨c, rfl, q⟩ := h
    refine ⟨rfl, c, rfl, fun b H' x y z n e hb => ⟨b, x, y, z, rfl, n, hb, q b _ n (fun a o ha => ?_) upd_same⟩⟩
    rw [upd_ne (ne_of_none ha n)]
    exact e a o ha
theorem ok_pick0 (B : Bt mg) {f : Addr} {fd : FuncData} (F : Fun K "_law_pick" "_law_pick" s_law_pick f fd) : FnOk P w K mg base CX0 1 f fd ["bag", "many"] spPick0 := by
  refine F.ok sc_law_pick (fun vs H Q E h => ?_) (fun cdv A outer s H vs Q E hr h => ?_)
  · obtain ⟨b, m, x, c, t, rfl, _⟩ := h
    rfl
  · obtain ⟨b, m, x, c, t, rfl, hb, h1, h2, q⟩ := h
    refine ⟨_, (pss_cons (ps_asg (pe_op op_add (pe_ix ix_list (pv 0) pe_int (fun _ _ => rfl)) pe_int) (pg_sub (pv 0) pe_int set_list))
      (pss_cons (ps_if (pt_cmpR op_gt (pe_ix ix_list (pv 0) pe_int (fun _ _ => rfl)) pe_int (nomark _)) (pss_cons (ps_set (i := 2) sc_law_pick.nd rfl (by first | exact Or.inl rfl | exact Or.inr rfl) (pe_op op_mod (pe_callTy call_int1 (by rfl) B.int bo_int (pa_cons (pe_ix ix_list (pv 0) pe_int (fun _ _ => rfl)) pa_nil)) (pv 1)))
      (pss_cons (ps_asg (pe_op op_fdivW (pe_callTy call_int1 (by rfl) B.int bo_int (pa_cons (pe_ix ix_list (pv 0) pe_int (fun _ _ => rfl)) pa_nil)) (pv 1)) (pg_sub (pv 0) pe_int set_list))
      (pss_one (ps_ret (pv 2))))) pss_nil)
      (pss_cons (ps_par (i := 3) (j := 4) rfl sc_law_pick.nd rfl rfl (by decide) rfl rfl (pa_cons (pe_callTy call_int1 (by rfl) B.int bo_int (pa_cons (pe_ix ix_list (pv 0) pe_int (fun _ _ => rfl)) pa_nil)) (pa_cons (pe_callTy call_int1 (by rfl) B.int bo_int (pa_cons (pe_ix ix_list (pv 0) pe_int (fun _ _ => rfl)) pa_nil)) pa_nil)) (by rfl))
      (pss_cons (ps_set (i := 5) sc_law_pick.nd rfl (by first | exact Or.inl rfl | exact Or.inr rfl) (pe_op op_mod (pe_callTy call_int1 (by rfl) B.int bo_int (pa_cons (pe_op op_add (pe_op op_add (pe_op op_mul (pe_op op_mod (pv 3) pe_int) pe_int) (pe_op op_mul (pv 4) pe_int)) pe_int) pa_nil)) pe_int))
      (pss_cons (ps_set (i := 6) sc_law_pick.nd rfl (by first | exact Or.inl rfl | exact Or.inr rfl) (pe_op op_mod (pe_callTy call_int1 (by rfl) B.int bo_int (pa_cons (pe_op op_add (pe_op op_mul (pv 5) (pv 5)) (pe_op op_mul (pv 4) pe_int)) pa_nil)) pe_int))
      (pss_one (ps_ret (pe_op op_mod (pe_callTy call_int1 (by rfl) B.int bo_int (pa_cons (pe_op op_fdiv (pe_op op_add (pe_op op_mul (pv 5) pe_int) (pv 6)) pe_int) pa_nil)) (pv 1))))))))), ?_⟩
    refine ⟨.ref b, rfl, b, _, 2, _, rfl, rfl, SqL.of hb, rfl, t, 1, rfl, rfl, .ref b, rfl, b, _, 2, 2, rfl, rfl, hb, rfl, ?_⟩
    have k1 : ∀ a o, a ≠ b → H a = some o → (upd H b (.lst [.int x, .int c, .int (t + 1)])) a = some o := fun a o n e => (upd_ne n).trans e
    refine ⟨.ref b, rfl, b, _, 0, _, rfl, rfl, SqL.of upd_same, rfl, x, 0, rfl, rfl, _, rfl, ite2 (fun e => ?_) (fun e => ?_)⟩
    · refine ⟨.ref b, rfl, b, _, 0, _, rfl, rfl, SqL.of upd_same, rfl, .inl ⟨x, rfl, .int m, rfl, x, m, rfl, rfl, by show 0 < m; omega, ?_⟩⟩
      refine ⟨.ref b, rfl, b, _, 0, _, rfl, rfl, SqL.of upd_same, rfl, .inl ⟨x, rfl, .int m, rfl, x, m, rfl, rfl, ?_, .ref b, rfl, b, _, 0, 0, rfl, rfl, upd_same, rfl, ?_⟩⟩
      · exact wide_div (b := 400) (by omega) (Nat.lt_of_le_of_lt (show m.natAbs ≤ 10 ^ 100 by omega) (by decide)) (by decide) (by decide)
      · refine ⟨_, rfl, q _ _ (x / m) (t + 1) (Int.emod_nonneg _ (by omega)) (Int.emod_lt_of_pos _ (by omega)) (fun a o n e => ?_) upd_same⟩
        rw [upd_ne n]
        exact k1 a o n e
    · refine ⟨.ref b, rfl, b, _, 1, _, rfl, rfl, SqL.of upd_same, rfl, .inl ⟨c, rfl, .ref b, rfl, b, _, 2, _, rfl, rfl, SqL.of upd_same, rfl, .inl ⟨t + 1, rfl, _, _, rfl, ?_⟩⟩⟩
      refine ⟨_, rfl, c, 2147483629, rfl, rfl, by show (0 : Int) < 2147483629; decide, _, 48271, rfl, rfl, .inr ⟨by decide, by decide⟩, _, rfl, t + 1, 69621, rfl, rfl, .inr ⟨by decide, by decide⟩, _, _, rfl, rfl, _, 12345, rfl, rfl, .inl ⟨_, rfl, _, 2147483647, rfl, rfl, by show (0 : Int) < 2147483647; decide, ?_⟩⟩
      have f1 : ∀ z : Int, 0 ≤ z % 2147483647 ∧ z % 2147483647 < 2147483647 := fun z => ⟨Int.emod_nonneg _ (by decide), Int.emod_lt_of_pos _ (by decide)⟩
      have f2 := f1 (c % 2147483629 * 48271 + (t + 1) * 69621 + 12345)
      have f3 : CMul ((c % 2147483629 * 48271 + (t + 1) * 69621 + 12345) % 2147483647) ((c % 2147483629 * 48271 + (t + 1) * 69621 + 12345) % 2147483647) := .inl ⟨Int.lt_of_lt_of_le (by decide) f2.1, Int.lt_trans f2.2 (by decide)⟩
      have f4 : CMul ((c % 2147483629 * 48271 + (t + 1) * 69621 + 12345) % 2147483647) 2147483587 := .inr ⟨by decide, by decide⟩
      refine ⟨_, rfl, _, rfl, _, _, rfl, rfl, f3, _, rfl, t + 1, 40692, rfl, rfl, .inr ⟨by decide, by decide⟩, _, _, rfl, rfl, .inl ⟨_, rfl, _, 2147483587, rfl, rfl, by show (0 : Int) < 2147483587; decide, ?_⟩⟩
      refine ⟨_, rfl, _, 2147483587, rfl, rfl, f4, _, rfl, _, _, rfl, rfl, _, 32, rfl, rfl, ⟨by decide, by decide⟩, .inl ⟨_, rfl, _, rfl, _, m, rfl, rfl, by show 0 < m; omega, ?_⟩⟩
      exact q _ _ x (t + 1) (Int.emod_nonneg _ (by omega)) (Int.emod_lt_of_pos _ (by omega)) k1 upd_same
theorem ok_pick (B : Bt mg) {f : Addr} {fd : FuncData} (F : Fun K "_law_pick" "_law_pick" s_law_pick f fd) : FnOk P w K mg base CX0 1 f fd ["bag", "many"] spPick :=
  bag_fn (ok_pick0 B F) fun vs H Q E h => by
    obtain ⟨b, m, rfl, hb, h1, h2, q⟩ := h
    refine ⟨rfl, b, hb, fun x c t => ⟨b, m, x, c, t, rfl, upd_same, h1, h2, fun n H' x' t' n0 n1 k e => ⟨x', c, t', e, q n _ n0 n1 fun a o ha => ?_⟩⟩⟩
    by_cases z : a = b
    · subst z
      rw [hb] at ha
      rw [upd_same]
      exact ha
    · rw [upd_ne z]
      exact k a o z (by rw [upd_ne z]; exact ha)
theorem ok_lscan (B : Bt2 mg) (D_law_pick : Df P w K mg base "_law_pick" 1 ["bag", "many"] spPick) {f : Addr} {fd : FuncData} (F : Fun K "_law_scan" "_law_scan" s_law_scan f fd) : FnOk P w K mg base CX0 2 f fd ["bag", "wide"] spLScan := by
  refine F.ok sc_law_scan (fun vs H Q E h => ?_) (fun cdv A outer s H vs Q E hr h => ?_)
  · obtain ⟨b, wd, rfl, _⟩ := h
    rfl
  · obtain ⟨b, wd, rfl, hb, w1, w2, q⟩ := h
    refine ⟨_, (pss_cons (ps_par (i := 2) (j := 3) rfl sc_law_scan.nd rfl rfl (by decide) rfl rfl (pa_cons (pe_df D_law_pick hr (pa_cons (pv 0) (pa_cons (pv 1) pa_nil))) (pa_cons (pe_df D_law_pick hr (pa_cons (pv 0) (pa_cons (pv 1) pa_nil))) pa_nil)) (by rfl))
      (pss_cons (ps_set (i := 4) sc_law_scan.nd rfl (by first | exact Or.inl rfl | exact Or.inr rfl) (pe_df D_law_pick hr (pa_cons (pv 0) (pa_cons pe_int pa_nil))))
      (pss_cons (ps_if (pw_or (pt_cmpR op_eq (pv 4) pe_int (nomark _)) (pw_or1 (pt_cmpR op_eq (pv 2) (pv 3) (nomark _)))).pt (pss_one (ps_ret (pe_callTy call_str_int (by rfl) B.str bo_str (pa_cons (pv 2) pa_nil)))) pss_nil)
      (pss_one (ps_ret (pe_op op_add_str (pe_op op_add_str (pe_callTy call_str_int (by rfl) B.str bo_str (pa_cons (pv 2) pa_nil)) pe_str) (pe_callTy call_str_int (by rfl) B.str bo_str (pa_cons (pe_ix ix_list (pe_lst (pa_cons (pv 3) (pa_cons (pe_op op_add (pv 2) pe_int) (pa_cons (pv 3) pa_nil)))) (pe_op op_sub (pv 4) pe_int) (fun _ _ => rfl)) pa_nil)))))))), ?_⟩
    have w3 : wd ≤ 10 ^ 100 := Int.le_trans w2 (by decide +kernel)
    refine ⟨.ref b, rfl, .int wd, rfl, b, wd, rfl, hb, w1, w3, fun x H1 x0 x1 e1 => ?_⟩
    have hb1 := e1 _ _ hb
    refine ⟨.ref b, rfl, .int wd, rfl, b, wd, rfl, hb1, w1, w3, fun y H2 y0 y1 e2 => ?_⟩
    have hb2 := e2 _ _ hb1
    refine ⟨_, _, rfl, ?_⟩
    refine ⟨.ref b, rfl, b, 4, rfl, hb2, by decide, by decide, fun n H3 n0 n1 e3 => ?_⟩
    have e03 := (e1.trans e2).trans e3
    have g30 : (10 : Int) ^ 30 < 10 ^ 500 := by decide +kernel
    have lx := nw_len x0 (k := 31) (by decide) (by omega)
    have same : ¬ (¬ n = 0 ∧ ¬ x = y) → Q (.str (nw x)) H3 := fun _ => by
      have := q (x, x) H3 ⟨x0, by show x ≤ _; omega, x0, by show x ≤ _; omega⟩ x1 e03
      rw [← scw_eq] at this
      exact this
    refine ⟨.int n, rfl, rfl, _, rfl, ?_⟩
    by_cases c1 : n = 0
    · rw [show decide (V.int n = V.int 0) = true from decide_eq_true (by rw [c1])]
      exact iteT ⟨.int x, rfl, x, rfl, log_nw x0 (by omega), same fun z => z.1 c1⟩
    rw [show decide (V.int n = V.int 0) = false from decide_eq_false fun e => c1 (V.int.inj e)]
    refine iteF ⟨.int x, rfl, .int y, rfl, rfl, _, rfl, ?_⟩
    by_cases c2 : x = y
    · rw [show decide (V.int x = V.int y) = true from decide_eq_true (by rw [c2])]
      exact iteT ⟨.int x, rfl, x, rfl, log_nw x0 (by omega), same fun z => z.2 c2⟩
    rw [show decide (V.int x = V.int y) = false from decide_eq_false fun e => c2 (V.int.inj e)]
    refine iteF ⟨.int x, rfl, x, rfl, log_nw x0 (by omega), _, _, rfl, rfl, ?_, ?_⟩
    · have : (Str.ofString "-").length = 1 := dash_len
      show (nw x).length + (Str.ofString "-").length ≤ sizeLine
      exact size64 (by omega)
    refine ⟨.int y, rfl, .int x, rfl, _, _, rfl, rfl, .int y, rfl, by show 3 ≤ sizeLine; decide, fun l nl => ?_⟩
    have el := Ex.new (o := .lst [V.int y, V.int (x + 1), V.int y]) nl
    obtain ⟨m, am, m0, m1, mx⟩ : ∃ m, atI [V.int y, V.int (x + 1), V.int y] (n - 1) = some (.int m) ∧ 0 ≤ m ∧ m ≤ 10 ^ 30 ∧ ¬ x = m := by
      rcases (show n = 1 ∨ n = 2 ∨ n = 3 by omega) with e | e | e
      · rw [e]
        exact ⟨y, rfl, y0, by omega, c2⟩
      · rw [e]
        exact ⟨x + 1, rfl, by omega, by omega, by omega⟩
      · rw [e]
        exact ⟨y, rfl, y0, by omega, c2⟩
    have lm := nw_len m0 (k := 31) (by decide) (by omega)
    refine ⟨.int n, rfl, _, _, rfl, rfl, l, _, _, .int m, rfl, rfl, SqL.of upd_same, am, m, rfl, log_nw m0 (by omega), _, _, rfl, rfl, ?_, ?_⟩
    · show (nw x ++ dash).length + (nw m).length ≤ sizeLine
      rw [l2s, dash_len]
      exact size64 (by omega)
    · have := q (x, m) _ ⟨x0, by show x ≤ _; omega, m0, m1⟩ x1 (e03.trans el)
      rw [← scw_ne mx] at this
      exact this
theorem ok_lpair (B : Bt2 mg) {f : Addr} {fd : FuncData} (F : Fun K "_law_pair" "_law_pair" s_law_pair f fd) : FnOk P w K mg base CX0 1 f fd ["word"] spLPair := by
  refine F.ok sc_law_pair (fun vs H Q E h => ?_) (fun cdv A outer s H vs Q E hr h => ?_)
  · obtain ⟨s, rfl, _⟩ := h
    rfl
  · obtain ⟨⟨x, y⟩, rfl, ok, q⟩ := h
    refine ⟨_, (pss_cons (ps_set (i := 1) sc_law_pair.nd rfl (by first | exact Or.inl rfl | exact Or.inr rfl) (pe_split (pv 0) pe_str))
      (pss_one (ps_ret (pe_tup (pa_cons (pe_callTy call_int_str (by rfl) B.int bo_int (pa_cons (pe_ix ix_list (pv 1) pe_int (fun _ _ => rfl)) pa_nil)) (pa_cons (pe_callTy call_int_str (by rfl) B.int bo_int (pa_cons (pe_ix ix_list (pv 1) (pe_un un_neg pe_int) (fun _ _ => rfl)) pa_nil)) pa_nil)))))), ?_⟩
    have lw := (wd_len (t := .sc (x, y)) (B := 10 ^ 63) ok (k := 64) (by decide) (by decide +kernel)).2
    have lw : (scw (x, y)).length ≤ 129 := lw
    have sp := scw_split ok
    have ok' : 0 ≤ x ∧ x ≤ 10 ^ 63 ∧ 0 ≤ y ∧ y ≤ 10 ^ 63 := ok
    obtain ⟨x0, x1, y0, y1⟩ := ok'
    have g : (10 : Int) ^ 63 < 10 ^ 600 := by decide +kernel
    have g2 : (10 : Int) ^ 63 < 10 ^ 64 := by decide +kernel
    have lx := nw_len x0 (k := 64) (by decide) (by omega)
    have ly := nw_len y0 (k := 64) (by decide) (by omega)
    refine ⟨.str (scw (x, y)), rfl, ⟨_, rfl⟩, scw (x, y), dash, rfl, rfl, by decide +kernel, by rw [sizeLine_eq]; omega, fun p np => ?_⟩
    rw [sp]
    have ep := fun o => Ex.new (H := H) (p := p) (o := o) np
    by_cases c : x = y
    · subst c
      rw [if_pos rfl]
      refine ⟨.ref p, rfl, p, _, 0, .str (nw x), rfl, rfl, SqL.of upd_same, rfl, nw x, x, rfl, nw_int x0 (by omega), by omega, ?_⟩
      refine ⟨.ref p, rfl, 1, rfl, p, _, -1, .str (nw x), rfl, rfl, SqL.of upd_same, rfl, nw x, x, rfl, nw_int x0 (by omega), by omega, by show 2 ≤ sizeLine; decide, fun t nt => ?_⟩
      exact q t _ ((ep _).back nt) ((ep _).add nt) upd_same
    · rw [if_neg c]
      refine ⟨.ref p, rfl, p, _, 0, .str (nw x), rfl, rfl, SqL.of upd_same, rfl, nw x, x, rfl, nw_int x0 (by omega), by omega, ?_⟩
      refine ⟨.ref p, rfl, 1, rfl, p, _, -1, .str (nw y), rfl, rfl, SqL.of upd_same, rfl, nw y, y, rfl, nw_int y0 (by omega), by omega, by show 2 ≤ sizeLine; decide, fun t nt => ?_⟩
      exact q t _ ((ep _).back nt) ((ep _).add nt) upd_same
theorem ok_lwords (B : Bt2 mg) (D_law_pick : Df P w K mg base "_law_pick" 1 ["bag", "many"] spPick) (D_law_scan : Df P w K mg base "_law_scan" 2 ["bag", "wide"] spLScan) {f : Addr} {fd : FuncData} (F : Fun K "_law_words" "_law_words" s_law_words f fd)
    (mk : ∀ {k : Nat} {sp : Sp}, FnOk P w K mg base CX0 k f fd ["bag", "most", "deep", "wide", "high"] sp → Df P w K mg base "_law_words" k ["bag", "most", "deep", "wide", "high"] sp) : ∀ d : Nat, FnOk P w K mg base CX0 (d + 3) f fd ["bag", "most", "deep", "wide", "high"] (spLWords d)
  | 0 => ⟨fun vs H Q E h => by obtain ⟨b, m, dp, wd, hh, rfl, _⟩ := h; rfl, fun A outer s H args us vs Q E _ _ _ _ h => by obtain ⟨b, m, dp, wd, hh, rfl, _, _, _, h0, h1, _⟩ := h; omega⟩
  | d + 1 => by
    have D_law_words := mk (ok_lwords B D_law_pick D_law_scan F mk d)
    refine F.ok sc_law_words (fun vs H Q E h => ?_) (fun cdv A outer s H vs Q E hr h => ?_)
    · obtain ⟨b, m, dp, wd, hh, rfl, _⟩ := h
      rfl
    · obtain ⟨b, most, deep, wd, hh, rfl, hb, m1, m2, d0, d1, d10, w1, w2, h1, h2, q⟩ := h
      refine ⟨_, (pss_cons (ps_par (i := 5) (j := 6) rfl sc_law_words.nd rfl rfl (by decide) rfl rfl (pa_cons (pe_lst pa_nil) (pa_cons (pe_op op_add pe_int (pe_df D_law_pick hr (pa_cons (pv 0) (pa_cons (pv 1) pa_nil)) (hk := by omega))) pa_nil)) (by rfl))
      (pss_cons (ps_while PassesOwn.never (pt_cmpR op_gt (pv 6) pe_int (nomark _)) (pss_one (ps_if (pw_and (pt_cmpR op_gt (pv 2) pe_int (nomark _)) (pw_and1 (pt_cmpR op_eq (pe_df D_law_pick hr (pa_cons (pv 0) (pa_cons pe_int pa_nil)) (hk := by omega)) pe_int (nomark _)))).pt (pss_cons (ps_set (i := 7) sc_law_words.nd rfl (by first | exact Or.inl rfl | exact Or.inr rfl) (pe_df D_law_words hr (pa_cons (pv 0) (pa_cons (pv 6) (pa_cons (pe_op op_sub (pv 2) pe_int) (pa_cons (pv 3) (pa_cons (pv 4) pa_nil))))) (hk := by omega)))
      (pss_cons (ps_set (i := 5) sc_law_words.nd rfl (by first | exact Or.inl rfl | exact Or.inr rfl) (pe_op op_cat (pe_op op_cat (pe_op op_cat (pv 5) (pe_lst (pa_cons pe_str pa_nil))) (pv 7)) (pe_lst (pa_cons (pe_op op_add_str pe_str (pe_callTy call_str_int (by rfl) B.str bo_str (pa_cons (pe_op op_add pe_int (pe_df D_law_pick hr (pa_cons (pv 0) (pa_cons (pv 4) pa_nil)) (hk := by omega))) pa_nil))) pa_nil))))
      (pss_one (ps_set (i := 6) sc_law_words.nd rfl (by first | exact Or.inl rfl | exact Or.inr rfl) (pe_op op_sub (pv 6) (pe_callB call_len_seq (by rfl) B.len bo_len (pa_cons (pe_lc (own := [("word", 8)]) (g := (gName 8)) (te := (tVar 8)) (tt := (tTest (tOp rSignNo (tOp rIxS (tVar 8) _) _))) rfl sc_law_words.nd (pi_list (pv 7)) (blkOk_by (N := ["bag", "most", "deep", "wide", "high", "found", "left", "part", "word"]) (sc := defScope s_law_words) (by decide +kernel)) (by exact fun _ _ _ _ _ => (pg_name (i := 8) sc_law_words.nd rfl (by first | exact Or.inl rfl | exact Or.inr rfl))) (by exact fun _ _ _ _ _ => (pts_one (pt_cmpR op_noSign (pe_ix ix_str (pv 8) pe_int (fun _ _ => rfl)) pe_str (by with_unfolding_all rfl)))) (by exact fun _ _ _ _ _ => (pv 8))) pa_nil))))))) (pss_cons (ps_expr (pe_bm PySem.F.plainAttrs_list PySem.F.slot_list_append PySem.F.type_list_append mt_append (pv 5) (pa_cons (pe_df D_law_scan hr (pa_cons (pv 0) (pa_cons (pv 3) pa_nil)) (hk := by omega)) pa_nil)))
      (pss_one (ps_set (i := 6) sc_law_words.nd rfl (by first | exact Or.inl rfl | exact Or.inr rfl) (pe_op op_sub (pv 6) pe_int)))))))
      (pss_one (ps_ret (pv 5))))), ?_⟩
      have w3 : wd ≤ 10 ^ 100 := Int.le_trans w2 (by decide +kernel)
      have g30 : (10 : Int) ^ 30 < 10 ^ 500 := by decide +kernel
      have g3100 : (10 : Int) ^ 30 ≤ 10 ^ 100 := by decide +kernel
      have h3 : hh ≤ 10 ^ 100 := by omega
      have m3 : most ≤ 10 ^ 100 := by
        have : (100 : Int) ≤ 10 ^ 100 := by decide +kernel
        omega
      refine ⟨Nat.zero_le _, fun q0 nq0 => ?_⟩
      have x0 := Ex.new (o := .lst ([] : List V)) nq0
      refine ⟨.ref b, rfl, .int most, rfl, b, most, rfl, x0 _ _ hb, m1, m3, fun n H1 n0 n1 e1 => ⟨_, _, rfl, rfl, _, _, rfl, ?_⟩⟩
      have hq1 := e1 _ _ (upd_same (H := H) (a := q0) (o := .lst []))
      refine ⟨fun m σ H2 => ∃ (c : Addr) (g : Pg) (left : Int) (y7 y8 : Option V), m = left.toNat ∧ σ = [some (.ref b), some (.int most), some (.int deep), some (.int wd), some (.int hh), some (.ref c), some (.int left), y7, y8] ∧ H c = none ∧ Ex H H2 ∧ H2 c = some (.lst (g.wl.map V.str)) ∧ g.Ok (10 ^ 30) ∧ (∀ s ∈ g.scs, s.1 < 10 ^ 30) ∧ (g.dep : Int) ≤ deep ∧ (g.scs.length : Int) + left = 1 + n ∧ 0 ≤ left,
        ⟨_, q0, .nil, 1 + n, none, none, rfl, rfl, nq0, x0.trans e1, hq1, trivial, fun s hs => (by cases hs), d0, by show (0 : Int) + _ = _; omega, by omega⟩, fun m σ H2 hW => ?_⟩
      obtain ⟨c, g, left, y7, y8, rfl, rfl, nc, e2, hc, ok, lt, dg, tot, l0⟩ := hW
      have hb2 := e2 _ _ hb
      have fewg : g.scs.length ≤ 101 := by omega
      have tkg := toks_dep ok (d := 10) (m := 101) (by omega) fewg
      refine ⟨.int left, rfl, _, _, rfl, rfl, _, rfl, ite2 (fun e => ?_) (fun e => ?_)⟩
      case' refine_2 =>
        have e' : ¬ left > 0 := fun z => e (decide_eq_true z)
        exact ⟨_, rfl, q c H2 g nc e2 hc ⟨ok, lt, dg, by omega, by omega⟩⟩
      have e' : left > 0 := of_decide_eq_true e
      refine ⟨fun σ' H' => ∃ (c : Addr) (g : Pg) (left' : Int) (y7 y8 : Option V), left' < left ∧ σ' = [some (.ref b), some (.int most), some (.int deep), some (.int wd), some (.int hh), some (.ref c), some (.int left'), y7, y8] ∧ H c = none ∧ Ex H H' ∧ H' c = some (.lst (g.wl.map V.str)) ∧ g.Ok (10 ^ 30) ∧ (∀ s ∈ g.scs, s.1 < 10 ^ 30) ∧ (g.dep : Int) ≤ deep ∧ (g.scs.length : Int) + left' = 1 + n ∧ 0 ≤ left', fun σ' H' hN => ?_, ?_⟩
      · obtain ⟨c, g, left', y7, y8, l, r⟩ := hN
        exact ⟨left'.toNat, by omega, c, g, left', y7, y8, rfl, r⟩
      refine ⟨.int deep, rfl, _, _, rfl, rfl, _, rfl, ite2 (fun e => ?_) (fun e => ?_)⟩
      case' refine_1 =>
        have dpos : deep > 0 := of_decide_eq_true e
        refine ⟨.ref b, rfl, b, 4, rfl, hb2, by decide, by decide, fun k H3 k0 k1 e3 => ⟨rfl, _, rfl, ite2 (fun e => ?_) (fun e => ?_)⟩⟩
      case' refine_1.refine_1 =>
        have e23 := e2.trans e3
        have hb3 := e3 _ _ hb2
        refine ⟨.ref b, rfl, .int left, rfl, .int deep, rfl, _, _, rfl, rfl, .int wd, rfl, .int hh, rfl, ?_⟩
        refine ⟨b, left, deep - 1, wd, hh, rfl, hb3, by omega, by omega, by omega, by omega, by omega, w1, w2, h1, h2, fun p H4 x np e4 hp dx => ?_⟩
        have e24 := e23.trans e4
        have hc4 := e4 _ _ (e3 _ _ hc)
        have fewx : x.scs.length ≤ 101 := by have := dx.few; omega
        have tkx := toks_dep dx.ok (d := 10) (m := 101) (by have := dx.dep; omega) fewx
        -- found + ['(']
        refine ⟨.ref c, rfl, by show 1 ≤ sizeLine; decide, fun p1 np1 => ⟨c, p1, _, _, rfl, rfl, (Ex.new np1) _ _ hc4, upd_same, ?_, fun r1 nr1 => ?_⟩⟩
        · rw [List.length_map, List.length_singleton, wl_len]
          exact size64' (by omega)
        have y1 := (Ex.new (o := .lst [V.str (Str.ofString "(")]) np1).add (o := .lst (g.wl.map V.str ++ [V.str (Str.ofString "(")])) nr1
        refine ⟨.ref p, rfl, r1, p, _, _, rfl, rfl, upd_same, y1 _ _ hp, ?_, fun r2 nr2 => ?_⟩
        · rw [List.length_append, List.length_map, List.length_singleton, List.length_map, wl_len, wl_len]
          exact size64' (by omega)
        have y2 := y1.add (o := .lst (g.wl.map V.str ++ [V.str (Str.ofString "(")] ++ x.wl.map V.str)) nr2
        have hr2 : (upd (upd (upd H4 p1 (.lst [V.str (Str.ofString "(")])) r1 (.lst (g.wl.map V.str ++ [V.str (Str.ofString "(")]))) r2 (.lst (g.wl.map V.str ++ [V.str (Str.ofString "(")] ++ x.wl.map V.str))) r2 = some (.lst (g.wl.map V.str ++ [V.str (Str.ofString "(")] ++ x.wl.map V.str)) := upd_same
        have nr2' : H4 r2 = none := y1.back nr2
        generalize upd (upd (upd H4 p1 (.lst [V.str (Str.ofString "(")])) r1 (.lst (g.wl.map V.str ++ [V.str (Str.ofString "(")]))) r2 (.lst (g.wl.map V.str ++ [V.str (Str.ofString "(")] ++ x.wl.map V.str)) = H5 at y2 hr2 ⊢
        refine ⟨.ref b, rfl, .int hh, rfl, b, hh, rfl, y2 _ _ (e4 _ _ hb3), h1, h3, fun z H6 z0 z1 e6 => ?_⟩
        have zn : (2 : Int) + z ≤ 10 ^ 30 := by omega
        have lz := nw_len (show 0 ≤ 2 + z by omega) (k := 31) (by decide) (by omega)
        refine ⟨_, _, rfl, rfl, _, rfl, log_nw (show 0 ≤ 2 + z by omega) (by omega), _, _, rfl, rfl, ?_, by show 1 ≤ sizeLine; decide, fun p3 np3 => ?_⟩
        · have : (Str.ofString ")").length = 1 := cl_len
          have lz' : (Str.ofString (toString (2 + z))).length ≤ 31 := lz
          show (Str.ofString ")").length + (Str.ofString (toString (2 + z))).length ≤ sizeLine
          exact size64 (by omega)
        refine ⟨r2, p3, _, _, rfl, rfl, (Ex.new np3) _ _ (e6 _ _ hr2), upd_same, ?_, fun r3 nr3 => ?_⟩
        · rw [List.length_append, List.length_append, List.length_map, List.length_singleton, List.length_map, wl_len, wl_len]
          exact size64' (by rw [List.length_singleton]; omega)
        have ew : g.wl.map V.str ++ [V.str (Str.ofString "(")] ++ x.wl.map V.str ++ [V.str (Str.ofString ")" ++ Str.ofString (toString (2 + z)))] = (g.app (.rp (2 + z) x .nil)).wl.map V.str := by
          rw [wl_app, wl_rp]
          simp [Pg.wl, Pg.toks]
          exact ⟨rfl, rfl⟩
        rw [ew]
        have y3 := ((y2.trans e6).add (o := .lst [V.str (Str.ofString ")" ++ Str.ofString (toString (2 + z)))]) np3).add (o := .lst ((g.app (.rp (2 + z) x .nil)).wl.map V.str)) nr3
        have hr3 : (upd (upd H6 p3 (.lst [V.str (Str.ofString ")" ++ Str.ofString (toString (2 + z)))])) r3 (.lst ((g.app (.rp (2 + z) x .nil)).wl.map V.str))) r3 = some (.lst ((g.app (.rp (2 + z) x .nil)).wl.map V.str)) := upd_same
        have nr3' : H r3 = none := by
          have := ((y2.trans e6).add (o := .lst [V.str (Str.ofString ")" ++ Str.ofString (toString (2 + z)))]) np3).back nr3
          exact e24.back this
        generalize upd (upd H6 p3 (.lst [V.str (Str.ofString ")" ++ Str.ofString (toString (2 + z)))])) r3 (.lst ((g.app (.rp (2 + z) x .nil)).wl.map V.str)) = H7 at y3 hr3 ⊢
        have hp7 := y3 _ _ hp
        have e07 := e24.trans y3
        refine ⟨.int left, rfl, .ref p, rfl, p, rfl, ⟨_, SqL.of hp7⟩, fun D hD => lc_list (xs := x.wl.map V.str) (fun i H8 => Ex H7 H8 ∧ H8 D = some (.lst ((((x.toks.take i).filter Tk.isSc).map Tk.wd).map V.str))) ⟨Ex.new hD, upd_same⟩ (fun i H8 _ z => SqL.of (z.1 _ _ hp7)) (fun i v H8 hx z => ?_) (fun H8 z => ?_)⟩
        · obtain ⟨e8, hd⟩ := z
          rw [Pg.wl, List.map_map, List.getElem?_map] at hx
          obtain ⟨tk, gtk, rfl⟩ := Option.map_eq_some_iff.mp hx
          have tok := toks_ok dx.ok tk (List.mem_of_getElem? gtk)
          obtain ⟨c1, r1, ec, hs⟩ := wd_head tok
          have lw := (wd_len tok (k := 31) (by decide) (by decide +kernel)).2
          have fs : (x.toks.take (i + 1)).filter Tk.isSc = (x.toks.take i).filter Tk.isSc ++ if Tk.isSc tk = true then [tk] else [] := by
            rw [List.take_add_one, gtk, List.filter_append]
            congr 1
            show [tk].filter _ = _
            rw [List.filter_cons]
            rfl
          refine ⟨rfl, _, rfl, tk.wd, 0, c1, rfl, rfl, size64 (by omega), ?_, c1, _, rfl, rfl, _, rfl, ?_⟩
          · show atI (tl tk.wd) 0 = some c1
            rw [ec]
            exact atI_nat (xs := c1 :: r1) (j := 0) rfl
          rw [sign40]
          show if (!decide (c1 ∈ [40, 41])) = true then _ else _
          rw [hs]
          refine ite2 (fun e => ?_) (fun e => ?_)
          · rw [if_pos e] at fs
            refine ⟨_, rfl, _, hd, ?_, e8.mut hD, ?_⟩
            · rw [List.length_map, List.length_map]
              have := List.length_filter_le Tk.isSc (x.toks.take i)
              have := List.length_take_le' i x.toks
              exact small20 (by omega)
            · rw [upd_same, fs, List.map_append, List.map_append]
              rfl
          · rw [if_neg e, List.append_nil] at fs
            refine ⟨e8, ?_⟩
            rw [fs]
            exact hd
        obtain ⟨e8, hd⟩ := z
        rw [List.length_map, wl_len, List.take_length] at hd
        refine ⟨D, _, rfl, .inl (SqL.of hd), _, _, rfl, rfl, ?_⟩
        rw [List.length_map, List.length_map, isSc_len]
        refine ⟨r3, g.app (.rp (2 + z) x .nil), _, some (.ref p), _, ?_, rfl, nr3', e07.trans e8, e8 _ _ hr3, ok.app ⟨by omega, zn, fun h => by have := dx.one; rw [h] at this; exact absurd this (by decide), dx.ok, trivial⟩, ?_, ?_, ?_, ?_⟩
        · have := dx.one
          omega
        · intro s hs
          rw [Pg.scs_app] at hs
          rcases List.mem_append.mp hs with hs | hs
          · exact lt s hs
          · have hs : s ∈ x.scs ++ [] := hs
            rw [List.append_nil] at hs
            exact dx.lt s hs
        · rw [Pg.dep_app]
          have := dx.dep
          show ((max g.dep (max (x.dep + 1) 0) : Nat) : Int) ≤ deep
          omega
        · rw [Pg.scs_app, List.length_append]
          show ((g.scs.length + (x.scs ++ []).length : Nat) : Int) + _ = _
          rw [List.append_nil]
          omega
        · have := dx.few
          omega
      case' refine_1.refine_2 =>
        have e2 := e2.trans e3
        have hb2 := e3 _ _ hb2
        have hc := e3 _ _ hc
        clear e3
        generalize H3 = H2 at *
      all_goals
        refine ⟨.ref c, rfl, .inl ⟨rfl, _, .inl (.inl hc)⟩, .ref b, rfl, .int wd, rfl, b, wd, rfl, hb2, w1, w2, fun s1 H5 s1o s1l e5 => ?_⟩
        have hc5 := e5 _ _ hc
        refine ⟨c, _, .str (scw s1), rfl, rfl, hc5, ?_, ?_⟩
        · rw [List.length_map, wl_len]
          exact small20 (by omega)
        refine ⟨_, rfl, _, _, rfl, rfl, c, g.app (.sc s1 .nil), left - 1, y7, y8, by omega, rfl, nc, (e2.trans e5).mut nc, ?_, ok.app ⟨s1o, trivial⟩, ?_, ?_, ?_, by omega⟩
        · rw [upd_same, wl_app, List.map_append]
          rfl
        · intro s hs
          rw [Pg.scs_app] at hs
          rcases List.mem_append.mp hs with hs | hs
          · exact lt s hs
          · have hs : s ∈ [s1] := hs
            rw [List.mem_singleton.mp hs]
            omega
        · rw [Pg.dep_app]
          show ((max g.dep 0 : Nat) : Int) ≤ deep
          omega
        · rw [Pg.scs_app, List.length_append]
          show ((g.scs.length + 1 : Nat) : Int) + _ = _
          omega
theorem ok_llen (B : Bt2 mg) (D_law_pair : Df P w K mg base "_law_pair" 1 ["word"] spLPair) {f : Addr} {fd : FuncData} (F : Fun K "_law_length" "_law_length" s_law_length f fd) : FnOk P w K mg base CX0 2 f fd ["words"] spLLen := by
  refine F.ok sc_law_length (fun vs H Q E h => ?_) (fun cdv A outer s H vs Q E hr h => ?_)
  · obtain ⟨a, g, rfl, _⟩ := h
    rfl
  · obtain ⟨a, g, rfl, ha, med, q⟩ := h
    refine ⟨_, (pss_cons (ps_set (i := 1) sc_law_length.nd rfl (by first | exact Or.inl rfl | exact Or.inr rfl) (pe_lst (pa_cons pe_int pa_nil)))
      (pss_cons (ps_for PassesOwn.never rfl (pi_list (pv 0)) (pg_name (i := 2) sc_law_length.nd rfl (by first | exact Or.inl rfl | exact Or.inr rfl)) (pss_one (ps_if (pt_cmpR op_eq (pv 2) pe_str (nomark _)) (pss_one (ps_expr (pe_bm PySem.F.plainAttrs_list PySem.F.slot_list_append PySem.F.type_list_append mt_append (pv 1) (pa_cons pe_int pa_nil)))) (pss_one (ps_if (pt_cmpR op_eq (pe_ix ix_str (pv 2) pe_int (fun _ _ => rfl)) pe_str (nomark _)) (pss_cons (ps_set (i := 3) sc_law_length.nd rfl (by first | exact Or.inl rfl | exact Or.inr rfl) (pe_bm0 PySem.F.plainAttrs_list PySem.F.slot_list_pop PySem.F.type_list_pop mt_pop (pv 1)))
      (pss_one (ps_asg (pe_op op_add (pe_ix ix_list (pv 1) (pe_un un_neg pe_int) (fun _ _ => rfl)) (pe_op op_mulW (pv 3) (pe_callTy call_int_str (by rfl) B.int bo_int (pa_cons (pe_slice sl_str (pv 2) (po_some pe_int) po_none) pa_nil)))) (pg_sub (pv 1) (pe_un un_neg pe_int) set_list)))) (pss_cons (ps_asg (pe_df D_law_pair hr (pa_cons (pv 2) pa_nil)) (pg_tup rfl (pgs_cons (pg_name (i := 4) sc_law_length.nd rfl (by first | exact Or.inl rfl | exact Or.inr rfl)) (pgs_cons (pg_name (i := 5) sc_law_length.nd rfl (by first | exact Or.inl rfl | exact Or.inr rfl)) pgs_nil))))
      (pss_one (ps_asg (pe_op op_add (pe_op op_add (pe_ix ix_list (pv 1) (pe_un un_neg pe_int) (fun _ _ => rfl)) (pe_callB call_abs (by rfl) B.abs bo_abs (pa_cons (pe_op op_sub (pv 5) (pv 4)) pa_nil))) pe_int) (pg_sub (pv 1) (pe_un un_neg pe_int) set_list)))))))))
      (pss_one (ps_ret (pe_ix ix_list (pv 1) pe_int (fun _ _ => rfl)))))), ?_⟩
    refine ⟨by show 1 ≤ sizeLine; decide, fun p np => ?_⟩
    have e0 := Ex.new (o := .lst [V.int 0]) np
    have whole := run_toks (D := 12) (M := 100000) g .nil [] 0 med.ok (by have := med.dep; simp; omega) (by have := med.scs; omega)
    have ltk := med.few
    refine ⟨.ref a, rfl, a, rfl, ⟨_, SqL.of (e0 _ _ ha)⟩, for_list (xs := g.wl.map V.str) (fun i σ H1 => ∃ st m y2 y3 y4 y5, σ = [some (.ref a), some (.ref p), y2, y3, y4, y5] ∧ Ex H H1 ∧ run 12 100000 (g.toks.take i) ([.nil], 0) = some (st, m) ∧ H1 p = some (.lst (st.map fun g => V.int g.cnt).reverse) ∧ Dp0 12 st ∧ (∀ x ∈ st, x.Ok (10 ^ 63)) ∧ scss st ≤ m ∧ m ≤ 100000)
      ⟨[.nil], 0, none, none, none, none, rfl, e0, rfl, upd_same, ⟨by decide, trivial⟩, fun x hx => (by rw [List.mem_singleton.mp hx]; trivial), Nat.le_refl _, by decide⟩ (fun i σ H1 _ z => ?_) (fun i x σ H1 hx z => ?_) (fun σ H1 z => ?_)⟩
    · obtain ⟨_, _, _, _, _, _, _, e1, _⟩ := z
      exact SqL.of (e1 _ _ ha)
    · obtain ⟨st, m, y2, y3, y4, y5, rfl, e1, hrun, hp, hD, hO, hS, hm⟩ := z
      rw [Pg.wl, List.map_map, List.getElem?_map] at hx
      obtain ⟨tk, gtk, rfl⟩ := Option.map_eq_some_iff.mp hx
      obtain ⟨⟨v1, v2⟩, hs', hrun'⟩ := run_at whole gtk hrun
      have tok := toks_ok med.ok tk (List.mem_of_getElem? gtk)
      obtain ⟨hD', _, hO', hS', hm'⟩ := step_inv hs' tok hD hO hS
      have hm' := hm' hm
      obtain ⟨c1, r1, ec, hsg⟩ := wd_head tok
      have lw := (wd_len tok (k := 64) (by decide) (by decide +kernel)).2
      have lst : st.length ≤ 12 := by
        cases st with
        | nil => exact Nat.zero_le _
        | cons x r => have := hD.1; rw [List.length_cons]; omega
      have a0 : atI tk.wd.cps.toList 0 = some c1 := by
        show atI (tl tk.wd) 0 = some c1
        rw [ec]
        exact atI_nat (xs := c1 :: r1) (j := 0) rfl
      cases tk with
      | op =>
        obtain ⟨l5, e⟩ := step_op hs'
        cases e
        refine ⟨_, rfl, rfl, _, rfl, ?_⟩
        rw [decide_eq_true (show (V.str ∘ Tk.wd) Tk.op = V.str (Str.ofString "(") from rfl)]
        refine iteT ⟨.ref p, rfl, .inl ⟨rfl, _, .inl (.inl hp)⟩, p, _, .int 0, rfl, rfl, hp, ?_, ?_⟩
        · rw [List.length_reverse, List.length_map]
          exact small20 (by omega)
        · refine ⟨_, m, some (.str opW), y3, y4, y5, rfl, e1.mut np, hrun', ?_, hD', hO', hS', hm'⟩
          rw [upd_same, cntV_rev]
          rfl
      | cl n =>
        obtain ⟨b, c, r, rfl, bn, e⟩ := step_cl hs'
        cases e
        have tok : 2 ≤ n ∧ n ≤ 10 ^ 63 := tok
        have g600 : (10 : Int) ^ 63 < 10 ^ 600 := by decide +kernel
        have g400 : (10 : Int) ^ 63 < 2 ^ 400 := by decide +kernel
        have lw : (clW ++ nw n).length ≤ 129 := lw
        have ln := nw_len (show 0 ≤ n by omega) (k := 64) (by decide) (Int.lt_of_le_of_lt tok.2 (by decide +kernel))
        have ec1 : c1 = 41 := by
          have z : tl (clW ++ nw n) = c1 :: r1 := ec
          rw [tl_append, tl_cl] at z
          cases z
          rfl
        subst ec1
        rw [cntV_rev] at hp
        refine ⟨_, rfl, rfl, _, rfl, ?_⟩
        rw [decide_eq_false (show ¬ (V.str ∘ Tk.wd) (Tk.cl n) = V.str (Str.ofString "(") from fun e => cl_ne_op n (V.str.inj e))]
        refine iteF ⟨_, rfl, clW ++ nw n, 0, 41, rfl, rfl, size64 (by omega), a0, rfl, _, rfl, ?_⟩
        rw [decide_eq_true (show V.str ⟨#[41]⟩ = V.str (Str.ofString ")") from congrArg V.str cl_eq.symm)]
        refine iteT ⟨.ref p, rfl, .inl ⟨rfl, _, .inl (.inl hp)⟩, p, _, .int b.cnt, rfl, rfl, hp, ?_, ?_⟩
        · rw [List.length_append, List.length_singleton, Nat.add_sub_cancel, List.getElem?_append_right (Nat.le_refl _), Nat.sub_self]
          rfl
        rw [List.dropLast_concat, cntV_rev]
        have hp2 : (upd H1 p (.lst ((r.map fun g => V.int g.cnt).reverse ++ [V.int c.cnt]))) p = some (.lst ((r.map fun g => V.int g.cnt).reverse ++ [V.int c.cnt])) := upd_same
        have e02 : Ex H (upd H1 p (.lst ((r.map fun g => V.int g.cnt).reverse ++ [V.int c.cnt]))) := e1.mut np
        generalize upd H1 p (.lst ((r.map fun g => V.int g.cnt).reverse ++ [V.int c.cnt])) = H2 at hp2 e02 ⊢
        have okb := hO b List.mem_cons_self
        have sb : b.scs.length + (c.scs.length + scss r) ≤ m := hS
        have db := hD.1
        obtain ⟨q0, q1⟩ := cnt_bits (d := 12) bb63 okb (by rw [List.length_cons] at db; omega) (by omega)
        refine ⟨.ref p, rfl, 1, rfl, p, _, -1, .int c.cnt, rfl, rfl, SqL.of hp2, atI_last _ _, .int b.cnt, rfl, _, rfl, 1, rfl, clW ++ nw n, rfl, size64 (by omega), nw n, n, ?_, nw_int (by omega) (by omega), by omega, ?_⟩
        · rw [cut_cl]
        refine ⟨b.cnt, n, rfl, rfl, wide_mul (abs_lt q0 q1) (abs_lt (show 0 ≤ n by omega) (show n < 2 ^ 400 by omega)) (by decide) (by decide) (by decide), _, _, rfl, rfl, ?_⟩
        refine ⟨.ref p, rfl, 1, rfl, p, _, _, _, rfl, rfl, hp2, ix_last _ _, ?_⟩
        rw [set_last]
        refine ⟨_, m, some (.str (clW ++ nw n)), some (.int b.cnt), y4, y5, rfl, e02.mut np, hrun', ?_, hD', hO', hS', hm'⟩
        rw [upd_same, cntV_rev, Pg.cnt_app]
        show some (HO.lst (_ ++ [V.int (c.cnt + b.cnt * n)])) = some (HO.lst (_ ++ [V.int (c.cnt + (n * b.cnt + 0))]))
        rw [Int.add_zero, Int.mul_comm]
      | sc s1 =>
        obtain ⟨b, r, rfl, m40, e⟩ := step_sc hs'
        cases e
        have tok : SOk (10 ^ 63) s1 := tok
        have lw : (scw s1).length ≤ 129 := lw
        have ec1 : ¬ c1 = 41 := fun e => by
          have h : (!decide (c1 ∈ [40, 41])) = true := hsg
          rw [e] at h
          revert h
          decide
        rw [cntV_rev] at hp
        refine ⟨_, rfl, rfl, _, rfl, ?_⟩
        rw [decide_eq_false (show ¬ (V.str ∘ Tk.wd) (Tk.sc s1) = V.str (Str.ofString "(") from fun e => sc_ne_op tok (V.str.inj e))]
        refine iteF ⟨_, rfl, scw s1, 0, c1, rfl, rfl, size64 (by omega), a0, rfl, _, rfl, ?_⟩
        rw [decide_eq_false (show ¬ V.str ⟨#[c1]⟩ = V.str (Str.ofString ")") from fun e => ec1 (by
          have e2 := (V.str.inj e).trans cl_eq
          have e3 : tl (⟨#[c1]⟩ : Str) = tl (⟨#[41]⟩ : Str) := by rw [e2]
          cases e3
          rfl))]
        refine iteF ⟨_, rfl, s1, rfl, tok, fun t H2 nt e2 ht => ?_⟩
        have hp2 := e2 _ _ hp
        refine ⟨t, _, rfl, SqT.of ht, rfl, _, _, rfl, _, _, rfl, rfl, ?_⟩
        refine ⟨.ref p, rfl, 1, rfl, p, _, -1, .int b.cnt, rfl, rfl, SqL.of hp2, atI_last _ _, .int s1.2, rfl, .int s1.1, rfl, _, _, rfl, rfl, _, rfl, _, _, rfl, rfl, _, _, rfl, rfl, ?_⟩
        refine ⟨.ref p, rfl, 1, rfl, p, _, _, _, rfl, rfl, hp2, ix_last _ _, ?_⟩
        rw [set_last]
        refine ⟨_, m + 1, some (.str (scw s1)), y3, some (.int s1.1), some (.int s1.2), rfl, (e1.trans e2).mut np, hrun', ?_, hD', hO', hS', hm'⟩
        rw [upd_same, cntV_rev, Pg.cnt_app]
        show some (HO.lst (_ ++ [V.int (b.cnt + (if s1.2 - s1.1 < 0 then -(s1.2 - s1.1) else s1.2 - s1.1) + 1)])) = some (HO.lst (_ ++ [V.int (b.cnt + (slen s1 + 0))]))
        unfold slen
        rw [Int.add_zero, Int.add_assoc]
    · obtain ⟨st, m, y2, y3, y4, y5, rfl, e1, hrun, hp, hD, hO, hS, hm⟩ := z
      rw [show (g.wl.map V.str).length = g.toks.length by rw [List.length_map, wl_len], List.take_length, whole] at hrun
      cases hrun
      exact ⟨.ref p, rfl, p, _, 0, _, rfl, rfl, SqL.of hp, rfl, q H1 e1⟩
end
end Kb

namespace Kb
open PySem PySem.Spec PyProof.Rows L2 StX TL
abbrev s_law_made : Stmt := topS 90
theorem sc_law_made : FnScope ["bag", "most", "deep", "wide", "high", "way", "words", "one", "many", "two", "others"] ["bag", "most", "deep", "wide", "high"] (defScope s_law_made) := ⟨rfl, rfl, rfl, by decide +kernel, rfl, by decide +kernel, by decide +kernel⟩
/-- a program and its words, as the law makes them -/
structure Mdd (most : Int) (deep : Int) (g : Pg) : Prop where
  ok : g.Ok (10 ^ 30)
  dep : (g.dep : Int) ≤ deep
  few : (g.scs.length : Int) ≤ max 1 most
  one : g ≠ .nil
def spMadeO (C : Addr) (d : Nat) : Sp := fun vs H Q _ => ∃ (b : Addr) (most deep wide high : Int), vs = [.ref b, .int most, .int deep, .int wide, .int high] ∧ H b = some (bagO b) ∧ most ≤ 40 ∧ 0 ≤ deep ∧ deep < d ∧ d ≤ 6 ∧ 1 ≤ wide ∧ wide ≤ 10 ^ 30 ∧ 1 ≤ high ∧ high + 1 ≤ 10 ^ 30 ∧
  ∀ t H' x a g, Ex H H' → H' t = some (.tup [.ref x, .ref a]) → PgAt C H' x g → H' a = some (.lst (g.wl.map V.str)) → Mdd most deep g → Q (.ref t) H'
section
variable {P : Program} {w : World} {K : PySem.W.Frag} {mg : Str → Option Value} {base : Heap}
theorem ok_madeO {C : Addr} (B : Bt2 mg) (hsf_pg : PySem.W.selfFirst K C = true) (hrm_pg : PySem.W.findIn K (.ref C) "__rmul__" = some none) (hi1 : PySem.W.findIn K (.type "int") "__mul__" = some (some (.builtin "int.__mul__"))) (hi2 : PySem.W.findIn K (.type "int") "__rmul__" = some (some (.builtin "int.__rmul__"))) (hisub_pg : PySem.W.subIn K (.type "int") (.ref C) = some false)
    (DProgram : DMk P w K mg base "Program" C 5 ["self", "text"] (spInitPg C)) (Dm_pg___add__ : DMt P w K mg base C "__add__" 8 ["self", "other"] (spAddPg C)) (Dm_pg___mul__ : DMt P w K mg base C "__mul__" 8 ["self", "times"] (spMulPg C)) (Dm_pg___invert__ : DMt P w K mg base C "__invert__" 15 ["self"] (spInvPg C))
    (D_law_pick : Df P w K mg base "_law_pick" 1 ["bag", "many"] spPick) (D_law_words : Df P w K mg base "_law_words" 9 ["bag", "most", "deep", "wide", "high"] (spLWords 6))
    {f : Addr} {fd : FuncData} (F : Fun K "_law_made" "_law_made" s_law_made f fd)
    (mk : ∀ {k : Nat} {sp : Sp}, FnOk P w K mg base CX0 k f fd ["bag", "most", "deep", "wide", "high"] sp → Df P w K mg base "_law_made" k ["bag", "most", "deep", "wide", "high"] sp) : ∀ d : Nat, FnOk P w K mg base CX0 (d + 17) f fd ["bag", "most", "deep", "wide", "high"] (spMadeO C d)
  | 0 => ⟨fun vs H Q E h => by obtain ⟨b, m, dp, wd, hh, rfl, _⟩ := h; rfl, fun A outer s H args us vs Q E _ _ _ _ h => by obtain ⟨b, m, dp, wd, hh, rfl, _, _, h0, h1, _⟩ := h; omega⟩
  | d + 1 => by
    have D_law_made := mk (ok_madeO B hsf_pg hrm_pg hi1 hi2 hisub_pg DProgram Dm_pg___add__ Dm_pg___mul__ Dm_pg___invert__ D_law_pick D_law_words F mk d)
    refine F.ok sc_law_made (fun vs H Q E h => ?_) (fun cdv A outer s H vs Q E hr h => ?_)
    · obtain ⟨b, m, dp, wd, hh, rfl, _⟩ := h
      rfl
    · obtain ⟨b, most, deep, wd, hh, rfl, hb, m2, d0, d1, d10, w1, w2, h1, h2, q⟩ := h
      refine ⟨_, (pss_cons (ps_set (i := 5) sc_law_made.nd rfl (by first | exact Or.inl rfl | exact Or.inr rfl) (pe_df D_law_pick hr (pa_cons (pv 0) (pa_cons pe_int pa_nil)) (hk := by omega)))
      (pss_cons (ps_if (pw_or (pt_cmpR op_eq (pv 2) pe_int (nomark _)) (pw_or (pt_cmpR op_lt (pv 1) pe_int (nomark _)) (pw_or1 (pt_cmpR op_eq (pv 5) pe_int (nomark _))))).pt (pss_cons (ps_set (i := 6) sc_law_made.nd rfl (by first | exact Or.inl rfl | exact Or.inr rfl) (pe_df D_law_words hr (pa_cons (pv 0) (pa_cons (pe_callB (call_max2 rfl) (by rfl) B.max bo_max (pa_cons pe_int (pa_cons (pv 1) pa_nil))) (pa_cons pe_int (pa_cons (pv 3) (pa_cons (pv 4) pa_nil))))) (hk := by omega)))
      (pss_one (ps_ret (pe_tup (pa_cons (pe_mk DProgram hr (pa_cons (pe_join pe_str (pv 6)) pa_nil) (hk := by omega)) (pa_cons (pv 6) pa_nil)))))) pss_nil)
      (pss_cons (ps_if (pt_cmpR op_eq (pv 5) pe_int (nomark _)) (pss_cons (ps_asg (pe_df D_law_made hr (pa_cons (pv 0) (pa_cons (pv 1) (pa_cons (pe_op op_sub (pv 2) pe_int) (pa_cons (pv 3) (pa_cons (pv 4) pa_nil))))) (hk := by omega)) (pg_tup rfl (pgs_cons (pg_name (i := 7) sc_law_made.nd rfl (by first | exact Or.inl rfl | exact Or.inr rfl)) (pgs_cons (pg_name (i := 6) sc_law_made.nd rfl (by first | exact Or.inl rfl | exact Or.inr rfl)) pgs_nil))))
      (pss_cons (ps_set (i := 8) sc_law_made.nd rfl (by first | exact Or.inl rfl | exact Or.inr rfl) (pe_op op_add pe_int (pe_df D_law_pick hr (pa_cons (pv 0) (pa_cons (pv 4) pa_nil)) (hk := by omega))))
      (pss_one (ps_ret (pe_tup (pa_cons (pe_op (op_ownMul (k := 8) (k' := 17) Dm_pg___mul__ hsf_pg hrm_pg hi1 hi2 hisub_pg (hr.mono (by omega))) (pv 7) (pv 8)) (pa_cons (pe_op op_cat (pe_op op_cat (pe_lst (pa_cons pe_str pa_nil)) (pv 6)) (pe_lst (pa_cons (pe_op op_add_str pe_str (pe_callTy call_str_int (by rfl) B.str bo_str (pa_cons (pv 8) pa_nil))) pa_nil))) pa_nil))))))) pss_nil)
      (pss_cons (ps_asg (pe_df D_law_made hr (pa_cons (pv 0) (pa_cons (pe_op op_fdiv (pv 1) pe_int) (pa_cons (pe_op op_sub (pv 2) pe_int) (pa_cons (pv 3) (pa_cons (pv 4) pa_nil))))) (hk := by omega)) (pg_tup rfl (pgs_cons (pg_name (i := 7) sc_law_made.nd rfl (by first | exact Or.inl rfl | exact Or.inr rfl)) (pgs_cons (pg_name (i := 6) sc_law_made.nd rfl (by first | exact Or.inl rfl | exact Or.inr rfl)) pgs_nil))))
      (pss_cons (ps_asg (pe_df D_law_made hr (pa_cons (pv 0) (pa_cons (pe_op op_fdiv (pv 1) pe_int) (pa_cons (pe_op op_sub (pv 2) pe_int) (pa_cons (pv 3) (pa_cons (pv 4) pa_nil))))) (hk := by omega)) (pg_tup rfl (pgs_cons (pg_name (i := 9) sc_law_made.nd rfl (by first | exact Or.inl rfl | exact Or.inr rfl)) (pgs_cons (pg_name (i := 10) sc_law_made.nd rfl (by first | exact Or.inl rfl | exact Or.inr rfl)) pgs_nil))))
      (pss_cons (ps_if (pt_cmpR op_eq (pv 5) pe_int (nomark _)) (pss_one (ps_ret (pe_tup (pa_cons (pe_op (op_ownAdd (k := 8) (k' := 17) Dm_pg___add__ hsf_pg (hr.mono (by omega))) (pv 7) (pv 9)) (pa_cons (pe_op op_cat (pv 6) (pv 10)) pa_nil))))) pss_nil)
      (pss_one (ps_ret (pe_tup (pa_cons (pe_un (un_ownInv (k := 15) (k' := 17) Dm_pg___invert__ (hr.mono (by omega))) (pe_op (op_ownAdd (k := 8) (k' := 17) Dm_pg___add__ hsf_pg (hr.mono (by omega))) (pe_un (un_ownInv (k := 15) (k' := 17) Dm_pg___invert__ (hr.mono (by omega))) (pv 9)) (pe_un (un_ownInv (k := 15) (k' := 17) Dm_pg___invert__ (hr.mono (by omega))) (pv 7)))) (pa_cons (pe_op op_cat (pv 6) (pv 10)) pa_nil))))))))))), ?_⟩
      refine ⟨.ref b, rfl, b, 4, rfl, hb, by decide, by decide +kernel, fun n H1 n0 n1 e1 => ⟨_, rfl, rfl, _, rfl, ?_⟩⟩
      have hb1 := e1 _ _ hb
      have g100 : (10 : Int) ^ 30 ≤ 10 ^ 100 := by decide +kernel
      by_cases c : deep = 0 ∨ most < 2 ∨ n = 0
      case pos =>
        by_cases c1 : deep = 0
        case' pos =>
          rw [decide_eq_true (show V.int deep = V.int 0 from congrArg V.int c1)]
          refine iteT (iteT ?_)
        case' neg =>
          rw [decide_eq_false (show ¬ V.int deep = V.int 0 from fun e => c1 (V.int.inj e))]
          refine iteF ⟨_, rfl, _, _, rfl, rfl, _, rfl, ?_⟩
          by_cases c2 : most < 2
          case' pos =>
            rw [decide_eq_true c2]
            refine iteT (iteT ?_)
          case' neg =>
            rw [decide_eq_false c2]
            refine iteF ⟨_, rfl, rfl, _, rfl, ?_⟩
            rw [decide_eq_true (show V.int n = V.int 0 from congrArg V.int (c.resolve_left c1 |>.resolve_left c2))]
            refine iteT ?_
        all_goals
          have mm : (if most > 1 then most else 1) = max 1 most := by
            rcases Int.lt_or_le 1 most with h | h
            · rw [if_pos (show most > 1 from h), Int.max_eq_right (by omega)]
            · rw [if_neg (show ¬ most > 1 by omega), Int.max_eq_left h]
          have m1 : 1 ≤ max 1 most := Int.le_max_left _ _
          have m40 : max 1 most ≤ 40 := Int.max_le.mpr ⟨by decide, m2⟩
          refine ⟨.ref b, rfl, .int most, rfl, 1, most, rfl, .int wd, rfl, .int hh, rfl, ?_⟩
          rw [mm]
          refine ⟨b, max 1 most, 0, wd, hh, rfl, hb1, m1, by omega, by decide, by decide, by decide, w1, w2, h1, h2, fun p H2 g np e2 hp dr => ?_⟩
          have lg : Lim g := ⟨dr.ok, by have := dr.dep; omega, by have := dr.few; omega⟩
          have bg := lg.big
          refine ⟨⟨_, rfl⟩, .ref p, rfl, spW, p, g.wl, rfl, rfl, .inl (SqL.of hp), by omega, fun x dx nx ndx ne => ?_⟩
          refine ⟨x, dx, g, rfl, upd_same, lg, fun H3 fr P3 => ⟨rfl, ?_⟩⟩
          have e3 := mk_ex nx ndx fr
          refine ⟨.ref p, rfl, by show 2 ≤ sizeLine; decide, fun t nt => ?_⟩
          have z1 := Ex.new (o := .tup [V.ref x, V.ref p]) nt
          exact q t _ x p g (((e1.trans e2).trans e3).trans z1) upd_same (P3.mono z1) (z1 _ _ (e3 _ _ hp)) ⟨dr.ok, by have := dr.dep; omega, dr.few, fun e => by
            have := dr.one
            rw [e] at this
            exact absurd this (by decide)⟩
      have c1 : ¬ deep = 0 := fun e => c (.inl e)
      have c2 : ¬ most < 2 := fun e => c (.inr (.inl e))
      have c3 : ¬ n = 0 := fun e => c (.inr (.inr e))
      rw [decide_eq_false (show ¬ V.int deep = V.int 0 from fun e => c1 (V.int.inj e))]
      refine iteF ⟨_, rfl, _, _, rfl, rfl, _, rfl, ?_⟩
      rw [decide_eq_false c2]
      refine iteF ⟨_, rfl, rfl, _, rfl, ?_⟩
      rw [decide_eq_false (show ¬ V.int n = V.int 0 from fun e => c3 (V.int.inj e))]
      refine iteF ?_
      refine ⟨_, rfl, rfl, _, rfl, ?_⟩
      by_cases w1' : n = 1
      · rw [decide_eq_true (show V.int n = V.int 1 from congrArg V.int w1')]
        refine iteT ⟨.ref b, rfl, .int most, rfl, .int deep, rfl, _, _, rfl, rfl, .int wd, rfl, .int hh, rfl, ?_⟩
        refine ⟨b, most, deep - 1, wd, hh, rfl, hb1, m2, by omega, by omega, by omega, w1, w2, h1, h2, fun t H2 x a g e2 ht Px ha md => ?_⟩
        refine ⟨t, _, rfl, SqT.of ht, rfl, _, _, rfl, _, _, rfl, rfl, ?_⟩
        refine ⟨.ref b, rfl, .int hh, rfl, b, hh, rfl, e2 _ _ hb1, h1, by omega, fun k H3 k0 k1 e3 => ⟨_, _, rfl, rfl, ?_⟩⟩
        have Px3 := Px.mono e3
        have ha3 := e3 _ _ ha
        obtain ⟨d1, t1, hx1, _⟩ := id Px3
        have n0 : 0 ≤ 2 + k := by omega
        have n1 : 2 + k ≤ 10 ^ 30 := by omega
        refine ⟨.ref x, rfl, .int (2 + k), rfl, x, d1, _, 2 + k, rfl, rfl, hx1, x, g, 2 + k, rfl, Px3, n0, n1, fun p H4 np e4 Pp => ⟨p, rfl, ?_⟩⟩
        have ha4 := e4 _ _ ha3
        refine ⟨by show 1 ≤ sizeLine; decide, fun c nc => ?_⟩
        have z1 := Ex.new (o := .lst [V.str (Str.ofString "(")]) nc
        have m40 : max 1 most ≤ 40 := Int.max_le.mpr ⟨by decide, m2⟩
        have tg : g.toks.length ≤ 13 * 40 := toks_dep md.ok (d := 6) (m := 40) (by have := md.dep; omega) (by have := md.few; omega)
        have lw : g.wl.length ≤ 100000 := by rw [wl_len]; omega
        have ln := nw_len n0 (k := 64) (by decide) (Int.lt_of_le_of_lt n1 (by decide +kernel))
        refine ⟨.ref a, rfl, c, a, [V.str (Str.ofString "(")], g.wl.map V.str, rfl, rfl, upd_same, z1 _ _ ha4, by rw [List.length_map, List.length_singleton, sizeLine_eq]; omega, fun e ne => ?_⟩
        have z2 := z1.trans (Ex.new (o := .lst ([V.str (Str.ofString "(")] ++ g.wl.map V.str)) ne)
        refine ⟨.int (2 + k), rfl, 2 + k, rfl, log_nw n0 (Int.lt_of_le_of_lt n1 (by decide +kernel)), Str.ofString ")", nw (2 + k), rfl, rfl, ?_, by show 1 ≤ sizeLine; decide, fun d nd => ?_⟩
        · have : (Str.ofString ")").length = 1 := cl_len
          rw [sizeLine_eq]
          omega
        have z3 := Ex.new (o := .lst [V.str (Str.ofString ")" ++ nw (2 + k))]) nd
        refine ⟨e, d, [V.str (Str.ofString "(")] ++ g.wl.map V.str, [V.str (Str.ofString ")" ++ nw (2 + k))], rfl, rfl, z3 _ _ upd_same, upd_same, ?_, fun l nl => ?_⟩
        · rw [List.length_append, List.length_map, List.length_singleton, List.length_singleton, sizeLine_eq]
          omega
        have z4 := Ex.new (o := .lst (([V.str (Str.ofString "(")] ++ g.wl.map V.str) ++ [V.str (Str.ofString ")" ++ nw (2 + k))])) nl
        refine ⟨by show 2 ≤ sizeLine; decide, fun u nu => ?_⟩
        have z5 := Ex.new (o := .tup [V.ref p, V.ref l]) nu
        have er : g.rep (2 + k) = .rp (2 + k) g .nil := (if_neg (by omega)).trans (if_neg (fun h => h.elim (by omega) md.one))
        rw [er] at Pp
        have zz := ((z2.trans z3).trans z4).trans z5
        refine q u _ p l _ ((((e1.trans e2).trans e3).trans e4).trans zz) upd_same (Pp.mono zz) (z5 _ _ ?_) ⟨⟨by omega, n1, md.one, md.ok, trivial⟩, ?_, ?_, fun h => by cases h⟩
        · rw [upd_same, wl_rp, List.map_cons, List.map_append]
          rfl
        · show ((max (g.dep + 1) 0 : Nat) : Int) ≤ deep
          have := md.dep
          omega
        · show (((g.scs ++ []).length : Nat) : Int) ≤ _
          rw [List.append_nil]
          exact md.few
      rw [decide_eq_false (show ¬ V.int n = V.int 1 from fun e => w1' (V.int.inj e))]
      refine iteF ?_
      have hm : 0 ≤ most / 2 ∧ most / 2 + most / 2 ≤ most ∧ 1 ≤ most / 2 := by omega
      refine ⟨.ref b, rfl, .int most, rfl, most, 2, rfl, rfl, (by first | decide | exact ⟨by decide, by decide⟩), .int deep, rfl, _, _, rfl, rfl, .int wd, rfl, .int hh, rfl, ?_⟩
      have mx1 : max 1 (most / 2) = most / 2 := Int.max_eq_right hm.2.2
      have mx2 : max 1 most = most := Int.max_eq_right (by omega)
      refine ⟨b, most / 2, deep - 1, wd, hh, rfl, hb1, by omega, by omega, by omega, by omega, w1, w2, h1, h2, fun t H2 x a g e2 ht Px ha mg' => ?_⟩
      refine ⟨t, _, rfl, SqT.of ht, rfl, _, _, rfl, _, _, rfl, rfl, ?_⟩
      refine ⟨.ref b, rfl, .int most, rfl, most, 2, rfl, rfl, (by first | decide | exact ⟨by decide, by decide⟩), .int deep, rfl, _, _, rfl, rfl, .int wd, rfl, .int hh, rfl, ?_⟩
      refine ⟨b, most / 2, deep - 1, wd, hh, rfl, e2 _ _ hb1, by omega, by omega, by omega, by omega, w1, w2, h1, h2, fun t' H3 y c' h e3 ht' Py hc md => ?_⟩
      refine ⟨t', _, rfl, SqT.of ht', rfl, _, _, rfl, _, _, rfl, rfl, ?_⟩
      have Px := Px.mono e3
      have ha := e3 _ _ ha
      have e13 := (e1.trans e2).trans e3
      clear ht ht' hb hb1
      have fg := mg'.few
      have fh := md.few
      rw [mx1] at fg fh
      have dg := mg'.dep
      have dh := md.dep
      have tg : g.toks.length ≤ 13 * 40 := toks_dep mg'.ok (d := 6) (m := 40) (by omega) (by omega)
      have th : h.toks.length ≤ 13 * 40 := toks_dep md.ok (d := 6) (m := 40) (by omega) (by omega)
      have gtg := Pg.len_toks g
      have gth := Pg.len_toks h
      have wg : g.wl.length = g.toks.length := wl_len g
      have wh : h.wl.length = h.toks.length := wl_len h
      have M : Mdd most deep (g.app h) := ⟨mg'.ok.app md.ok, by rw [Pg.dep_app]; omega, by rw [Pg.scs_app, List.length_append, mx2]; omega, fun e => by
        have : (g.app h).len = 0 := by rw [e]; rfl
        rw [Pg.len_app] at this
        exact mg'.one (Pg.len_zero (by omega))⟩
      obtain ⟨dx, tx, hx, _⟩ := id Px
      obtain ⟨dy, ty, hy, _⟩ := id Py
      refine ⟨_, rfl, rfl, _, rfl, ?_⟩
      by_cases w2' : n = 2
      · rw [decide_eq_true (show V.int n = V.int 2 from congrArg V.int w2')]
        refine iteT ⟨.ref x, rfl, .ref y, rfl, x, dx, _, y, dy, _, rfl, rfl, hx, hy, x, y, g, h, rfl, Px, Py, by omega, fun p H4 np e4 Pp => ⟨p, rfl, ?_⟩⟩
        refine ⟨.ref a, rfl, .ref c', rfl, a, c', _, _, rfl, rfl, e4 _ _ ha, e4 _ _ hc, by rw [List.length_map, List.length_map, sizeLine_eq]; omega, fun l nl => ⟨by show 2 ≤ sizeLine; decide, fun u nu => ?_⟩⟩
        have z1 := Ex.new (o := .lst (g.wl.map V.str ++ h.wl.map V.str)) nl
        have z2 := Ex.new (o := .tup [V.ref p, V.ref l]) nu
        refine q u _ p l _ ((e13.trans e4).trans (z1.trans z2)) upd_same (Pp.mono (z1.trans z2)) (z2 _ _ ?_) M
        rw [upd_same, wl_app, List.map_append]
      · rw [decide_eq_false (show ¬ V.int n = V.int 2 from fun e => w2' (V.int.inj e))]
        refine iteF ⟨.ref y, rfl, y, dy, _, rfl, hy, y, h, rfl, Py, by omega, by omega, fun p1 H4 n1 e4 P1 => ⟨p1, rfl, ?_⟩⟩
        obtain ⟨dx, tx, hx, _⟩ := Px.mono e4
        refine ⟨.ref x, rfl, x, dx, _, rfl, hx, x, g, rfl, Px.mono e4, by omega, by omega, fun p2 H5 n2 e5 P2 => ⟨p2, rfl, ?_⟩⟩
        obtain ⟨d1, t1, hp1, _⟩ := P1.mono e5
        obtain ⟨d2, t2, hp2, _⟩ := id P2
        have bl : h.back.len + g.back.len ≤ 2 ^ 18 := by rw [back_len, back_len]; omega
        refine ⟨p1, d1, _, p2, d2, _, rfl, rfl, hp1, hp2, p1, p2, h.back, g.back, rfl, P1.mono e5, P2, bl, fun p3 H6 n3 e6 P3 => ⟨p3, rfl, ?_⟩⟩
        obtain ⟨d3, t3, hp3, _⟩ := id P3
        have bd : (h.back.app g.back).dep < 12 := by rw [Pg.dep_app, Pg.back_dep, Pg.back_dep]; omega
        have bt : (h.back.app g.back).toks.length ≤ 2 ^ 18 := by rw [toks_app, List.length_append, Pg.back_toks, Pg.back_toks]; omega
        refine ⟨p3, d3, _, rfl, hp3, p3, _, rfl, P3, bd, bt, fun p H7 n4 e7 Pp => ⟨p, rfl, ?_⟩⟩
        rw [Pg.back_app, Pg.back_back, Pg.back_back] at Pp
        have e47 := ((e4.trans e5).trans e6).trans e7
        refine ⟨.ref a, rfl, .ref c', rfl, a, c', _, _, rfl, rfl, e47 _ _ ha, e47 _ _ hc, by rw [List.length_map, List.length_map, sizeLine_eq]; omega, fun l nl => ⟨by show 2 ≤ sizeLine; decide, fun u nu => ?_⟩⟩
        have z1 := Ex.new (o := .lst (g.wl.map V.str ++ h.wl.map V.str)) nl
        have z2 := Ex.new (o := .tup [V.ref p, V.ref l]) nu
        refine q u _ p l _ ((e13.trans e47).trans (z1.trans z2)) upd_same (Pp.mono (z1.trans z2)) (z2 _ _ ?_) M
        rw [upd_same, wl_app, List.map_append]
end
end Kb

namespace Kb
open PySem PySem.Spec PyProof.Rows L2 StX TL
abbrev s_law_right : Stmt := topS 91
theorem sc_law_right : FnScope ["told", "words", "text", "found", "one", "two"] ["told", "words"] (defScope s_law_right) := ⟨rfl, rfl, rfl, by decide +kernel, rfl, by decide +kernel, by decide +kernel⟩
def spRight64 (C : Addr) : Sp := fun vs H Q _ => ∃ (x a : Addr) (g : Pg), vs = [.ref x, .ref a] ∧ PgAt C H x g ∧ H a = some (.lst (g.wl.map V.str)) ∧ Lim g ∧ ∀ H', Ex H H' → Q (.bl true) H'
section
variable {P : Program} {w : World} {K : PySem.W.Frag} {mg : Str → Option Value} {base : Heap}
theorem ok_right64 {C_pg C_sm C_pf : Addr} (B : Bt2 mg) (nfC_pg : PySem.W.notFirst K C_pg (.ref C_pg) = true) (nfC_sm : PySem.W.notFirst K C_sm (.ref C_sm) = true) (nfC_pf : PySem.W.notFirst K C_pf (.ref C_pf) = true) (T_sm : Smx K C_sm)
    (DProgram : DMk P w K mg base "Program" C_pg 5 ["self", "text"] (spInitPg C_pg)) (Dm_pg___eq__ : DMt P w K mg base C_pg "__eq__" 1 ["self", "other"] (spEqPg K C_pg)) (Dp_pg_text : DPr P w K mg base C_pg "text" 16 (spTextP C_pg)) (Dp_pg_accesses : DPr P w K mg base C_pg "accesses" 15 (spAccPg C_pg))
    (Dm_sm___eq__ : DMt P w K mg base C_sm "__eq__" 4 ["self", "other"] (spEqSm K C_sm C_pf)) (Dp_sm_firsts : DPr P w K mg base C_sm "firsts" 1 (spFirstsP C_sm C_pf)) (Dp_sm_lasts : DPr P w K mg base C_sm "lasts" 1 (spLastsP C_sm C_pf)) (Dm_pf___eq__ : DMt P w K mg base C_pf "__eq__" 3 ["self", "other"] (spEqP K C_pf))
    (Dsummary_of : Df P w K mg base "summary_of" 19 ["program"] (spSumOf C_pg C_sm C_pf)) (Dwritten : Df P w K mg base "written" 17 ["program"] (spWritten C_pg)) (D_law_length : Df P w K mg base "_law_length" 2 ["words"] spLLen)
    {f : Addr} {fd : FuncData} (F : Fun K "_law_right" "_law_right" s_law_right f fd) : FnOk P w K mg base CX0 20 f fd ["told", "words"] (spRight64 C_pg) := by
  refine F.ok sc_law_right (fun vs H Q E h => ?_) (fun cdv A outer s H vs Q E hr h => ?_)
  · obtain ⟨x, a, g, rfl, _⟩ := h
    rfl
  · obtain ⟨x, a, g, rfl, Px, ha, lg, q⟩ := h
    refine ⟨_, (pss_cons (ps_set (i := 2) sc_law_right.nd rfl (by first | exact Or.inl rfl | exact Or.inr rfl) (pe_join pe_str (pv 1)))
      (pss_cons (ps_set (i := 3) sc_law_right.nd rfl (by first | exact Or.inl rfl | exact Or.inr rfl) (pe_mk DProgram hr (pa_cons (pv 2) pa_nil)))
      (pss_cons (ps_if (pw_or (pt_not (pt_cmpR (op_ownEq (k := 1) (k' := 19) Dm_pg___eq__ hr) (pv 0) (pv 3) (nomark _))) (pw_or (pt_cmpR op_ne (pe_pr Dp_pg_text hr (pv 0)) (pv 2) (nomark _)) (pw_or1 (pt_cmpR op_ne (pe_pr Dp_pg_accesses hr (pv 0)) (pe_df D_law_length hr (pa_cons (pv 1) pa_nil)) (nomark _))))).pt (pss_one (ps_ret pe_bl)) pss_nil)
      (pss_cons (ps_par (i := 4) (j := 5) rfl sc_law_right.nd rfl rfl (by decide) rfl rfl (pa_cons (pe_df Dsummary_of hr (pa_cons (pv 0) pa_nil)) (pa_cons (pe_df Dsummary_of hr (pa_cons (pv 3) pa_nil)) pa_nil)) (by rfl))
      (pss_cons (ps_if (pw_or (pt_not (pt_cmpR (op_ownEq (k := 4) (k' := 19) Dm_sm___eq__ hr) (pv 4) (pv 5) (nomark _))) (pw_or (pt_cmpR (op_neD hr.units) (pe_lst (pa_cons (pe_pr Dp_sm_firsts hr (pv 4)) (pa_cons (pe_pr Dp_sm_lasts hr (pv 4)) pa_nil))) (pe_lst (pa_cons (pe_pr Dp_sm_firsts hr (pv 5)) (pa_cons (pe_pr Dp_sm_lasts hr (pv 5)) pa_nil))) (nomark _)) (pw_or1 (pt_not (pt_cmpR (op_ownEq (k := 3) (k' := 19) Dm_pf___eq__ hr) (pe_fld (pv 4) rfl) (pe_fld (pv 5) rfl) (nomark _)))))).pt (pss_one (ps_ret pe_bl)) pss_nil)
      (pss_one (ps_ret (pe_or (pe_cmpR op_gt (pe_pr Dp_pg_accesses hr (pv 0)) pe_int (nomark _)) (pe_one (pe_cmpR (op_eqD hr.units) (pe_df Dwritten hr (pa_cons (pv 0) pa_nil)) (pe_df Dwritten hr (pa_cons (pv 3) pa_nil)) (nomark _))))))))))), ?_⟩
    have sp : Str.ofString " " = spW := rfl
    have bg := lg.big
    have med := lg.med
    have dg : g.dep ≤ 30 := by have := lg.dep; omega
    refine ⟨⟨_, rfl⟩, .ref a, rfl, spW, a, g.wl, rfl, rfl, .inl (SqL.of ha), by omega, _, rfl, fun y dy ny ndy ney => ?_⟩
    refine ⟨y, dy, g, rfl, upd_same, lg, fun H1 fr Py => ⟨rfl, ?_⟩⟩
    have e1 := mk_ex ny ndy fr
    have Px1 := Px.mono e1
    obtain ⟨dx, tx, hx, _⟩ := id Px1
    obtain ⟨dy, ty, hy, _⟩ := id Py
    refine ⟨.ref x, rfl, .ref y, rfl, x, dx, _, .ref C_pg, rfl, hx, .ins hy, nfC_pg, x, g, .ref y, rfl, Px1, dg, .inl ⟨y, g, rfl, Py, dg, fun H2 e2 => ⟨_, rfl, ?_⟩⟩⟩
    rw [decide_eq_true rfl]
    refine ⟨_, rfl, iteF ?_⟩
    have Px2 := Px1.mono e2
    obtain ⟨dx, tx, hx, _⟩ := id Px2
    refine ⟨.ref x, rfl, x, dx, _, rfl, hx, x, g, rfl, Px2, med, fun H3 e3 => ⟨_, rfl, rfl, _, rfl, ne_refl rfl ?_⟩⟩
    have Px3 := Px2.mono e3
    obtain ⟨dx, tx, hx, _⟩ := id Px3
    have e13 := (e1.trans e2).trans e3
    refine ⟨.ref x, rfl, x, dx, _, rfl, hx, x, g, rfl, Px3, med, fun H4 e4 => ⟨.ref a, rfl, a, g, rfl, e4 _ _ (e13 _ _ ha), med, fun H5 e5 => ⟨rfl, _, rfl, ne_refl rfl ?_⟩⟩⟩
    have e45 := e4.trans e5
    have Px5 := Px3.mono e45
    have Py5 := ((Py.mono e2).mono e3).mono e45
    refine ⟨.ref x, rfl, x, g, rfl, Px5, lg, fun y1 H6 n6 e6 S1 => ⟨.ref y, rfl, y, g, rfl, Py5.mono e6, lg, fun y2 H7 n7 e7 S2 => ⟨_, _, rfl, ?_⟩⟩⟩
    have e15 := e13.trans e45
    have e67 := e6.trans e7
    have S1 := S1.mono e7
    have Px7 := Px5.mono e67
    have Py7 := Py5.mono e67
    obtain ⟨⟨rs, A1, cx, bx, lx, _, ax⟩, _⟩ := id S1
    obtain ⟨⟨qs, A2, cy, by', ly, _, ay⟩, _⟩ := id S2
    have ers : qs = rs := Can.unique cy cx fun d => by rw [ax, ay]
    subst ers
    obtain ⟨d1, f1, l1, q1, h1, _, _, hq1⟩ := id A1
    obtain ⟨d2, f2, l2, q2, h2, _, _, hq2⟩ := id A2
    refine ⟨.ref y1, rfl, .ref y2, rfl, y1, d1, _, .ref C_sm, rfl, h1, .ins h2, nfC_sm, y1, y2, g.rd, g.rd, rfl, S1, S2, fun b hb H8 e8 => ?_⟩
    obtain rfl := hb rfl
    refine ⟨_, rfl, _, rfl, iteF ?_⟩
    have B1 := A1.mono e8
    have B2 := A2.mono e8
    refine ⟨.ref y1, rfl, y1, d1, _, rfl, e8 _ _ h1, y1, _, _, _, _, rfl, B1, fun p1 H9 m9 e9 s1 => ?_⟩
    refine ⟨.ref y1, rfl, y1, d1, _, rfl, e9 _ _ (e8 _ _ h1), y1, _, _, _, _, rfl, B1.mono e9, fun p2 Ha ma ea s2 => ⟨by show 2 ≤ sizeLine; decide, fun k1 nk1 => ?_⟩⟩
    have z1 := Ex.new (o := .lst [V.ref p1, V.ref p2]) nk1
    have e8a := ((e8.trans e9).trans ea).trans z1
    refine ⟨.ref y2, rfl, y2, d2, _, rfl, e8a _ _ h2, y2, _, _, _, _, rfl, A2.mono e8a, fun p3 Hb mb eb s3 => ?_⟩
    refine ⟨.ref y2, rfl, y2, d2, _, rfl, eb _ _ (e8a _ _ h2), y2, _, _, _, _, rfl, (A2.mono e8a).mono eb, fun p4 Hc mc ec s4 => ⟨by show 2 ≤ sizeLine; decide, fun k2 nk2 => ?_⟩⟩
    have z2 := Ex.new (o := .lst [V.ref p3, V.ref p4]) nk2
    have ebc := (eb.trans ec).trans z2
    refine ⟨pdLF _ _, pdLF _ _, .lst (SqL.of (ebc _ _ upd_same)) (.cons (s1.mono ((ea.trans z1).trans ebc)).dp (.cons (s2.mono (z1.trans ebc)).dp .nil)), .lst (SqL.of upd_same) (.cons (s3.mono (ec.trans z2)).dp (.cons (s4.mono z2).dp .nil)), shaped_LF _ _, shaped_LF _ _, _, rfl, ?_⟩
    rw [eqv_LF, decide_eq_true ⟨rfl, rfl⟩]
    refine iteF ?_
    have e8c := e8a.trans ebc
    obtain ⟨dq1, lq1, hq1', _⟩ := hq1.mono e8c
    obtain ⟨dq2, lq2, hq2', _⟩ := hq2.mono e8c
    refine ⟨.ref y1, rfl, y1, C_sm, d1, _, _, rfl, e8c _ _ h1, T_sm.cl, T_sm.nP, smF_p _ _ _, .ref y2, rfl, y2, C_sm, d2, _, _, rfl, e8c _ _ h2, T_sm.cl, T_sm.nP, smF_p _ _ _, ?_⟩
    refine ⟨q1, dq1, _, .ref C_pf, rfl, hq1', .ins hq2', nfC_pf, q1, _, _, .ref q2, rfl, ⟨hq1.mono e8c, bx, cx, lx⟩, .inl ⟨q2, _, _, rfl, ⟨hq2.mono e8c, by', cy, ly⟩, fun Hd ed => ⟨_, rfl, ?_⟩⟩⟩
    rw [decide_eq_true ⟨rfl, rfl⟩]
    refine ⟨_, rfl, iteF ?_⟩
    have e7d := e8c.trans ed
    have Pxd := Px7.mono e7d
    obtain ⟨dx, tx, hx, _⟩ := id Pxd
    refine ⟨.ref x, rfl, x, dx, _, rfl, hx, x, g, rfl, Pxd, med, fun He ee => ⟨_, _, rfl, rfl, ?_⟩⟩
    have e1e := (e15.trans e67).trans (e7d.trans ee)
    refine ⟨_, rfl, ?_⟩
    by_cases big : 300 < g.cnt
    · rw [decide_eq_true big]
      exact iteT (q _ e1e)
    · rw [decide_eq_false big]
      have Pye := (Py7.mono e7d).mono ee
      refine iteF ⟨.ref x, rfl, x, g, rfl, Pxd.mono ee, med, by omega, fun p1 Hf nf ef g1 => ⟨.ref y, rfl, y, g, rfl, Pye.mono ef, med, by omega, fun p2 Hg ng eg g2 => ⟨pdI g.rd, pdI g.rd, dp_ints (eg _ _ g1), dp_ints g2, shaped_I _, shaped_I _, ?_⟩⟩⟩
      rw [eqv_I, decide_eq_true rfl]
      exact q _ ((e1e.trans ef).trans eg)
end
end Kb

namespace Kb
open PySem PySem.Spec PyProof.Rows L2 StX TL
abbrev slaw : Stmt := topS 92
theorem sclaw : FnScope ["script", "k", "cell", "bag", "turn", "wide", "high", "told", "words"] ["script"] (defScope slaw) := ⟨rfl, rfl, rfl, by decide +kernel, rfl, by decide +kernel, by decide +kernel⟩
section
variable {P : Program} {w : World} {K : PySem.W.Frag} {mg : Str → Option Value} {base : Heap}
theorem ok_law64 {C_pg : Addr} (B : Bt2 mg) (nfC_pg : PySem.W.notFirst K C_pg (.ref C_pg) = true) (hsf_pg : PySem.W.selfFirst K C_pg = true) (hrm_pg : PySem.W.findIn K (.ref C_pg) "__rmul__" = some none) (hi1 : PySem.W.findIn K (.type "int") "__mul__" = some (some (.builtin "int.__mul__"))) (hi2 : PySem.W.findIn K (.type "int") "__rmul__" = some (some (.builtin "int.__rmul__"))) (hisub_pg : PySem.W.subIn K (.type "int") (.ref C_pg) = some false)
    (DProgram : DMk P w K mg base "Program" C_pg 5 ["self", "text"] (spInitPg C_pg)) (Dm_pg___eq__ : DMt P w K mg base C_pg "__eq__" 1 ["self", "other"] (spEqPg K C_pg)) (Dm_pg___add__ : DMt P w K mg base C_pg "__add__" 8 ["self", "other"] (spAddPg C_pg)) (Dm_pg___mul__ : DMt P w K mg base C_pg "__mul__" 8 ["self", "times"] (spMulPg C_pg)) (Dp_pg_text : DPr P w K mg base C_pg "text" 16 (spTextP C_pg))
    (D_law_bag : Df P w K mg base "_law_bag" 1 ["cell"] spBag) (D_law_pick : Df P w K mg base "_law_pick" 1 ["bag", "many"] spPick) (D_law_made : Df P w K mg base "_law_made" 22 ["bag", "most", "deep", "wide", "high"] (spMadeO C_pg 5)) (D_law_right : Df P w K mg base "_law_right" 20 ["told", "words"] (spRight64 C_pg))
    {f : Addr} {fd : FuncData} (F : Fun K "law" "law" slaw f fd) : FnG P w K mg base 24 f fd ["script"] (spLaw K) := by
  refine okG F sclaw (fun vs H Q E h => ?_) (fun cdv A outer s H vs Q E hr hg h => ?_)
  · obtain ⟨a, ns, rfl, _⟩ := h
    rfl
  · obtain ⟨a, ns, rfl, hS, hlen, q⟩ := h
    refine ⟨_, (pss_cons (ps_for PassesOwn.never rfl (pi_enum (by rfl) B.enumerate (pa_cons (pe_op op_cat (pe_slice sl_list (pv 0) po_none (po_some pe_int)) (pe_lst (pa_cons pe_int pa_nil))) pa_nil)) (pg_tup rfl (pgs_cons (pg_name (i := 1) sclaw.nd rfl (by first | exact Or.inl rfl | exact Or.inr rfl)) (pgs_cons (pg_name (i := 2) sclaw.nd rfl (by first | exact Or.inl rfl | exact Or.inr rfl)) pgs_nil))) (pss_cons (ps_set (i := 3) sclaw.nd rfl (by first | exact Or.inl rfl | exact Or.inr rfl) (pe_df D_law_bag hr (pa_cons (pv 2) pa_nil)))
      (pss_one (ps_for PassesOwn.never rfl (pi_range1 (by rfl) B.range (pa_cons pe_int pa_nil)) (pg_name (i := 4) sclaw.nd rfl (by first | exact Or.inl rfl | exact Or.inr rfl)) (pss_cons (ps_asg (pe_ix ix_list (pe_lst (pa_cons (pe_tup (pa_cons pe_int (pa_cons pe_int pa_nil))) (pa_cons (pe_tup (pa_cons (pe_op op_pow pe_int pe_int) (pa_cons (pe_op op_sub (pe_op op_pow pe_int pe_int) pe_int) pa_nil))) pa_nil))) (pe_df D_law_pick hr (pa_cons (pv 3) (pa_cons pe_int pa_nil))) (fun _ _ => rfl)) (pg_tup rfl (pgs_cons (pg_name (i := 5) sclaw.nd rfl (by first | exact Or.inl rfl | exact Or.inr rfl)) (pgs_cons (pg_name (i := 6) sclaw.nd rfl (by first | exact Or.inl rfl | exact Or.inr rfl)) pgs_nil))))
      (pss_cons (ps_asg (pe_df D_law_made hr (pa_cons (pv 3) (pa_cons (pe_ix ix_list (pe_lst (pa_cons pe_int (pa_cons pe_int (pa_cons pe_int (pa_cons (pe_ix ix_list (pe_lst (pa_cons pe_int (pa_cons pe_int pa_nil))) (pe_callTy call_int1 (by rfl) B.int bo_int (pa_cons (pe_cmpR op_eq (pv 1) pe_int (nomark _)) pa_nil)) (fun _ _ => rfl)) pa_nil))))) (pv 4) (fun _ _ => rfl)) (pa_cons pe_int (pa_cons (pv 5) (pa_cons (pv 6) pa_nil)))))) (pg_tup rfl (pgs_cons (pg_name (i := 7) sclaw.nd rfl (by first | exact Or.inl rfl | exact Or.inr rfl)) (pgs_cons (pg_name (i := 8) sclaw.nd rfl (by first | exact Or.inl rfl | exact Or.inr rfl)) pgs_nil))))
      (pss_one (ps_if (pt_not (pt_val (pe_df D_law_right hr (pa_cons (pv 7) (pa_cons (pv 8) pa_nil))))) (pss_one (ps_ret pe_bl)) pss_nil))))))))
      (pss_one (ps_ret (pe_and (pe_cmpR (op_ownEq (k := 1) (k' := 23) Dm_pg___eq__ hr) (pe_op (op_ownAdd (k := 8) (k' := 23) Dm_pg___add__ hsf_pg hr) (pe_mk DProgram hr (pa_cons pe_str pa_nil)) (pe_mk DProgram hr (pa_cons pe_str pa_nil))) (pe_mk DProgram hr (pa_cons pe_str pa_nil)) (nomark _)) (pe_one (pe_cmpR op_eq (pe_pr Dp_pg_text hr (pe_op (op_ownMul (k := 8) (k' := 23) Dm_pg___mul__ hsf_pg hrm_pg hi1 hi2 hisub_pg hr) (pe_mk DProgram hr (pa_cons pe_str pa_nil)) pe_int)) pe_str (nomark _))))))), ?_⟩
    refine ⟨.ref a, rfl, 6, rfl, a, ns.map V.int, rfl, hS, fun c nc => ⟨by show 1 ≤ sizeLine; decide, fun d nd => ?_⟩⟩
    have lc : (cutV (ns.map V.int) none (some 6)).length ≤ 63 := by
      have := cutV_length (ns.map V.int) none (some 6)
      rw [List.length_map] at this
      omega
    refine ⟨c, d, _, _, rfl, rfl, Ex.new nd _ _ upd_same, upd_same, Nat.le_of_lt (small1000 (by rw [List.length_singleton]; omega)), fun e ne => ?_⟩
    have hcell : ∀ x ∈ cutV (ns.map V.int) none (some 6) ++ [V.int 0], ∃ z, x = V.int z := fun x hx => by
      rcases List.mem_append.mp hx with hx | hx
      · obtain ⟨z, _, rfl⟩ := List.mem_map.mp (List.mem_of_mem_drop (List.mem_of_mem_take hx))
        exact ⟨z, rfl⟩
      · exact ⟨0, List.mem_singleton.mp hx⟩
    generalize cutV (ns.map V.int) none (some 6) ++ [V.int 0] = cells at hcell ⊢
    generalize hH0 : upd (upd (upd H c _) d _) e (.lst cells) = H0
    have he : H0 e = some (.lst cells) := by
      rw [← hH0]
      exact upd_same
    refine ⟨e, _, rfl, SqL.of he, ?_⟩
    refine for_enum (xs := cells) (fun i σ H1 => ∃ y1 y2 y3 y4 y5 y6 y7 y8, σ = [some (.ref a), y1, y2, y3, y4, y5, y6, y7, y8] ∧ Ex H0 H1) ⟨none, none, none, none, none, none, none, none, rfl, Ex.refl _⟩ (fun i σ H1 _ p => ?_) (fun i x T σ H1 hx nT p => ?_) (fun σ H1 p => ?_)
    · obtain ⟨_, _, _, _, _, _, _, _, _, e1⟩ := p
      exact SqL.of (e1 _ _ he)
    · obtain ⟨y1, y2, y3, y4, y5, y6, y7, y8, rfl, e1⟩ := p
      obtain ⟨z, rfl⟩ := hcell x (List.mem_of_getElem? hx)
      have eT := Ex.new (o := .tup [V.int (i : Nat), V.int z]) nT
      refine ⟨T, _, rfl, SqT.of upd_same, rfl, _, _, rfl, _, _, rfl, rfl, ?_⟩
      have e1 := e1.trans eT
      generalize upd H1 T (.tup [V.int (i : Nat), V.int z]) = H1 at e1 ⊢
      refine ⟨.int z, rfl, z, rfl, fun b H2 nb e2 hb => ?_⟩
      refine ⟨4, rfl, by decide, by decide, for_range (lo := 0) (n := 4) (fun j σ H3 => ∃ y4 y5 y6 y7 y8, σ = [some (.ref a), some (.int (i : Nat)), some (.int z), some (.ref b), y4, y5, y6, y7, y8] ∧ Ex H2 H3) ⟨_, _, _, _, _, rfl, Ex.refl _⟩ (fun j σ H3 hj p => ?_) (fun σ H3 p => ?_)⟩
      · obtain ⟨y4, y5, y6, y7, y8, rfl, e3⟩ := p
        have hb3 := e3 _ _ hb
        refine ⟨by show 2 ≤ sizeLine; decide, fun t5 nt5 => ⟨10, 30, rfl, rfl, ⟨by decide, by decide, by decide⟩, 10, 30, rfl, rfl, ⟨by decide, by decide, by decide⟩, _, _, rfl, rfl, by show 2 ≤ sizeLine; decide, fun t6 nt6 => ⟨by show 2 ≤ sizeLine; decide, fun l2 nl2 => ?_⟩⟩⟩
        have z5 := Ex.new (o := .tup [V.int 12, V.int 3]) nt5
        have z6 := Ex.new (o := .tup [V.int ((10 : Int) ^ (30 : Int).toNat), V.int ((10 : Int) ^ (30 : Int).toNat - 2)]) nt6
        have z7 := Ex.new (o := .lst [V.ref t5, V.ref t6]) nl2
        have i5 := z7 _ _ (z6 _ _ (upd_same (H := H3) (a := t5) (o := .tup [V.int 12, V.int 3])))
        have i6 := z7 _ _ (upd_same (a := t6) (o := .tup [V.int ((10 : Int) ^ (30 : Int).toNat), V.int ((10 : Int) ^ (30 : Int).toNat - 2)]))
        have i7 := upd_same (H := upd (upd H3 t5 (.tup [V.int 12, V.int 3])) t6 (.tup [V.int ((10 : Int) ^ (30 : Int).toNat), V.int ((10 : Int) ^ (30 : Int).toNat - 2)])) (a := l2) (o := .lst [V.ref t5, V.ref t6])
        have z57 := (z5.trans z6).trans z7
        generalize upd (upd (upd H3 t5 (.tup [V.int 12, V.int 3])) t6 (.tup [V.int ((10 : Int) ^ (30 : Int).toNat), V.int ((10 : Int) ^ (30 : Int).toNat - 2)])) l2 (.lst [V.ref t5, V.ref t6]) = H5 at z57 i5 i6 i7 ⊢
        refine ⟨.ref b, rfl, b, 2, rfl, z57 _ _ hb3, by decide, by decide, fun n H6 n0 n1 e6 => ?_⟩
        obtain ⟨tk, wd, hh, am2, htk, w1, w2, h1, h2⟩ : ∃ (tk : Addr) (wd hh : Int), atI [V.ref t5, V.ref t6] n = some (.ref tk) ∧ H5 tk = some (.tup [.int wd, .int hh]) ∧ 1 ≤ wd ∧ wd ≤ 10 ^ 30 ∧ 1 ≤ hh ∧ hh + 1 ≤ 10 ^ 30 := by
          rcases (show n = 0 ∨ n = 1 by omega) with e | e
          · rw [e]
            exact ⟨t5, _, _, rfl, i5, by decide, by decide +kernel, by decide, by decide +kernel⟩
          · rw [e]
            exact ⟨t6, _, _, rfl, i6, by decide +kernel, by decide +kernel, by decide +kernel, by decide +kernel⟩
        refine ⟨l2, _, n, .ref tk, rfl, rfl, SqL.of (e6 _ _ i7), am2, ?_⟩
        refine ⟨tk, _, rfl, SqT.of (e6 _ _ htk), rfl, _, _, rfl, _, _, rfl, rfl, ?_⟩
        have e36 := z57.trans e6
        have hb6 := e36 _ _ hb3
        clear z5 z6 z7 i5 i6 i7 am2 htk
        refine ⟨.ref b, rfl, by show 2 ≤ sizeLine; decide, fun q1 nq1 => ⟨_, rfl, rfl, .inr ⟨_, rfl, ?_⟩⟩⟩
        have x1 := Ex.new (o := .lst [V.int 12, V.int 40]) nq1
        obtain ⟨m0, am0, mm0⟩ : ∃ m0 : Int, atI [V.int 12, V.int 40] (if decide (V.int (i : Nat) = V.int 0) = true then (1 : Int) else 0) = some (.int m0) ∧ m0 ≤ 40 := by
          split
          · exact ⟨40, rfl, by decide⟩
          · exact ⟨12, rfl, by decide⟩
        refine ⟨q1, _, _, .int m0, rfl, rfl, SqL.of upd_same, am0, by show 4 ≤ sizeLine; decide, fun q2 nq2 => ?_⟩
        have x2 := Ex.new (o := .lst [V.int 6, V.int 12, V.int 20, V.int m0]) nq2
        obtain ⟨m, am, mm⟩ : ∃ m : Int, atI [V.int 6, V.int 12, V.int 20, V.int m0] (0 + (j : Nat)) = some (.int m) ∧ m ≤ 40 := by
          rcases (show j = 0 ∨ j = 1 ∨ j = 2 ∨ j = 3 by omega) with e | e | e | e
          · rw [e]
            exact ⟨6, rfl, by decide⟩
          · rw [e]
            exact ⟨12, rfl, by decide⟩
          · rw [e]
            exact ⟨20, rfl, by decide⟩
          · rw [e]
            exact ⟨m0, rfl, mm0⟩
        refine ⟨_, rfl, q2, _, _, .int m, rfl, rfl, SqL.of upd_same, am, ?_⟩
        have x12 := x1.trans x2
        refine ⟨.int wd, rfl, .int hh, rfl, b, m, 4, wd, hh, rfl, x12 _ _ hb6, mm, by decide, by decide, by decide, w1, w2, h1, h2, fun t H7 x a' g e7 ht Px ha' md => ?_⟩
        refine ⟨t, _, rfl, SqT.of ht, rfl, _, _, rfl, _, _, rfl, rfl, ?_⟩
        have fg := md.few
        have m40 : max 1 m ≤ 40 := Int.max_le.mpr ⟨by decide, mm⟩
        refine ⟨.ref x, rfl, .ref a', rfl, x, a', g, rfl, Px, ha', ⟨md.ok, by have := md.dep; omega, by omega⟩, fun H8 e8 => ⟨true, rfl, iteF ?_⟩⟩
        exact ⟨_, _, _, _, _, rfl, (((e3.trans e36).trans x12).trans e7).trans e8⟩
      · obtain ⟨y4, y5, y6, y7, y8, rfl, e3⟩ := p
        exact ⟨_, _, _, _, _, _, _, _, rfl, (e1.trans e2).trans e3⟩
    · have med := lim_nil.med
      have dg : Pg.nil.dep ≤ 30 := Nat.zero_le _
      refine fun v1 dv1 n1 nd1 ne1 => ⟨v1, dv1, .nil, congrArg (fun t => [V.ref v1, V.str t]) txt_none, upd_same, lim_nil, fun H1 fr1 P1 => ⟨rfl, ?_⟩⟩
      refine fun v2 dv2 n2 nd2 ne2 => ⟨v2, dv2, .nil, congrArg (fun t => [V.ref v2, V.str t]) txt_none, upd_same, lim_nil, fun H2 fr2 P2 => ⟨rfl, ?_⟩⟩
      have P12 := P1.mono (mk_ex n2 nd2 fr2)
      obtain ⟨d1, t1, hx1, _⟩ := id P12
      obtain ⟨d2, t2, hx2, _⟩ := id P2
      refine ⟨v1, d1, _, v2, d2, _, rfl, rfl, hx1, hx2, v1, v2, .nil, .nil, rfl, P12, P2, by decide, fun p3 H3 n3 e3 P3 => ⟨p3, rfl, ?_⟩⟩
      refine fun v4 dv4 n4 nd4 ne4 => ⟨v4, dv4, .nil, congrArg (fun t => [V.ref v4, V.str t]) txt_none, upd_same, lim_nil, fun H4 fr4 P4 => ⟨rfl, ?_⟩⟩
      have P34 : PgAt C_pg H4 p3 .nil := P3.mono (mk_ex n4 nd4 fr4)
      obtain ⟨d3, t3, hx3, _⟩ := id P34
      obtain ⟨d4, t4, hx4, _⟩ := id P4
      refine ⟨p3, d3, _, .ref C_pg, rfl, hx3, .ins hx4, nfC_pg, p3, .nil, .ref v4, rfl, P34, dg, .inl ⟨v4, .nil, rfl, P4, dg, fun H5 e5 => ⟨_, rfl, ?_⟩⟩⟩
      rw [decide_eq_true rfl]
      refine ⟨_, rfl, iteT ?_⟩
      refine fun v6 dv6 n6 nd6 ne6 => ⟨v6, dv6, .nil, congrArg (fun t => [V.ref v6, V.str t]) txt_none, upd_same, lim_nil, fun H6 fr6 P6 => ⟨rfl, ?_⟩⟩
      obtain ⟨d6, t6, hx6, _⟩ := id P6
      refine ⟨v6, d6, _, 9, rfl, rfl, hx6, v6, .nil, 9, rfl, P6, by decide, by decide +kernel, fun p7 H7 n7 e7 P7 => ⟨p7, rfl, ?_⟩⟩
      have r9 : Pg.nil.rep 9 = .nil := (if_neg (by decide)).trans (if_pos (.inr rfl))
      rw [r9] at P7
      obtain ⟨d7, t7, hx7, _⟩ := id P7
      refine ⟨p7, d7, _, rfl, hx7, p7, .nil, rfl, P7, med, fun H8 e8 => ⟨rfl, ?_⟩⟩
      show Q (V.bl (decide (V.str (txt .nil) = V.str (Str.ofString "")))) H8
      rw [txt_none, decide_eq_true rfl]
      exact q _
end
end Kb

namespace Kb
open PySem PySem.Spec PyProof.Rows L2 StX TL
theorem all_mk {P : Program} {w : World} {K : PySem.W.Frag} {h : Heap} {mg : Str → Option Value} {fa CC_pg CC_pf CC_sm f_read_digits f_read_number f_read_scan f_read_times f_read_text f_check_program f_program_of f_is_integer f_check_between f_repeated f_is_repeat f_digits_of f_scan_word f_words_of f__law_bag f__law_pick f_backwards f__law_scan f__law_words f__law_made f_scan_length f_count_accesses f_three_from f_placed_scans f_start_of f_shared_intervals f_straight_rows f_straight_pieces f_first_reaching f_scan_outside f_others_of f_joined f_put_ahead f_three_behind f_multiplied f_three_times f_three_of f_is_from_zero f_is_piece f_are_pieces f_check_distances f_flattened f_count_all f_summary_from f_summary_of f_address_in f_read_all f_written f__law_pair f__law_length f__law_right f_law f_m_pg___init__ f_m_pg___eq__ f_m_pg___add__ f_m_pg___mul__ f_m_pg_text f_m_pg___invert__ f_m_pg_accesses f_m_sm_firsts f_m_sm_lasts f_m_pf_pieces f_m_sm___eq__ f_m_pf___eq__ f_m_pf___init__ f_m_sm___init__ pp_m_pg_text pp_m_pg_accesses pp_m_sm_firsts pp_m_sm_lasts pp_m_pf_pieces : Addr} {tok_MOST_SCANS tok_MOST_BRACKETS tok_MOST_DIGITS tok_GREATEST tok_CHUNK tok_MOST_WRITTEN : PySem.Tok} (X : K.In h) (G : h.Ns mainGlobals mg) (hfa : mg "law" = some (.ref fa))
    {od_read_digits an_read_digits od_read_number an_read_number od_read_scan an_read_scan od_read_times an_read_times od_read_text an_read_text od_check_program an_check_program od_program_of an_program_of od_is_integer an_is_integer od_check_between an_check_between od_repeated an_repeated od_is_repeat an_is_repeat od_digits_of an_digits_of od_scan_word an_scan_word od_words_of an_words_of od__law_bag an__law_bag od__law_pick an__law_pick od_backwards an_backwards od__law_scan an__law_scan od__law_words an__law_words od__law_made an__law_made od_scan_length an_scan_length od_count_accesses an_count_accesses od_three_from an_three_from od_placed_scans an_placed_scans od_start_of an_start_of od_shared_intervals an_shared_intervals od_straight_rows an_straight_rows od_straight_pieces an_straight_pieces od_first_reaching an_first_reaching od_scan_outside an_scan_outside od_others_of an_others_of od_joined an_joined od_put_ahead an_put_ahead od_three_behind an_three_behind od_multiplied an_multiplied od_three_times an_three_times od_three_of an_three_of od_is_from_zero an_is_from_zero od_is_piece an_is_piece od_are_pieces an_are_pieces od_check_distances an_check_distances od_flattened an_flattened od_count_all an_count_all od_summary_from an_summary_from od_summary_of an_summary_of od_address_in an_address_in od_read_all an_read_all od_written an_written od__law_pair an__law_pair od__law_length an__law_length od__law_right an__law_right od_law an_law od_m_pg___init__ an_m_pg___init__ od_m_pg___eq__ an_m_pg___eq__ od_m_pg___add__ an_m_pg___add__ od_m_pg___mul__ an_m_pg___mul__ od_m_pg_text an_m_pg_text od_m_pg___invert__ an_m_pg___invert__ od_m_pg_accesses an_m_pg_accesses od_m_sm_firsts an_m_sm_firsts od_m_sm_lasts an_m_sm_lasts od_m_pf_pieces an_m_pf_pieces od_m_sm___eq__ an_m_sm___eq__ od_m_pf___eq__ an_m_pf___eq__ od_m_pf___init__ an_m_pf___init__ od_m_sm___init__ an_m_sm___init__ : Option Addr} {sl_read_digits sl_read_number sl_read_scan sl_read_times sl_read_text sl_check_program sl_program_of sl_is_integer sl_check_between sl_repeated sl_is_repeat sl_digits_of sl_scan_word sl_words_of sl__law_bag sl__law_pick sl_backwards sl__law_scan sl__law_words sl__law_made sl_scan_length sl_count_accesses sl_three_from sl_placed_scans sl_start_of sl_shared_intervals sl_straight_rows sl_straight_pieces sl_first_reaching sl_scan_outside sl_others_of sl_joined sl_put_ahead sl_three_behind sl_multiplied sl_three_times sl_three_of sl_is_from_zero sl_is_piece sl_are_pieces sl_check_distances sl_flattened sl_count_all sl_summary_from sl_summary_of sl_address_in sl_read_all sl_written sl__law_pair sl__law_length sl__law_right sl_law sl_m_pg___init__ sl_m_pg___eq__ sl_m_pg___add__ sl_m_pg___mul__ sl_m_pg_text sl_m_pg___invert__ sl_m_pg_accesses sl_m_sm_firsts sl_m_sm_lasts sl_m_pf_pieces sl_m_sm___eq__ sl_m_pf___eq__ sl_m_pf___init__ sl_m_sm___init__ : Array (Option Value)}
    {oc_read_digits kV_read_digits dc_read_digits pm_read_digits cd_read_digits ct_read_digits oc_read_number kV_read_number dc_read_number pm_read_number cd_read_number ct_read_number oc_read_scan kV_read_scan dc_read_scan pm_read_scan cd_read_scan ct_read_scan oc_read_times kV_read_times dc_read_times pm_read_times cd_read_times ct_read_times oc_read_text kV_read_text dc_read_text pm_read_text cd_read_text ct_read_text oc_check_program kV_check_program dc_check_program pm_check_program cd_check_program ct_check_program oc_program_of kV_program_of dc_program_of pm_program_of cd_program_of ct_program_of oc_is_integer kV_is_integer dc_is_integer pm_is_integer cd_is_integer ct_is_integer oc_check_between kV_check_between dc_check_between pm_check_between cd_check_between ct_check_between oc_repeated kV_repeated dc_repeated pm_repeated cd_repeated ct_repeated oc_is_repeat kV_is_repeat dc_is_repeat pm_is_repeat cd_is_repeat ct_is_repeat oc_digits_of kV_digits_of dc_digits_of pm_digits_of cd_digits_of ct_digits_of oc_scan_word kV_scan_word dc_scan_word pm_scan_word cd_scan_word ct_scan_word oc_words_of kV_words_of dc_words_of pm_words_of cd_words_of ct_words_of oc__law_bag kV__law_bag dc__law_bag pm__law_bag cd__law_bag ct__law_bag oc__law_pick kV__law_pick dc__law_pick pm__law_pick cd__law_pick ct__law_pick oc_backwards kV_backwards dc_backwards pm_backwards cd_backwards ct_backwards oc__law_scan kV__law_scan dc__law_scan pm__law_scan cd__law_scan ct__law_scan oc__law_words kV__law_words dc__law_words pm__law_words cd__law_words ct__law_words oc__law_made kV__law_made dc__law_made pm__law_made cd__law_made ct__law_made oc_scan_length kV_scan_length dc_scan_length pm_scan_length cd_scan_length ct_scan_length oc_count_accesses kV_count_accesses dc_count_accesses pm_count_accesses cd_count_accesses ct_count_accesses oc_three_from kV_three_from dc_three_from pm_three_from cd_three_from ct_three_from oc_placed_scans kV_placed_scans dc_placed_scans pm_placed_scans cd_placed_scans ct_placed_scans oc_start_of kV_start_of dc_start_of pm_start_of cd_start_of ct_start_of oc_shared_intervals kV_shared_intervals dc_shared_intervals pm_shared_intervals cd_shared_intervals ct_shared_intervals oc_straight_rows kV_straight_rows dc_straight_rows pm_straight_rows cd_straight_rows ct_straight_rows oc_straight_pieces kV_straight_pieces dc_straight_pieces pm_straight_pieces cd_straight_pieces ct_straight_pieces oc_first_reaching kV_first_reaching dc_first_reaching pm_first_reaching cd_first_reaching ct_first_reaching oc_scan_outside kV_scan_outside dc_scan_outside pm_scan_outside cd_scan_outside ct_scan_outside oc_others_of kV_others_of dc_others_of pm_others_of cd_others_of ct_others_of oc_joined kV_joined dc_joined pm_joined cd_joined ct_joined oc_put_ahead kV_put_ahead dc_put_ahead pm_put_ahead cd_put_ahead ct_put_ahead oc_three_behind kV_three_behind dc_three_behind pm_three_behind cd_three_behind ct_three_behind oc_multiplied kV_multiplied dc_multiplied pm_multiplied cd_multiplied ct_multiplied oc_three_times kV_three_times dc_three_times pm_three_times cd_three_times ct_three_times oc_three_of kV_three_of dc_three_of pm_three_of cd_three_of ct_three_of oc_is_from_zero kV_is_from_zero dc_is_from_zero pm_is_from_zero cd_is_from_zero ct_is_from_zero oc_is_piece kV_is_piece dc_is_piece pm_is_piece cd_is_piece ct_is_piece oc_are_pieces kV_are_pieces dc_are_pieces pm_are_pieces cd_are_pieces ct_are_pieces oc_check_distances kV_check_distances dc_check_distances pm_check_distances cd_check_distances ct_check_distances oc_flattened kV_flattened dc_flattened pm_flattened cd_flattened ct_flattened oc_count_all kV_count_all dc_count_all pm_count_all cd_count_all ct_count_all oc_summary_from kV_summary_from dc_summary_from pm_summary_from cd_summary_from ct_summary_from oc_summary_of kV_summary_of dc_summary_of pm_summary_of cd_summary_of ct_summary_of oc_address_in kV_address_in dc_address_in pm_address_in cd_address_in ct_address_in oc_read_all kV_read_all dc_read_all pm_read_all cd_read_all ct_read_all oc_written kV_written dc_written pm_written cd_written ct_written oc__law_pair kV__law_pair dc__law_pair pm__law_pair cd__law_pair ct__law_pair oc__law_length kV__law_length dc__law_length pm__law_length cd__law_length ct__law_length oc__law_right kV__law_right dc__law_right pm__law_right cd__law_right ct__law_right oc_law kV_law dc_law pm_law cd_law ct_law oc_m_pg___init__ kV_m_pg___init__ dc_m_pg___init__ pm_m_pg___init__ cd_m_pg___init__ ct_m_pg___init__ oc_m_pg___eq__ kV_m_pg___eq__ dc_m_pg___eq__ pm_m_pg___eq__ cd_m_pg___eq__ ct_m_pg___eq__ oc_m_pg___add__ kV_m_pg___add__ dc_m_pg___add__ pm_m_pg___add__ cd_m_pg___add__ ct_m_pg___add__ oc_m_pg___mul__ kV_m_pg___mul__ dc_m_pg___mul__ pm_m_pg___mul__ cd_m_pg___mul__ ct_m_pg___mul__ oc_m_pg_text kV_m_pg_text dc_m_pg_text pm_m_pg_text cd_m_pg_text ct_m_pg_text oc_m_pg___invert__ kV_m_pg___invert__ dc_m_pg___invert__ pm_m_pg___invert__ cd_m_pg___invert__ ct_m_pg___invert__ oc_m_pg_accesses kV_m_pg_accesses dc_m_pg_accesses pm_m_pg_accesses cd_m_pg_accesses ct_m_pg_accesses oc_m_sm_firsts kV_m_sm_firsts dc_m_sm_firsts pm_m_sm_firsts cd_m_sm_firsts ct_m_sm_firsts oc_m_sm_lasts kV_m_sm_lasts dc_m_sm_lasts pm_m_sm_lasts cd_m_sm_lasts ct_m_sm_lasts oc_m_pf_pieces kV_m_pf_pieces dc_m_pf_pieces pm_m_pf_pieces cd_m_pf_pieces ct_m_pf_pieces oc_m_sm___eq__ kV_m_sm___eq__ dc_m_sm___eq__ pm_m_sm___eq__ cd_m_sm___eq__ ct_m_sm___eq__ oc_m_pf___eq__ kV_m_pf___eq__ dc_m_pf___eq__ pm_m_pf___eq__ cd_m_pf___eq__ ct_m_pf___eq__ oc_m_pf___init__ kV_m_pf___init__ dc_m_pf___init__ pm_m_pf___init__ cd_m_pf___init__ ct_m_pf___init__ oc_m_sm___init__ kV_m_sm___init__ dc_m_sm___init__ pm_m_sm___init__ cd_m_sm___init__ ct_m_sm___init__ : Value}
    {rs_m_pg_text rs_m_pg_accesses rs_m_sm_firsts rs_m_sm_lasts rs_m_pf_pieces : List Value}
    (a_read_digits : PySem.W.nsIn K mainGlobals "read_digits" = some (some (.ref f_read_digits))) (l_read_digits : K.lookup f_read_digits = some ⟨oc_read_digits, od_read_digits, .func (PySem.W.fnOf "read_digits" "read_digits" (defArgs sread_digits) (defBody sread_digits) (defScope sread_digits) .none kV_read_digits dc_read_digits pm_read_digits an_read_digits cd_read_digits ct_read_digits), sl_read_digits⟩) (c_read_digits : PySem.W.codeIn K cd_read_digits "read_digits" = true) (k_read_digits : PySem.W.keepIn K (.ref f_read_digits) = true)
    (a_read_number : PySem.W.nsIn K mainGlobals "read_number" = some (some (.ref f_read_number))) (l_read_number : K.lookup f_read_number = some ⟨oc_read_number, od_read_number, .func (PySem.W.fnOf "read_number" "read_number" (defArgs sread_number) (defBody sread_number) (defScope sread_number) .none kV_read_number dc_read_number pm_read_number an_read_number cd_read_number ct_read_number), sl_read_number⟩) (c_read_number : PySem.W.codeIn K cd_read_number "read_number" = true) (k_read_number : PySem.W.keepIn K (.ref f_read_number) = true)
    (a_read_scan : PySem.W.nsIn K mainGlobals "read_scan" = some (some (.ref f_read_scan))) (l_read_scan : K.lookup f_read_scan = some ⟨oc_read_scan, od_read_scan, .func (PySem.W.fnOf "read_scan" "read_scan" (defArgs sread_scan) (defBody sread_scan) (defScope sread_scan) .none kV_read_scan dc_read_scan pm_read_scan an_read_scan cd_read_scan ct_read_scan), sl_read_scan⟩) (c_read_scan : PySem.W.codeIn K cd_read_scan "read_scan" = true) (k_read_scan : PySem.W.keepIn K (.ref f_read_scan) = true)
    (a_read_times : PySem.W.nsIn K mainGlobals "read_times" = some (some (.ref f_read_times))) (l_read_times : K.lookup f_read_times = some ⟨oc_read_times, od_read_times, .func (PySem.W.fnOf "read_times" "read_times" (defArgs sread_times) (defBody sread_times) (defScope sread_times) .none kV_read_times dc_read_times pm_read_times an_read_times cd_read_times ct_read_times), sl_read_times⟩) (c_read_times : PySem.W.codeIn K cd_read_times "read_times" = true) (k_read_times : PySem.W.keepIn K (.ref f_read_times) = true)
    (a_read_text : PySem.W.nsIn K mainGlobals "read_text" = some (some (.ref f_read_text))) (l_read_text : K.lookup f_read_text = some ⟨oc_read_text, od_read_text, .func (PySem.W.fnOf "read_text" "read_text" (defArgs sread_text) (defBody sread_text) (defScope sread_text) .none kV_read_text dc_read_text pm_read_text an_read_text cd_read_text ct_read_text), sl_read_text⟩) (c_read_text : PySem.W.codeIn K cd_read_text "read_text" = true) (k_read_text : PySem.W.keepIn K (.ref f_read_text) = true)
    (a_check_program : PySem.W.nsIn K mainGlobals "check_program" = some (some (.ref f_check_program))) (l_check_program : K.lookup f_check_program = some ⟨oc_check_program, od_check_program, .func (PySem.W.fnOf "check_program" "check_program" (defArgs scheck_program) (defBody scheck_program) (defScope scheck_program) .none kV_check_program dc_check_program pm_check_program an_check_program cd_check_program ct_check_program), sl_check_program⟩) (c_check_program : PySem.W.codeIn K cd_check_program "check_program" = true) (k_check_program : PySem.W.keepIn K (.ref f_check_program) = true)
    (a_program_of : PySem.W.nsIn K mainGlobals "program_of" = some (some (.ref f_program_of))) (l_program_of : K.lookup f_program_of = some ⟨oc_program_of, od_program_of, .func (PySem.W.fnOf "program_of" "program_of" (defArgs sprogram_of) (defBody sprogram_of) (defScope sprogram_of) .none kV_program_of dc_program_of pm_program_of an_program_of cd_program_of ct_program_of), sl_program_of⟩) (c_program_of : PySem.W.codeIn K cd_program_of "program_of" = true) (k_program_of : PySem.W.keepIn K (.ref f_program_of) = true)
    (a_is_integer : PySem.W.nsIn K mainGlobals "is_integer" = some (some (.ref f_is_integer))) (l_is_integer : K.lookup f_is_integer = some ⟨oc_is_integer, od_is_integer, .func (PySem.W.fnOf "is_integer" "is_integer" (defArgs sis_integer) (defBody sis_integer) (defScope sis_integer) .none kV_is_integer dc_is_integer pm_is_integer an_is_integer cd_is_integer ct_is_integer), sl_is_integer⟩) (c_is_integer : PySem.W.codeIn K cd_is_integer "is_integer" = true) (k_is_integer : PySem.W.keepIn K (.ref f_is_integer) = true)
    (a_check_between : PySem.W.nsIn K mainGlobals "check_between" = some (some (.ref f_check_between))) (l_check_between : K.lookup f_check_between = some ⟨oc_check_between, od_check_between, .func (PySem.W.fnOf "check_between" "check_between" (defArgs scheck_between) (defBody scheck_between) (defScope scheck_between) .none kV_check_between dc_check_between pm_check_between an_check_between cd_check_between ct_check_between), sl_check_between⟩) (c_check_between : PySem.W.codeIn K cd_check_between "check_between" = true) (k_check_between : PySem.W.keepIn K (.ref f_check_between) = true)
    (a_repeated : PySem.W.nsIn K mainGlobals "repeated" = some (some (.ref f_repeated))) (l_repeated : K.lookup f_repeated = some ⟨oc_repeated, od_repeated, .func (PySem.W.fnOf "repeated" "repeated" (defArgs srepeated) (defBody srepeated) (defScope srepeated) .none kV_repeated dc_repeated pm_repeated an_repeated cd_repeated ct_repeated), sl_repeated⟩) (c_repeated : PySem.W.codeIn K cd_repeated "repeated" = true) (k_repeated : PySem.W.keepIn K (.ref f_repeated) = true)
    (a_is_repeat : PySem.W.nsIn K mainGlobals "is_repeat" = some (some (.ref f_is_repeat))) (l_is_repeat : K.lookup f_is_repeat = some ⟨oc_is_repeat, od_is_repeat, .func (PySem.W.fnOf "is_repeat" "is_repeat" (defArgs sis_repeat) (defBody sis_repeat) (defScope sis_repeat) .none kV_is_repeat dc_is_repeat pm_is_repeat an_is_repeat cd_is_repeat ct_is_repeat), sl_is_repeat⟩) (c_is_repeat : PySem.W.codeIn K cd_is_repeat "is_repeat" = true) (k_is_repeat : PySem.W.keepIn K (.ref f_is_repeat) = true)
    (a_digits_of : PySem.W.nsIn K mainGlobals "digits_of" = some (some (.ref f_digits_of))) (l_digits_of : K.lookup f_digits_of = some ⟨oc_digits_of, od_digits_of, .func (PySem.W.fnOf "digits_of" "digits_of" (defArgs sdigits_of) (defBody sdigits_of) (defScope sdigits_of) .none kV_digits_of dc_digits_of pm_digits_of an_digits_of cd_digits_of ct_digits_of), sl_digits_of⟩) (c_digits_of : PySem.W.codeIn K cd_digits_of "digits_of" = true) (k_digits_of : PySem.W.keepIn K (.ref f_digits_of) = true)
    (a_scan_word : PySem.W.nsIn K mainGlobals "scan_word" = some (some (.ref f_scan_word))) (l_scan_word : K.lookup f_scan_word = some ⟨oc_scan_word, od_scan_word, .func (PySem.W.fnOf "scan_word" "scan_word" (defArgs sscan_word) (defBody sscan_word) (defScope sscan_word) .none kV_scan_word dc_scan_word pm_scan_word an_scan_word cd_scan_word ct_scan_word), sl_scan_word⟩) (c_scan_word : PySem.W.codeIn K cd_scan_word "scan_word" = true) (k_scan_word : PySem.W.keepIn K (.ref f_scan_word) = true)
    (a_words_of : PySem.W.nsIn K mainGlobals "words_of" = some (some (.ref f_words_of))) (l_words_of : K.lookup f_words_of = some ⟨oc_words_of, od_words_of, .func (PySem.W.fnOf "words_of" "words_of" (defArgs swords_of) (defBody swords_of) (defScope swords_of) .none kV_words_of dc_words_of pm_words_of an_words_of cd_words_of ct_words_of), sl_words_of⟩) (c_words_of : PySem.W.codeIn K cd_words_of "words_of" = true) (k_words_of : PySem.W.keepIn K (.ref f_words_of) = true)
    (a__law_bag : PySem.W.nsIn K mainGlobals "_law_bag" = some (some (.ref f__law_bag))) (l__law_bag : K.lookup f__law_bag = some ⟨oc__law_bag, od__law_bag, .func (PySem.W.fnOf "_law_bag" "_law_bag" (defArgs s_law_bag) (defBody s_law_bag) (defScope s_law_bag) .none kV__law_bag dc__law_bag pm__law_bag an__law_bag cd__law_bag ct__law_bag), sl__law_bag⟩) (c__law_bag : PySem.W.codeIn K cd__law_bag "_law_bag" = true) (k__law_bag : PySem.W.keepIn K (.ref f__law_bag) = true)
    (a__law_pick : PySem.W.nsIn K mainGlobals "_law_pick" = some (some (.ref f__law_pick))) (l__law_pick : K.lookup f__law_pick = some ⟨oc__law_pick, od__law_pick, .func (PySem.W.fnOf "_law_pick" "_law_pick" (defArgs s_law_pick) (defBody s_law_pick) (defScope s_law_pick) .none kV__law_pick dc__law_pick pm__law_pick an__law_pick cd__law_pick ct__law_pick), sl__law_pick⟩) (c__law_pick : PySem.W.codeIn K cd__law_pick "_law_pick" = true) (k__law_pick : PySem.W.keepIn K (.ref f__law_pick) = true)
    (a_backwards : PySem.W.nsIn K mainGlobals "backwards" = some (some (.ref f_backwards))) (l_backwards : K.lookup f_backwards = some ⟨oc_backwards, od_backwards, .func (PySem.W.fnOf "backwards" "backwards" (defArgs sbackwards) (defBody sbackwards) (defScope sbackwards) .none kV_backwards dc_backwards pm_backwards an_backwards cd_backwards ct_backwards), sl_backwards⟩) (c_backwards : PySem.W.codeIn K cd_backwards "backwards" = true) (k_backwards : PySem.W.keepIn K (.ref f_backwards) = true)
    (a__law_scan : PySem.W.nsIn K mainGlobals "_law_scan" = some (some (.ref f__law_scan))) (l__law_scan : K.lookup f__law_scan = some ⟨oc__law_scan, od__law_scan, .func (PySem.W.fnOf "_law_scan" "_law_scan" (defArgs s_law_scan) (defBody s_law_scan) (defScope s_law_scan) .none kV__law_scan dc__law_scan pm__law_scan an__law_scan cd__law_scan ct__law_scan), sl__law_scan⟩) (c__law_scan : PySem.W.codeIn K cd__law_scan "_law_scan" = true) (k__law_scan : PySem.W.keepIn K (.ref f__law_scan) = true)
    (a__law_words : PySem.W.nsIn K mainGlobals "_law_words" = some (some (.ref f__law_words))) (l__law_words : K.lookup f__law_words = some ⟨oc__law_words, od__law_words, .func (PySem.W.fnOf "_law_words" "_law_words" (defArgs s_law_words) (defBody s_law_words) (defScope s_law_words) .none kV__law_words dc__law_words pm__law_words an__law_words cd__law_words ct__law_words), sl__law_words⟩) (c__law_words : PySem.W.codeIn K cd__law_words "_law_words" = true) (k__law_words : PySem.W.keepIn K (.ref f__law_words) = true)
    (a__law_made : PySem.W.nsIn K mainGlobals "_law_made" = some (some (.ref f__law_made))) (l__law_made : K.lookup f__law_made = some ⟨oc__law_made, od__law_made, .func (PySem.W.fnOf "_law_made" "_law_made" (defArgs s_law_made) (defBody s_law_made) (defScope s_law_made) .none kV__law_made dc__law_made pm__law_made an__law_made cd__law_made ct__law_made), sl__law_made⟩) (c__law_made : PySem.W.codeIn K cd__law_made "_law_made" = true) (k__law_made : PySem.W.keepIn K (.ref f__law_made) = true)
    (a_scan_length : PySem.W.nsIn K mainGlobals "scan_length" = some (some (.ref f_scan_length))) (l_scan_length : K.lookup f_scan_length = some ⟨oc_scan_length, od_scan_length, .func (PySem.W.fnOf "scan_length" "scan_length" (defArgs sscan_length) (defBody sscan_length) (defScope sscan_length) .none kV_scan_length dc_scan_length pm_scan_length an_scan_length cd_scan_length ct_scan_length), sl_scan_length⟩) (c_scan_length : PySem.W.codeIn K cd_scan_length "scan_length" = true) (k_scan_length : PySem.W.keepIn K (.ref f_scan_length) = true)
    (a_count_accesses : PySem.W.nsIn K mainGlobals "count_accesses" = some (some (.ref f_count_accesses))) (l_count_accesses : K.lookup f_count_accesses = some ⟨oc_count_accesses, od_count_accesses, .func (PySem.W.fnOf "count_accesses" "count_accesses" (defArgs scount_accesses) (defBody scount_accesses) (defScope scount_accesses) .none kV_count_accesses dc_count_accesses pm_count_accesses an_count_accesses cd_count_accesses ct_count_accesses), sl_count_accesses⟩) (c_count_accesses : PySem.W.codeIn K cd_count_accesses "count_accesses" = true) (k_count_accesses : PySem.W.keepIn K (.ref f_count_accesses) = true)
    (a_three_from : PySem.W.nsIn K mainGlobals "three_from" = some (some (.ref f_three_from))) (l_three_from : K.lookup f_three_from = some ⟨oc_three_from, od_three_from, .func (PySem.W.fnOf "three_from" "three_from" (defArgs sthree_from) (defBody sthree_from) (defScope sthree_from) .none kV_three_from dc_three_from pm_three_from an_three_from cd_three_from ct_three_from), sl_three_from⟩) (c_three_from : PySem.W.codeIn K cd_three_from "three_from" = true) (k_three_from : PySem.W.keepIn K (.ref f_three_from) = true)
    (a_placed_scans : PySem.W.nsIn K mainGlobals "placed_scans" = some (some (.ref f_placed_scans))) (l_placed_scans : K.lookup f_placed_scans = some ⟨oc_placed_scans, od_placed_scans, .func (PySem.W.fnOf "placed_scans" "placed_scans" (defArgs splaced_scans) (defBody splaced_scans) (defScope splaced_scans) .none kV_placed_scans dc_placed_scans pm_placed_scans an_placed_scans cd_placed_scans ct_placed_scans), sl_placed_scans⟩) (c_placed_scans : PySem.W.codeIn K cd_placed_scans "placed_scans" = true) (k_placed_scans : PySem.W.keepIn K (.ref f_placed_scans) = true)
    (a_start_of : PySem.W.nsIn K mainGlobals "start_of" = some (some (.ref f_start_of))) (l_start_of : K.lookup f_start_of = some ⟨oc_start_of, od_start_of, .func (PySem.W.fnOf "start_of" "start_of" (defArgs sstart_of) (defBody sstart_of) (defScope sstart_of) .none kV_start_of dc_start_of pm_start_of an_start_of cd_start_of ct_start_of), sl_start_of⟩) (c_start_of : PySem.W.codeIn K cd_start_of "start_of" = true) (k_start_of : PySem.W.keepIn K (.ref f_start_of) = true)
    (a_shared_intervals : PySem.W.nsIn K mainGlobals "shared_intervals" = some (some (.ref f_shared_intervals))) (l_shared_intervals : K.lookup f_shared_intervals = some ⟨oc_shared_intervals, od_shared_intervals, .func (PySem.W.fnOf "shared_intervals" "shared_intervals" (defArgs sshared_intervals) (defBody sshared_intervals) (defScope sshared_intervals) .none kV_shared_intervals dc_shared_intervals pm_shared_intervals an_shared_intervals cd_shared_intervals ct_shared_intervals), sl_shared_intervals⟩) (c_shared_intervals : PySem.W.codeIn K cd_shared_intervals "shared_intervals" = true) (k_shared_intervals : PySem.W.keepIn K (.ref f_shared_intervals) = true)
    (a_straight_rows : PySem.W.nsIn K mainGlobals "straight_rows" = some (some (.ref f_straight_rows))) (l_straight_rows : K.lookup f_straight_rows = some ⟨oc_straight_rows, od_straight_rows, .func (PySem.W.fnOf "straight_rows" "straight_rows" (defArgs sstraight_rows) (defBody sstraight_rows) (defScope sstraight_rows) .none kV_straight_rows dc_straight_rows pm_straight_rows an_straight_rows cd_straight_rows ct_straight_rows), sl_straight_rows⟩) (c_straight_rows : PySem.W.codeIn K cd_straight_rows "straight_rows" = true) (k_straight_rows : PySem.W.keepIn K (.ref f_straight_rows) = true)
    (a_straight_pieces : PySem.W.nsIn K mainGlobals "straight_pieces" = some (some (.ref f_straight_pieces))) (l_straight_pieces : K.lookup f_straight_pieces = some ⟨oc_straight_pieces, od_straight_pieces, .func (PySem.W.fnOf "straight_pieces" "straight_pieces" (defArgs sstraight_pieces) (defBody sstraight_pieces) (defScope sstraight_pieces) .none kV_straight_pieces dc_straight_pieces pm_straight_pieces an_straight_pieces cd_straight_pieces ct_straight_pieces), sl_straight_pieces⟩) (c_straight_pieces : PySem.W.codeIn K cd_straight_pieces "straight_pieces" = true) (k_straight_pieces : PySem.W.keepIn K (.ref f_straight_pieces) = true)
    (a_first_reaching : PySem.W.nsIn K mainGlobals "first_reaching" = some (some (.ref f_first_reaching))) (l_first_reaching : K.lookup f_first_reaching = some ⟨oc_first_reaching, od_first_reaching, .func (PySem.W.fnOf "first_reaching" "first_reaching" (defArgs sfirst_reaching) (defBody sfirst_reaching) (defScope sfirst_reaching) .none kV_first_reaching dc_first_reaching pm_first_reaching an_first_reaching cd_first_reaching ct_first_reaching), sl_first_reaching⟩) (c_first_reaching : PySem.W.codeIn K cd_first_reaching "first_reaching" = true) (k_first_reaching : PySem.W.keepIn K (.ref f_first_reaching) = true)
    (a_scan_outside : PySem.W.nsIn K mainGlobals "scan_outside" = some (some (.ref f_scan_outside))) (l_scan_outside : K.lookup f_scan_outside = some ⟨oc_scan_outside, od_scan_outside, .func (PySem.W.fnOf "scan_outside" "scan_outside" (defArgs sscan_outside) (defBody sscan_outside) (defScope sscan_outside) .none kV_scan_outside dc_scan_outside pm_scan_outside an_scan_outside cd_scan_outside ct_scan_outside), sl_scan_outside⟩) (c_scan_outside : PySem.W.codeIn K cd_scan_outside "scan_outside" = true) (k_scan_outside : PySem.W.keepIn K (.ref f_scan_outside) = true)
    (a_others_of : PySem.W.nsIn K mainGlobals "others_of" = some (some (.ref f_others_of))) (l_others_of : K.lookup f_others_of = some ⟨oc_others_of, od_others_of, .func (PySem.W.fnOf "others_of" "others_of" (defArgs sothers_of) (defBody sothers_of) (defScope sothers_of) .none kV_others_of dc_others_of pm_others_of an_others_of cd_others_of ct_others_of), sl_others_of⟩) (c_others_of : PySem.W.codeIn K cd_others_of "others_of" = true) (k_others_of : PySem.W.keepIn K (.ref f_others_of) = true)
    (a_joined : PySem.W.nsIn K mainGlobals "joined" = some (some (.ref f_joined))) (l_joined : K.lookup f_joined = some ⟨oc_joined, od_joined, .func (PySem.W.fnOf "joined" "joined" (defArgs sjoined) (defBody sjoined) (defScope sjoined) .none kV_joined dc_joined pm_joined an_joined cd_joined ct_joined), sl_joined⟩) (c_joined : PySem.W.codeIn K cd_joined "joined" = true) (k_joined : PySem.W.keepIn K (.ref f_joined) = true)
    (a_put_ahead : PySem.W.nsIn K mainGlobals "put_ahead" = some (some (.ref f_put_ahead))) (l_put_ahead : K.lookup f_put_ahead = some ⟨oc_put_ahead, od_put_ahead, .func (PySem.W.fnOf "put_ahead" "put_ahead" (defArgs sput_ahead) (defBody sput_ahead) (defScope sput_ahead) .none kV_put_ahead dc_put_ahead pm_put_ahead an_put_ahead cd_put_ahead ct_put_ahead), sl_put_ahead⟩) (c_put_ahead : PySem.W.codeIn K cd_put_ahead "put_ahead" = true) (k_put_ahead : PySem.W.keepIn K (.ref f_put_ahead) = true)
    (a_three_behind : PySem.W.nsIn K mainGlobals "three_behind" = some (some (.ref f_three_behind))) (l_three_behind : K.lookup f_three_behind = some ⟨oc_three_behind, od_three_behind, .func (PySem.W.fnOf "three_behind" "three_behind" (defArgs sthree_behind) (defBody sthree_behind) (defScope sthree_behind) .none kV_three_behind dc_three_behind pm_three_behind an_three_behind cd_three_behind ct_three_behind), sl_three_behind⟩) (c_three_behind : PySem.W.codeIn K cd_three_behind "three_behind" = true) (k_three_behind : PySem.W.keepIn K (.ref f_three_behind) = true)
    (a_multiplied : PySem.W.nsIn K mainGlobals "multiplied" = some (some (.ref f_multiplied))) (l_multiplied : K.lookup f_multiplied = some ⟨oc_multiplied, od_multiplied, .func (PySem.W.fnOf "multiplied" "multiplied" (defArgs smultiplied) (defBody smultiplied) (defScope smultiplied) .none kV_multiplied dc_multiplied pm_multiplied an_multiplied cd_multiplied ct_multiplied), sl_multiplied⟩) (c_multiplied : PySem.W.codeIn K cd_multiplied "multiplied" = true) (k_multiplied : PySem.W.keepIn K (.ref f_multiplied) = true)
    (a_three_times : PySem.W.nsIn K mainGlobals "three_times" = some (some (.ref f_three_times))) (l_three_times : K.lookup f_three_times = some ⟨oc_three_times, od_three_times, .func (PySem.W.fnOf "three_times" "three_times" (defArgs sthree_times) (defBody sthree_times) (defScope sthree_times) .none kV_three_times dc_three_times pm_three_times an_three_times cd_three_times ct_three_times), sl_three_times⟩) (c_three_times : PySem.W.codeIn K cd_three_times "three_times" = true) (k_three_times : PySem.W.keepIn K (.ref f_three_times) = true)
    (a_three_of : PySem.W.nsIn K mainGlobals "three_of" = some (some (.ref f_three_of))) (l_three_of : K.lookup f_three_of = some ⟨oc_three_of, od_three_of, .func (PySem.W.fnOf "three_of" "three_of" (defArgs sthree_of) (defBody sthree_of) (defScope sthree_of) .none kV_three_of dc_three_of pm_three_of an_three_of cd_three_of ct_three_of), sl_three_of⟩) (c_three_of : PySem.W.codeIn K cd_three_of "three_of" = true) (k_three_of : PySem.W.keepIn K (.ref f_three_of) = true)
    (a_is_from_zero : PySem.W.nsIn K mainGlobals "is_from_zero" = some (some (.ref f_is_from_zero))) (l_is_from_zero : K.lookup f_is_from_zero = some ⟨oc_is_from_zero, od_is_from_zero, .func (PySem.W.fnOf "is_from_zero" "is_from_zero" (defArgs sis_from_zero) (defBody sis_from_zero) (defScope sis_from_zero) .none kV_is_from_zero dc_is_from_zero pm_is_from_zero an_is_from_zero cd_is_from_zero ct_is_from_zero), sl_is_from_zero⟩) (c_is_from_zero : PySem.W.codeIn K cd_is_from_zero "is_from_zero" = true) (k_is_from_zero : PySem.W.keepIn K (.ref f_is_from_zero) = true)
    (a_is_piece : PySem.W.nsIn K mainGlobals "is_piece" = some (some (.ref f_is_piece))) (l_is_piece : K.lookup f_is_piece = some ⟨oc_is_piece, od_is_piece, .func (PySem.W.fnOf "is_piece" "is_piece" (defArgs sis_piece) (defBody sis_piece) (defScope sis_piece) .none kV_is_piece dc_is_piece pm_is_piece an_is_piece cd_is_piece ct_is_piece), sl_is_piece⟩) (c_is_piece : PySem.W.codeIn K cd_is_piece "is_piece" = true) (k_is_piece : PySem.W.keepIn K (.ref f_is_piece) = true)
    (a_are_pieces : PySem.W.nsIn K mainGlobals "are_pieces" = some (some (.ref f_are_pieces))) (l_are_pieces : K.lookup f_are_pieces = some ⟨oc_are_pieces, od_are_pieces, .func (PySem.W.fnOf "are_pieces" "are_pieces" (defArgs sare_pieces) (defBody sare_pieces) (defScope sare_pieces) .none kV_are_pieces dc_are_pieces pm_are_pieces an_are_pieces cd_are_pieces ct_are_pieces), sl_are_pieces⟩) (c_are_pieces : PySem.W.codeIn K cd_are_pieces "are_pieces" = true) (k_are_pieces : PySem.W.keepIn K (.ref f_are_pieces) = true)
    (a_check_distances : PySem.W.nsIn K mainGlobals "check_distances" = some (some (.ref f_check_distances))) (l_check_distances : K.lookup f_check_distances = some ⟨oc_check_distances, od_check_distances, .func (PySem.W.fnOf "check_distances" "check_distances" (defArgs scheck_distances) (defBody scheck_distances) (defScope scheck_distances) .none kV_check_distances dc_check_distances pm_check_distances an_check_distances cd_check_distances ct_check_distances), sl_check_distances⟩) (c_check_distances : PySem.W.codeIn K cd_check_distances "check_distances" = true) (k_check_distances : PySem.W.keepIn K (.ref f_check_distances) = true)
    (a_flattened : PySem.W.nsIn K mainGlobals "flattened" = some (some (.ref f_flattened))) (l_flattened : K.lookup f_flattened = some ⟨oc_flattened, od_flattened, .func (PySem.W.fnOf "flattened" "flattened" (defArgs sflattened) (defBody sflattened) (defScope sflattened) .none kV_flattened dc_flattened pm_flattened an_flattened cd_flattened ct_flattened), sl_flattened⟩) (c_flattened : PySem.W.codeIn K cd_flattened "flattened" = true) (k_flattened : PySem.W.keepIn K (.ref f_flattened) = true)
    (a_count_all : PySem.W.nsIn K mainGlobals "count_all" = some (some (.ref f_count_all))) (l_count_all : K.lookup f_count_all = some ⟨oc_count_all, od_count_all, .func (PySem.W.fnOf "count_all" "count_all" (defArgs scount_all) (defBody scount_all) (defScope scount_all) .none kV_count_all dc_count_all pm_count_all an_count_all cd_count_all ct_count_all), sl_count_all⟩) (c_count_all : PySem.W.codeIn K cd_count_all "count_all" = true) (k_count_all : PySem.W.keepIn K (.ref f_count_all) = true)
    (a_summary_from : PySem.W.nsIn K mainGlobals "summary_from" = some (some (.ref f_summary_from))) (l_summary_from : K.lookup f_summary_from = some ⟨oc_summary_from, od_summary_from, .func (PySem.W.fnOf "summary_from" "summary_from" (defArgs ssummary_from) (defBody ssummary_from) (defScope ssummary_from) .none kV_summary_from dc_summary_from pm_summary_from an_summary_from cd_summary_from ct_summary_from), sl_summary_from⟩) (c_summary_from : PySem.W.codeIn K cd_summary_from "summary_from" = true) (k_summary_from : PySem.W.keepIn K (.ref f_summary_from) = true)
    (a_summary_of : PySem.W.nsIn K mainGlobals "summary_of" = some (some (.ref f_summary_of))) (l_summary_of : K.lookup f_summary_of = some ⟨oc_summary_of, od_summary_of, .func (PySem.W.fnOf "summary_of" "summary_of" (defArgs ssummary_of) (defBody ssummary_of) (defScope ssummary_of) .none kV_summary_of dc_summary_of pm_summary_of an_summary_of cd_summary_of ct_summary_of), sl_summary_of⟩) (c_summary_of : PySem.W.codeIn K cd_summary_of "summary_of" = true) (k_summary_of : PySem.W.keepIn K (.ref f_summary_of) = true)
    (a_address_in : PySem.W.nsIn K mainGlobals "address_in" = some (some (.ref f_address_in))) (l_address_in : K.lookup f_address_in = some ⟨oc_address_in, od_address_in, .func (PySem.W.fnOf "address_in" "address_in" (defArgs saddress_in) (defBody saddress_in) (defScope saddress_in) .none kV_address_in dc_address_in pm_address_in an_address_in cd_address_in ct_address_in), sl_address_in⟩) (c_address_in : PySem.W.codeIn K cd_address_in "address_in" = true) (k_address_in : PySem.W.keepIn K (.ref f_address_in) = true)
    (a_read_all : PySem.W.nsIn K mainGlobals "read_all" = some (some (.ref f_read_all))) (l_read_all : K.lookup f_read_all = some ⟨oc_read_all, od_read_all, .func (PySem.W.fnOf "read_all" "read_all" (defArgs sread_all) (defBody sread_all) (defScope sread_all) .none kV_read_all dc_read_all pm_read_all an_read_all cd_read_all ct_read_all), sl_read_all⟩) (c_read_all : PySem.W.codeIn K cd_read_all "read_all" = true) (k_read_all : PySem.W.keepIn K (.ref f_read_all) = true)
    (a_written : PySem.W.nsIn K mainGlobals "written" = some (some (.ref f_written))) (l_written : K.lookup f_written = some ⟨oc_written, od_written, .func (PySem.W.fnOf "written" "written" (defArgs swritten) (defBody swritten) (defScope swritten) .none kV_written dc_written pm_written an_written cd_written ct_written), sl_written⟩) (c_written : PySem.W.codeIn K cd_written "written" = true) (k_written : PySem.W.keepIn K (.ref f_written) = true)
    (a__law_pair : PySem.W.nsIn K mainGlobals "_law_pair" = some (some (.ref f__law_pair))) (l__law_pair : K.lookup f__law_pair = some ⟨oc__law_pair, od__law_pair, .func (PySem.W.fnOf "_law_pair" "_law_pair" (defArgs s_law_pair) (defBody s_law_pair) (defScope s_law_pair) .none kV__law_pair dc__law_pair pm__law_pair an__law_pair cd__law_pair ct__law_pair), sl__law_pair⟩) (c__law_pair : PySem.W.codeIn K cd__law_pair "_law_pair" = true) (k__law_pair : PySem.W.keepIn K (.ref f__law_pair) = true)
    (a__law_length : PySem.W.nsIn K mainGlobals "_law_length" = some (some (.ref f__law_length))) (l__law_length : K.lookup f__law_length = some ⟨oc__law_length, od__law_length, .func (PySem.W.fnOf "_law_length" "_law_length" (defArgs s_law_length) (defBody s_law_length) (defScope s_law_length) .none kV__law_length dc__law_length pm__law_length an__law_length cd__law_length ct__law_length), sl__law_length⟩) (c__law_length : PySem.W.codeIn K cd__law_length "_law_length" = true) (k__law_length : PySem.W.keepIn K (.ref f__law_length) = true)
    (a__law_right : PySem.W.nsIn K mainGlobals "_law_right" = some (some (.ref f__law_right))) (l__law_right : K.lookup f__law_right = some ⟨oc__law_right, od__law_right, .func (PySem.W.fnOf "_law_right" "_law_right" (defArgs s_law_right) (defBody s_law_right) (defScope s_law_right) .none kV__law_right dc__law_right pm__law_right an__law_right cd__law_right ct__law_right), sl__law_right⟩) (c__law_right : PySem.W.codeIn K cd__law_right "_law_right" = true) (k__law_right : PySem.W.keepIn K (.ref f__law_right) = true)
    (a_law : PySem.W.nsIn K mainGlobals "law" = some (some (.ref f_law))) (l_law : K.lookup f_law = some ⟨oc_law, od_law, .func (PySem.W.fnOf "law" "law" (defArgs slaw) (defBody slaw) (defScope slaw) .none kV_law dc_law pm_law an_law cd_law ct_law), sl_law⟩) (c_law : PySem.W.codeIn K cd_law "law" = true) (k_law : PySem.W.keepIn K (.ref f_law) = true)
    (aC_pg : PySem.W.nsIn K mainGlobals "Program" = some (some (.ref CC_pg))) (pg_pg : PySem.W.plainGet K CC_pg Str.empty = true) (hd_pg : PySem.W.hasDictIn K CC_pg = true) (po_pg : PySem.W.plainOver K CC_pg = true) (sa_pg : PySem.W.findIn K (.ref CC_pg) "__setattr__" = some (some (.builtin "object.__setattr__"))) (mk_pg : PySem.W.makesIn K CC_pg = true) (kc_pg : PySem.W.keepIn K (.ref CC_pg) = true)
    (na0_pg : PySem.W.findIn K (.ref CC_pg) "parts" = some none)
    (xha_pg : PySem.W.findIn K (.ref CC_pg) "__class__" = some (some (.builtin "object.__class__")))
    (xhn : PySem.W.specialIn K (.builtin "object.__class__") "__get__" = some (some (.builtin "getset_descriptor.__get__")))
    (xtk : PySem.W.takesIn K (.builtin "object.__class__") = some true)
    (xhm_pg : PySem.W.mroIn K CC_pg (.type "object") = some true)
    (xme_pg : PySem.W.kitOne K (.ref CC_pg) (.ref CC_pg) = some true)
    (xnf_pg : PySem.W.notFirst K CC_pg (.ref CC_pg) = true)
    (aC_pf : PySem.W.nsIn K mainGlobals "Profile" = some (some (.ref CC_pf))) (pg_pf : PySem.W.plainGet K CC_pf Str.empty = true) (hd_pf : PySem.W.hasDictIn K CC_pf = true) (po_pf : PySem.W.plainOver K CC_pf = true) (sa_pf : PySem.W.findIn K (.ref CC_pf) "__setattr__" = some (some (.builtin "object.__setattr__"))) (mk_pf : PySem.W.makesIn K CC_pf = true) (kc_pf : PySem.W.keepIn K (.ref CC_pf) = true)
    (na0_pf : PySem.W.findIn K (.ref CC_pf) "cold" = some none)
    (na1_pf : PySem.W.findIn K (.ref CC_pf) "_pieces" = some none)
    (xha_pf : PySem.W.findIn K (.ref CC_pf) "__class__" = some (some (.builtin "object.__class__")))
    (xhm_pf : PySem.W.mroIn K CC_pf (.type "object") = some true)
    (xme_pf : PySem.W.kitOne K (.ref CC_pf) (.ref CC_pf) = some true)
    (xnf_pf : PySem.W.notFirst K CC_pf (.ref CC_pf) = true)
    (aC_sm : PySem.W.nsIn K mainGlobals "Summary" = some (some (.ref CC_sm))) (pg_sm : PySem.W.plainGet K CC_sm Str.empty = true) (hd_sm : PySem.W.hasDictIn K CC_sm = true) (po_sm : PySem.W.plainOver K CC_sm = true) (sa_sm : PySem.W.findIn K (.ref CC_sm) "__setattr__" = some (some (.builtin "object.__setattr__"))) (mk_sm : PySem.W.makesIn K CC_sm = true) (kc_sm : PySem.W.keepIn K (.ref CC_sm) = true)
    (na0_sm : PySem.W.findIn K (.ref CC_sm) "_firsts" = some none)
    (na1_sm : PySem.W.findIn K (.ref CC_sm) "_lasts" = some none)
    (na2_sm : PySem.W.findIn K (.ref CC_sm) "profile" = some none)
    (xha_sm : PySem.W.findIn K (.ref CC_sm) "__class__" = some (some (.builtin "object.__class__")))
    (xhm_sm : PySem.W.mroIn K CC_sm (.type "object") = some true)
    (xme_sm : PySem.W.kitOne K (.ref CC_sm) (.ref CC_sm) = some true)
    (xnf_sm : PySem.W.notFirst K CC_sm (.ref CC_sm) = true)
    (a_m_pg___init__ : PySem.W.findIn K (.ref CC_pg) "__init__" = some (some (.ref f_m_pg___init__))) (i_m_pg___init__ : PySem.W.isFn K (.ref f_m_pg___init__) = true)
    (l_m_pg___init__ : K.lookup f_m_pg___init__ = some ⟨oc_m_pg___init__, od_m_pg___init__, .func (PySem.W.fnOf "__init__" "Program.__init__" (defArgs sProgram___init__) (defBody sProgram___init__) (defScope sProgram___init__) .none kV_m_pg___init__ dc_m_pg___init__ pm_m_pg___init__ an_m_pg___init__ cd_m_pg___init__ ct_m_pg___init__), sl_m_pg___init__⟩) (c_m_pg___init__ : PySem.W.codeIn K cd_m_pg___init__ "Program.__init__" = true) (k_m_pg___init__ : PySem.W.keepIn K (.ref f_m_pg___init__) = true)
    (a_m_pg___eq__ : PySem.W.findIn K (.ref CC_pg) "__eq__" = some (some (.ref f_m_pg___eq__))) (i_m_pg___eq__ : PySem.W.isFn K (.ref f_m_pg___eq__) = true)
    (l_m_pg___eq__ : K.lookup f_m_pg___eq__ = some ⟨oc_m_pg___eq__, od_m_pg___eq__, .func (PySem.W.fnOf "__eq__" "Program.__eq__" (defArgs sProgram___eq__) (defBody sProgram___eq__) (defScope sProgram___eq__) .none kV_m_pg___eq__ dc_m_pg___eq__ pm_m_pg___eq__ an_m_pg___eq__ cd_m_pg___eq__ ct_m_pg___eq__), sl_m_pg___eq__⟩) (c_m_pg___eq__ : PySem.W.codeIn K cd_m_pg___eq__ "Program.__eq__" = true) (k_m_pg___eq__ : PySem.W.keepIn K (.ref f_m_pg___eq__) = true)
    (a_m_pg___add__ : PySem.W.findIn K (.ref CC_pg) "__add__" = some (some (.ref f_m_pg___add__))) (i_m_pg___add__ : PySem.W.isFn K (.ref f_m_pg___add__) = true)
    (l_m_pg___add__ : K.lookup f_m_pg___add__ = some ⟨oc_m_pg___add__, od_m_pg___add__, .func (PySem.W.fnOf "__add__" "Program.__add__" (defArgs sProgram___add__) (defBody sProgram___add__) (defScope sProgram___add__) .none kV_m_pg___add__ dc_m_pg___add__ pm_m_pg___add__ an_m_pg___add__ cd_m_pg___add__ ct_m_pg___add__), sl_m_pg___add__⟩) (c_m_pg___add__ : PySem.W.codeIn K cd_m_pg___add__ "Program.__add__" = true) (k_m_pg___add__ : PySem.W.keepIn K (.ref f_m_pg___add__) = true)
    (a_m_pg___mul__ : PySem.W.findIn K (.ref CC_pg) "__mul__" = some (some (.ref f_m_pg___mul__))) (i_m_pg___mul__ : PySem.W.isFn K (.ref f_m_pg___mul__) = true)
    (l_m_pg___mul__ : K.lookup f_m_pg___mul__ = some ⟨oc_m_pg___mul__, od_m_pg___mul__, .func (PySem.W.fnOf "__mul__" "Program.__mul__" (defArgs sProgram___mul__) (defBody sProgram___mul__) (defScope sProgram___mul__) .none kV_m_pg___mul__ dc_m_pg___mul__ pm_m_pg___mul__ an_m_pg___mul__ cd_m_pg___mul__ ct_m_pg___mul__), sl_m_pg___mul__⟩) (c_m_pg___mul__ : PySem.W.codeIn K cd_m_pg___mul__ "Program.__mul__" = true) (k_m_pg___mul__ : PySem.W.keepIn K (.ref f_m_pg___mul__) = true)
    (a_m_pg_text : PySem.W.findIn K (.ref CC_pg) "text" = some (some (.ref pp_m_pg_text))) (g_m_pg_text : PySem.W.specialIn K (.ref pp_m_pg_text) "__get__" = some (some (.builtin "property.__get__"))) (t_m_pg_text : PySem.W.takesIn K (.ref pp_m_pg_text) = some true) (r_m_pg_text : PySem.W.recIn K pp_m_pg_text "property" = some (.ref f_m_pg_text :: rs_m_pg_text))
    (l_m_pg_text : K.lookup f_m_pg_text = some ⟨oc_m_pg_text, od_m_pg_text, .func (PySem.W.fnOf "text" "Program.text" (defArgs sProgram_text) (defBody sProgram_text) (defScope sProgram_text) .none kV_m_pg_text dc_m_pg_text pm_m_pg_text an_m_pg_text cd_m_pg_text ct_m_pg_text), sl_m_pg_text⟩) (c_m_pg_text : PySem.W.codeIn K cd_m_pg_text "Program.text" = true) (k_m_pg_text : PySem.W.keepIn K (.ref f_m_pg_text) = true)
    (a_m_pg___invert__ : PySem.W.findIn K (.ref CC_pg) "__invert__" = some (some (.ref f_m_pg___invert__))) (i_m_pg___invert__ : PySem.W.isFn K (.ref f_m_pg___invert__) = true)
    (l_m_pg___invert__ : K.lookup f_m_pg___invert__ = some ⟨oc_m_pg___invert__, od_m_pg___invert__, .func (PySem.W.fnOf "__invert__" "Program.__invert__" (defArgs sProgram___invert__) (defBody sProgram___invert__) (defScope sProgram___invert__) .none kV_m_pg___invert__ dc_m_pg___invert__ pm_m_pg___invert__ an_m_pg___invert__ cd_m_pg___invert__ ct_m_pg___invert__), sl_m_pg___invert__⟩) (c_m_pg___invert__ : PySem.W.codeIn K cd_m_pg___invert__ "Program.__invert__" = true) (k_m_pg___invert__ : PySem.W.keepIn K (.ref f_m_pg___invert__) = true)
    (a_m_pg_accesses : PySem.W.findIn K (.ref CC_pg) "accesses" = some (some (.ref pp_m_pg_accesses))) (g_m_pg_accesses : PySem.W.specialIn K (.ref pp_m_pg_accesses) "__get__" = some (some (.builtin "property.__get__"))) (t_m_pg_accesses : PySem.W.takesIn K (.ref pp_m_pg_accesses) = some true) (r_m_pg_accesses : PySem.W.recIn K pp_m_pg_accesses "property" = some (.ref f_m_pg_accesses :: rs_m_pg_accesses))
    (l_m_pg_accesses : K.lookup f_m_pg_accesses = some ⟨oc_m_pg_accesses, od_m_pg_accesses, .func (PySem.W.fnOf "accesses" "Program.accesses" (defArgs sProgram_accesses) (defBody sProgram_accesses) (defScope sProgram_accesses) .none kV_m_pg_accesses dc_m_pg_accesses pm_m_pg_accesses an_m_pg_accesses cd_m_pg_accesses ct_m_pg_accesses), sl_m_pg_accesses⟩) (c_m_pg_accesses : PySem.W.codeIn K cd_m_pg_accesses "Program.accesses" = true) (k_m_pg_accesses : PySem.W.keepIn K (.ref f_m_pg_accesses) = true)
    (a_m_sm_firsts : PySem.W.findIn K (.ref CC_sm) "firsts" = some (some (.ref pp_m_sm_firsts))) (g_m_sm_firsts : PySem.W.specialIn K (.ref pp_m_sm_firsts) "__get__" = some (some (.builtin "property.__get__"))) (t_m_sm_firsts : PySem.W.takesIn K (.ref pp_m_sm_firsts) = some true) (r_m_sm_firsts : PySem.W.recIn K pp_m_sm_firsts "property" = some (.ref f_m_sm_firsts :: rs_m_sm_firsts))
    (l_m_sm_firsts : K.lookup f_m_sm_firsts = some ⟨oc_m_sm_firsts, od_m_sm_firsts, .func (PySem.W.fnOf "firsts" "Summary.firsts" (defArgs sSummary_firsts) (defBody sSummary_firsts) (defScope sSummary_firsts) .none kV_m_sm_firsts dc_m_sm_firsts pm_m_sm_firsts an_m_sm_firsts cd_m_sm_firsts ct_m_sm_firsts), sl_m_sm_firsts⟩) (c_m_sm_firsts : PySem.W.codeIn K cd_m_sm_firsts "Summary.firsts" = true) (k_m_sm_firsts : PySem.W.keepIn K (.ref f_m_sm_firsts) = true)
    (a_m_sm_lasts : PySem.W.findIn K (.ref CC_sm) "lasts" = some (some (.ref pp_m_sm_lasts))) (g_m_sm_lasts : PySem.W.specialIn K (.ref pp_m_sm_lasts) "__get__" = some (some (.builtin "property.__get__"))) (t_m_sm_lasts : PySem.W.takesIn K (.ref pp_m_sm_lasts) = some true) (r_m_sm_lasts : PySem.W.recIn K pp_m_sm_lasts "property" = some (.ref f_m_sm_lasts :: rs_m_sm_lasts))
    (l_m_sm_lasts : K.lookup f_m_sm_lasts = some ⟨oc_m_sm_lasts, od_m_sm_lasts, .func (PySem.W.fnOf "lasts" "Summary.lasts" (defArgs sSummary_lasts) (defBody sSummary_lasts) (defScope sSummary_lasts) .none kV_m_sm_lasts dc_m_sm_lasts pm_m_sm_lasts an_m_sm_lasts cd_m_sm_lasts ct_m_sm_lasts), sl_m_sm_lasts⟩) (c_m_sm_lasts : PySem.W.codeIn K cd_m_sm_lasts "Summary.lasts" = true) (k_m_sm_lasts : PySem.W.keepIn K (.ref f_m_sm_lasts) = true)
    (a_m_pf_pieces : PySem.W.findIn K (.ref CC_pf) "pieces" = some (some (.ref pp_m_pf_pieces))) (g_m_pf_pieces : PySem.W.specialIn K (.ref pp_m_pf_pieces) "__get__" = some (some (.builtin "property.__get__"))) (t_m_pf_pieces : PySem.W.takesIn K (.ref pp_m_pf_pieces) = some true) (r_m_pf_pieces : PySem.W.recIn K pp_m_pf_pieces "property" = some (.ref f_m_pf_pieces :: rs_m_pf_pieces))
    (l_m_pf_pieces : K.lookup f_m_pf_pieces = some ⟨oc_m_pf_pieces, od_m_pf_pieces, .func (PySem.W.fnOf "pieces" "Profile.pieces" (defArgs sProfile_pieces) (defBody sProfile_pieces) (defScope sProfile_pieces) .none kV_m_pf_pieces dc_m_pf_pieces pm_m_pf_pieces an_m_pf_pieces cd_m_pf_pieces ct_m_pf_pieces), sl_m_pf_pieces⟩) (c_m_pf_pieces : PySem.W.codeIn K cd_m_pf_pieces "Profile.pieces" = true) (k_m_pf_pieces : PySem.W.keepIn K (.ref f_m_pf_pieces) = true)
    (a_m_sm___eq__ : PySem.W.findIn K (.ref CC_sm) "__eq__" = some (some (.ref f_m_sm___eq__))) (i_m_sm___eq__ : PySem.W.isFn K (.ref f_m_sm___eq__) = true)
    (l_m_sm___eq__ : K.lookup f_m_sm___eq__ = some ⟨oc_m_sm___eq__, od_m_sm___eq__, .func (PySem.W.fnOf "__eq__" "Summary.__eq__" (defArgs sSummary___eq__) (defBody sSummary___eq__) (defScope sSummary___eq__) .none kV_m_sm___eq__ dc_m_sm___eq__ pm_m_sm___eq__ an_m_sm___eq__ cd_m_sm___eq__ ct_m_sm___eq__), sl_m_sm___eq__⟩) (c_m_sm___eq__ : PySem.W.codeIn K cd_m_sm___eq__ "Summary.__eq__" = true) (k_m_sm___eq__ : PySem.W.keepIn K (.ref f_m_sm___eq__) = true)
    (a_m_pf___eq__ : PySem.W.findIn K (.ref CC_pf) "__eq__" = some (some (.ref f_m_pf___eq__))) (i_m_pf___eq__ : PySem.W.isFn K (.ref f_m_pf___eq__) = true)
    (l_m_pf___eq__ : K.lookup f_m_pf___eq__ = some ⟨oc_m_pf___eq__, od_m_pf___eq__, .func (PySem.W.fnOf "__eq__" "Profile.__eq__" (defArgs sProfile___eq__) (defBody sProfile___eq__) (defScope sProfile___eq__) .none kV_m_pf___eq__ dc_m_pf___eq__ pm_m_pf___eq__ an_m_pf___eq__ cd_m_pf___eq__ ct_m_pf___eq__), sl_m_pf___eq__⟩) (c_m_pf___eq__ : PySem.W.codeIn K cd_m_pf___eq__ "Profile.__eq__" = true) (k_m_pf___eq__ : PySem.W.keepIn K (.ref f_m_pf___eq__) = true)
    (a_m_pf___init__ : PySem.W.findIn K (.ref CC_pf) "__init__" = some (some (.ref f_m_pf___init__))) (i_m_pf___init__ : PySem.W.isFn K (.ref f_m_pf___init__) = true)
    (l_m_pf___init__ : K.lookup f_m_pf___init__ = some ⟨oc_m_pf___init__, od_m_pf___init__, .func (PySem.W.fnOf "__init__" "Profile.__init__" (defArgs sProfile___init__) (defBody sProfile___init__) (defScope sProfile___init__) .none kV_m_pf___init__ dc_m_pf___init__ pm_m_pf___init__ an_m_pf___init__ cd_m_pf___init__ ct_m_pf___init__), sl_m_pf___init__⟩) (c_m_pf___init__ : PySem.W.codeIn K cd_m_pf___init__ "Profile.__init__" = true) (k_m_pf___init__ : PySem.W.keepIn K (.ref f_m_pf___init__) = true)
    (a_m_sm___init__ : PySem.W.findIn K (.ref CC_sm) "__init__" = some (some (.ref f_m_sm___init__))) (i_m_sm___init__ : PySem.W.isFn K (.ref f_m_sm___init__) = true)
    (l_m_sm___init__ : K.lookup f_m_sm___init__ = some ⟨oc_m_sm___init__, od_m_sm___init__, .func (PySem.W.fnOf "__init__" "Summary.__init__" (defArgs sSummary___init__) (defBody sSummary___init__) (defScope sSummary___init__) .none kV_m_sm___init__ dc_m_sm___init__ pm_m_sm___init__ an_m_sm___init__ cd_m_sm___init__ ct_m_sm___init__), sl_m_sm___init__⟩) (c_m_sm___init__ : PySem.W.codeIn K cd_m_sm___init__ "Summary.__init__" = true) (k_m_sm___init__ : PySem.W.keepIn K (.ref f_m_sm___init__) = true)
    (xcMOST_SCANS : PySem.W.nsIn K mainGlobals "MOST_SCANS" = some (some (.int 40 tok_MOST_SCANS)))
    (xcMOST_BRACKETS : PySem.W.nsIn K mainGlobals "MOST_BRACKETS" = some (some (.int 5 tok_MOST_BRACKETS)))
    (xcMOST_DIGITS : PySem.W.nsIn K mainGlobals "MOST_DIGITS" = some (some (.int 31 tok_MOST_DIGITS)))
    (xcGREATEST : PySem.W.nsIn K mainGlobals "GREATEST" = some (some (.int 1000000000000000000000000000000 tok_GREATEST)))
    (xcCHUNK : PySem.W.nsIn K mainGlobals "CHUNK" = some (some (.int 10000000000000000000000000000000000000000000000000000000000000000 tok_CHUNK)))
    (xcMOST_WRITTEN : PySem.W.nsIn K mainGlobals "MOST_WRITTEN" = some (some (.int 10000 tok_MOST_WRITTEN)))
    (xsf_pg : PySem.W.selfFirst K CC_pg = true)
    (xrm_pg : PySem.W.findIn K (.ref CC_pg) "__rmul__" = some none)
    (xi1 : PySem.W.findIn K (.type "int") "__mul__" = some (some (.builtin "int.__mul__")))
    (xi2 : PySem.W.findIn K (.type "int") "__rmul__" = some (some (.builtin "int.__rmul__")))
    (xis_pg : PySem.W.subIn K (.type "int") (.ref CC_pg) = some false)
    (z_len : PySem.W.nsIn K mainGlobals "len" = some none)
    (z_abs : PySem.W.nsIn K mainGlobals "abs" = some none)
    (z_max : PySem.W.nsIn K mainGlobals "max" = some none)
    (z_min : PySem.W.nsIn K mainGlobals "min" = some none)
    (z_sum : PySem.W.nsIn K mainGlobals "sum" = some none)
    (z_all : PySem.W.nsIn K mainGlobals "all" = some none)
    (z_repr : PySem.W.nsIn K mainGlobals "repr" = some none)
    (z_sorted : PySem.W.nsIn K mainGlobals "sorted" = some none)
    (z_isinstance : PySem.W.nsIn K mainGlobals "isinstance" = some none)
    (z_int : PySem.W.nsIn K mainGlobals "int" = some none)
    (z_bool : PySem.W.nsIn K mainGlobals "bool" = some none)
    (z_list : PySem.W.nsIn K mainGlobals "list" = some none)
    (z_tuple : PySem.W.nsIn K mainGlobals "tuple" = some none)
    (z_set : PySem.W.nsIn K mainGlobals "set" = some none)
    (z_range : PySem.W.nsIn K mainGlobals "range" = some none)
    (z_zip : PySem.W.nsIn K mainGlobals "zip" = some none)
    (z_str : PySem.W.nsIn K mainGlobals "str" = some none)
    (z_enumerate : PySem.W.nsIn K mainGlobals "enumerate" = some none)
    (z_reversed : PySem.W.nsIn K mainGlobals "reversed" = some none)
    : ∃ fd : FuncData, (∀ (s : Shared) (v : Value), BindsTo s fd ⟨[v], []⟩ [("script", v)]) ∧ ∀ base : Heap, K.In base → base.Ns mainGlobals mg → FnG P w K mg base 24 fa fd ["script"] (spLaw K) := by
  have e := hfa.symm.trans (PySem.W.mg_of X G a_law)
  cases e
  have Fread_digits := fun_mk (st := sread_digits) l_read_digits c_read_digits k_read_digits
  have Fread_number := fun_mk (st := sread_number) l_read_number c_read_number k_read_number
  have Fread_scan := fun_mk (st := sread_scan) l_read_scan c_read_scan k_read_scan
  have Fread_times := fun_mk (st := sread_times) l_read_times c_read_times k_read_times
  have Fread_text := fun_mk (st := sread_text) l_read_text c_read_text k_read_text
  have Fcheck_program := fun_mk (st := scheck_program) l_check_program c_check_program k_check_program
  have Fprogram_of := fun_mk (st := sprogram_of) l_program_of c_program_of k_program_of
  have Fis_integer := fun_mk (st := sis_integer) l_is_integer c_is_integer k_is_integer
  have Fcheck_between := fun_mk (st := scheck_between) l_check_between c_check_between k_check_between
  have Frepeated := fun_mk (st := srepeated) l_repeated c_repeated k_repeated
  have Fis_repeat := fun_mk (st := sis_repeat) l_is_repeat c_is_repeat k_is_repeat
  have Fdigits_of := fun_mk (st := sdigits_of) l_digits_of c_digits_of k_digits_of
  have Fscan_word := fun_mk (st := sscan_word) l_scan_word c_scan_word k_scan_word
  have Fwords_of := fun_mk (st := swords_of) l_words_of c_words_of k_words_of
  have F_law_bag := fun_mk (st := s_law_bag) l__law_bag c__law_bag k__law_bag
  have F_law_pick := fun_mk (st := s_law_pick) l__law_pick c__law_pick k__law_pick
  have Fbackwards := fun_mk (st := sbackwards) l_backwards c_backwards k_backwards
  have F_law_scan := fun_mk (st := s_law_scan) l__law_scan c__law_scan k__law_scan
  have F_law_words := fun_mk (st := s_law_words) l__law_words c__law_words k__law_words
  have F_law_made := fun_mk (st := s_law_made) l__law_made c__law_made k__law_made
  have Fscan_length := fun_mk (st := sscan_length) l_scan_length c_scan_length k_scan_length
  have Fcount_accesses := fun_mk (st := scount_accesses) l_count_accesses c_count_accesses k_count_accesses
  have Fthree_from := fun_mk (st := sthree_from) l_three_from c_three_from k_three_from
  have Fplaced_scans := fun_mk (st := splaced_scans) l_placed_scans c_placed_scans k_placed_scans
  have Fstart_of := fun_mk (st := sstart_of) l_start_of c_start_of k_start_of
  have Fshared_intervals := fun_mk (st := sshared_intervals) l_shared_intervals c_shared_intervals k_shared_intervals
  have Fstraight_rows := fun_mk (st := sstraight_rows) l_straight_rows c_straight_rows k_straight_rows
  have Fstraight_pieces := fun_mk (st := sstraight_pieces) l_straight_pieces c_straight_pieces k_straight_pieces
  have Ffirst_reaching := fun_mk (st := sfirst_reaching) l_first_reaching c_first_reaching k_first_reaching
  have Fscan_outside := fun_mk (st := sscan_outside) l_scan_outside c_scan_outside k_scan_outside
  have Fothers_of := fun_mk (st := sothers_of) l_others_of c_others_of k_others_of
  have Fjoined := fun_mk (st := sjoined) l_joined c_joined k_joined
  have Fput_ahead := fun_mk (st := sput_ahead) l_put_ahead c_put_ahead k_put_ahead
  have Fthree_behind := fun_mk (st := sthree_behind) l_three_behind c_three_behind k_three_behind
  have Fmultiplied := fun_mk (st := smultiplied) l_multiplied c_multiplied k_multiplied
  have Fthree_times := fun_mk (st := sthree_times) l_three_times c_three_times k_three_times
  have Fthree_of := fun_mk (st := sthree_of) l_three_of c_three_of k_three_of
  have Fis_from_zero := fun_mk (st := sis_from_zero) l_is_from_zero c_is_from_zero k_is_from_zero
  have Fis_piece := fun_mk (st := sis_piece) l_is_piece c_is_piece k_is_piece
  have Fare_pieces := fun_mk (st := sare_pieces) l_are_pieces c_are_pieces k_are_pieces
  have Fcheck_distances := fun_mk (st := scheck_distances) l_check_distances c_check_distances k_check_distances
  have Fflattened := fun_mk (st := sflattened) l_flattened c_flattened k_flattened
  have Fcount_all := fun_mk (st := scount_all) l_count_all c_count_all k_count_all
  have Fsummary_from := fun_mk (st := ssummary_from) l_summary_from c_summary_from k_summary_from
  have Fsummary_of := fun_mk (st := ssummary_of) l_summary_of c_summary_of k_summary_of
  have Faddress_in := fun_mk (st := saddress_in) l_address_in c_address_in k_address_in
  have Fread_all := fun_mk (st := sread_all) l_read_all c_read_all k_read_all
  have Fwritten := fun_mk (st := swritten) l_written c_written k_written
  have F_law_pair := fun_mk (st := s_law_pair) l__law_pair c__law_pair k__law_pair
  have F_law_length := fun_mk (st := s_law_length) l__law_length c__law_length k__law_length
  have F_law_right := fun_mk (st := s_law_right) l__law_right c__law_right k__law_right
  have Flaw := fun_mk (st := slaw) l_law c_law k_law
  have Fm_pg___init__ := fun_mk (st := sProgram___init__) l_m_pg___init__ c_m_pg___init__ k_m_pg___init__
  have b_m_pg___init__ := Fm_pg___init__.binds (ps := ["self", "text"]) fun _ _ _ _ _ _ us hl => match us, hl with | [_, _], _ => rfl
  have Fm_pg___eq__ := fun_mk (st := sProgram___eq__) l_m_pg___eq__ c_m_pg___eq__ k_m_pg___eq__
  have b_m_pg___eq__ := Fm_pg___eq__.binds (ps := ["self", "other"]) fun _ _ _ _ _ _ us hl => match us, hl with | [_, _], _ => rfl
  have Fm_pg___add__ := fun_mk (st := sProgram___add__) l_m_pg___add__ c_m_pg___add__ k_m_pg___add__
  have b_m_pg___add__ := Fm_pg___add__.binds (ps := ["self", "other"]) fun _ _ _ _ _ _ us hl => match us, hl with | [_, _], _ => rfl
  have Fm_pg___mul__ := fun_mk (st := sProgram___mul__) l_m_pg___mul__ c_m_pg___mul__ k_m_pg___mul__
  have b_m_pg___mul__ := Fm_pg___mul__.binds (ps := ["self", "times"]) fun _ _ _ _ _ _ us hl => match us, hl with | [_, _], _ => rfl
  have Fm_pg_text := fun_mk (st := sProgram_text) l_m_pg_text c_m_pg_text k_m_pg_text
  have b_m_pg_text := Fm_pg_text.binds (ps := ["self"]) fun _ _ _ _ _ _ us hl => match us, hl with | [_], _ => rfl
  have Fm_pg___invert__ := fun_mk (st := sProgram___invert__) l_m_pg___invert__ c_m_pg___invert__ k_m_pg___invert__
  have b_m_pg___invert__ := Fm_pg___invert__.binds (ps := ["self"]) fun _ _ _ _ _ _ us hl => match us, hl with | [_], _ => rfl
  have Fm_pg_accesses := fun_mk (st := sProgram_accesses) l_m_pg_accesses c_m_pg_accesses k_m_pg_accesses
  have b_m_pg_accesses := Fm_pg_accesses.binds (ps := ["self"]) fun _ _ _ _ _ _ us hl => match us, hl with | [_], _ => rfl
  have Fm_sm_firsts := fun_mk (st := sSummary_firsts) l_m_sm_firsts c_m_sm_firsts k_m_sm_firsts
  have b_m_sm_firsts := Fm_sm_firsts.binds (ps := ["self"]) fun _ _ _ _ _ _ us hl => match us, hl with | [_], _ => rfl
  have Fm_sm_lasts := fun_mk (st := sSummary_lasts) l_m_sm_lasts c_m_sm_lasts k_m_sm_lasts
  have b_m_sm_lasts := Fm_sm_lasts.binds (ps := ["self"]) fun _ _ _ _ _ _ us hl => match us, hl with | [_], _ => rfl
  have Fm_pf_pieces := fun_mk (st := sProfile_pieces) l_m_pf_pieces c_m_pf_pieces k_m_pf_pieces
  have b_m_pf_pieces := Fm_pf_pieces.binds (ps := ["self"]) fun _ _ _ _ _ _ us hl => match us, hl with | [_], _ => rfl
  have Fm_sm___eq__ := fun_mk (st := sSummary___eq__) l_m_sm___eq__ c_m_sm___eq__ k_m_sm___eq__
  have b_m_sm___eq__ := Fm_sm___eq__.binds (ps := ["self", "other"]) fun _ _ _ _ _ _ us hl => match us, hl with | [_, _], _ => rfl
  have Fm_pf___eq__ := fun_mk (st := sProfile___eq__) l_m_pf___eq__ c_m_pf___eq__ k_m_pf___eq__
  have b_m_pf___eq__ := Fm_pf___eq__.binds (ps := ["self", "other"]) fun _ _ _ _ _ _ us hl => match us, hl with | [_, _], _ => rfl
  have Fm_pf___init__ := fun_mk (st := sProfile___init__) l_m_pf___init__ c_m_pf___init__ k_m_pf___init__
  have b_m_pf___init__ := Fm_pf___init__.binds (ps := ["self", "cold", "pieces"]) fun _ _ _ _ _ _ us hl => match us, hl with | [_, _, _], _ => rfl
  have Fm_sm___init__ := fun_mk (st := sSummary___init__) l_m_sm___init__ c_m_sm___init__ k_m_sm___init__
  have b_m_sm___init__ := Fm_sm___init__.binds (ps := ["self", "firsts", "lasts", "profile"]) fun _ _ _ _ _ _ us hl => match us, hl with | [_, _, _, _], _ => rfl
  have B : Bt2 mg := { len := PySem.W.mg_none_of X G z_len, abs := PySem.W.mg_none_of X G z_abs, max := PySem.W.mg_none_of X G z_max, min := PySem.W.mg_none_of X G z_min, sum := PySem.W.mg_none_of X G z_sum, all := PySem.W.mg_none_of X G z_all, repr := PySem.W.mg_none_of X G z_repr, sorted := PySem.W.mg_none_of X G z_sorted, isinstance := PySem.W.mg_none_of X G z_isinstance, int := PySem.W.mg_none_of X G z_int, bool := PySem.W.mg_none_of X G z_bool, list := PySem.W.mg_none_of X G z_list, tuple := PySem.W.mg_none_of X G z_tuple, set := PySem.W.mg_none_of X G z_set, range := PySem.W.mg_none_of X G z_range, zip := PySem.W.mg_none_of X G z_zip, str := PySem.W.mg_none_of X G z_str, enumerate := PySem.W.mg_none_of X G z_enumerate, reversed := PySem.W.mg_none_of X G z_reversed }
  have T_pg : Tpg K CC_pg := ⟨⟨pg_pg, hd_pg, po_pg, sa_pg⟩, na0_pg⟩
  have O_pg : Pof K CC_pg := ⟨T_pg.cl, xha_pg, xhn, xtk, xhm_pg, xme_pg⟩
  have hP_pg := PySem.W.mg_of X G aC_pg
  have T_pf : Ptx K CC_pf := ⟨⟨pg_pf, hd_pf, po_pf, sa_pf⟩, na0_pf, na1_pf⟩
  have O_pf : Pof K CC_pf := ⟨T_pf.cl, xha_pf, xhn, xtk, xhm_pf, xme_pf⟩
  have hP_pf := PySem.W.mg_of X G aC_pf
  have T_sm : Smx K CC_sm := ⟨⟨pg_sm, hd_sm, po_sm, sa_sm⟩, na0_sm, na1_sm, na2_sm⟩
  have O_sm : Pof K CC_sm := ⟨T_sm.cl, xha_sm, xhn, xtk, xhm_sm, xme_sm⟩
  have hP_sm := PySem.W.mg_of X G aC_sm
  have hMOST_SCANS : ∃ u, mg "MOST_SCANS" = some u ∧ RelV (.int (40)) u := ⟨_, PySem.W.mg_of X G xcMOST_SCANS, tok_MOST_SCANS, by first | rfl | rw [show (40 : Int) = 40 from by decide +kernel]⟩
  have hMOST_BRACKETS : ∃ u, mg "MOST_BRACKETS" = some u ∧ RelV (.int (5)) u := ⟨_, PySem.W.mg_of X G xcMOST_BRACKETS, tok_MOST_BRACKETS, by first | rfl | rw [show (5 : Int) = 5 from by decide +kernel]⟩
  have hMOST_DIGITS : ∃ u, mg "MOST_DIGITS" = some u ∧ RelV (.int (31)) u := ⟨_, PySem.W.mg_of X G xcMOST_DIGITS, tok_MOST_DIGITS, by first | rfl | rw [show (31 : Int) = 31 from by decide +kernel]⟩
  have hGREATEST : ∃ u, mg "GREATEST" = some u ∧ RelV (.int (10 ^ 30)) u := ⟨_, PySem.W.mg_of X G xcGREATEST, tok_GREATEST, by first | rfl | rw [show (10 ^ 30 : Int) = 1000000000000000000000000000000 from by decide +kernel]⟩
  have hCHUNK : ∃ u, mg "CHUNK" = some u ∧ RelV (.int (10 ^ 64)) u := ⟨_, PySem.W.mg_of X G xcCHUNK, tok_CHUNK, by first | rfl | rw [show (10 ^ 64 : Int) = 10000000000000000000000000000000000000000000000000000000000000000 from by decide +kernel]⟩
  have hMOST_WRITTEN : ∃ u, mg "MOST_WRITTEN" = some u ∧ RelV (.int (10000)) u := ⟨_, PySem.W.mg_of X G xcMOST_WRITTEN, tok_MOST_WRITTEN, by first | rfl | rw [show (10000 : Int) = 10000 from by decide +kernel]⟩
  refine ⟨PySem.W.fnOf "law" "law" (defArgs slaw) (defBody slaw) (defScope slaw) .none kV_law dc_law pm_law an_law cd_law ct_law, fun s v => .of_eq rfl, fun base _ _ => ?_⟩
  have mread_digits {k : Nat} {sp : Sp} (ok : FnOk P w K mg base CX0 k f_read_digits _ ["word", "most"] sp) : Df P w K mg base "read_digits" k ["word", "most"] sp := ⟨_, _, PySem.W.mg_of X G a_read_digits, Fread_digits.kp, Fread_digits.binds fun _ _ _ _ _ _ us hl => match us, hl with | [_, _], _ => rfl, ok⟩
  have mread_number {k : Nat} {sp : Sp} (ok : FnOk P w K mg base CX0 k f_read_number _ ["word"] sp) : Df P w K mg base "read_number" k ["word"] sp := ⟨_, _, PySem.W.mg_of X G a_read_number, Fread_number.kp, Fread_number.binds fun _ _ _ _ _ _ us hl => match us, hl with | [_], _ => rfl, ok⟩
  have mread_scan {k : Nat} {sp : Sp} (ok : FnOk P w K mg base CX0 k f_read_scan _ ["word"] sp) : Df P w K mg base "read_scan" k ["word"] sp := ⟨_, _, PySem.W.mg_of X G a_read_scan, Fread_scan.kp, Fread_scan.binds fun _ _ _ _ _ _ us hl => match us, hl with | [_], _ => rfl, ok⟩
  have mread_times {k : Nat} {sp : Sp} (ok : FnOk P w K mg base CX0 k f_read_times _ ["word"] sp) : Df P w K mg base "read_times" k ["word"] sp := ⟨_, _, PySem.W.mg_of X G a_read_times, Fread_times.kp, Fread_times.binds fun _ _ _ _ _ _ us hl => match us, hl with | [_], _ => rfl, ok⟩
  have mread_text {k : Nat} {sp : Sp} (ok : FnOk P w K mg base CX0 k f_read_text _ ["text"] sp) : Df P w K mg base "read_text" k ["text"] sp := ⟨_, _, PySem.W.mg_of X G a_read_text, Fread_text.kp, Fread_text.binds fun _ _ _ _ _ _ us hl => match us, hl with | [_], _ => rfl, ok⟩
  have mcheck_program {k : Nat} {sp : Sp} (ok : FnOk P w K mg base CX0 k f_check_program _ ["program"] sp) : Df P w K mg base "check_program" k ["program"] sp := ⟨_, _, PySem.W.mg_of X G a_check_program, Fcheck_program.kp, Fcheck_program.binds fun _ _ _ _ _ _ us hl => match us, hl with | [_], _ => rfl, ok⟩
  have mprogram_of {k : Nat} {sp : Sp} (ok : FnOk P w K mg base CX0 k f_program_of _ ["parts"] sp) : Df P w K mg base "program_of" k ["parts"] sp := ⟨_, _, PySem.W.mg_of X G a_program_of, Fprogram_of.kp, Fprogram_of.binds fun _ _ _ _ _ _ us hl => match us, hl with | [_], _ => rfl, ok⟩
  have mis_integer {k : Nat} {sp : Sp} (ok : FnOk P w K mg base CX0 k f_is_integer _ ["value"] sp) : Df P w K mg base "is_integer" k ["value"] sp := ⟨_, _, PySem.W.mg_of X G a_is_integer, Fis_integer.kp, Fis_integer.binds fun _ _ _ _ _ _ us hl => match us, hl with | [_], _ => rfl, ok⟩
  have mcheck_between {k : Nat} {sp : Sp} (ok : FnOk P w K mg base CX0 k f_check_between _ ["number", "least", "greatest"] sp) : Df P w K mg base "check_between" k ["number", "least", "greatest"] sp := ⟨_, _, PySem.W.mg_of X G a_check_between, Fcheck_between.kp, Fcheck_between.binds fun _ _ _ _ _ _ us hl => match us, hl with | [_, _, _], _ => rfl, ok⟩
  have mrepeated {k : Nat} {sp : Sp} (ok : FnOk P w K mg base CX0 k f_repeated _ ["parts", "times"] sp) : Df P w K mg base "repeated" k ["parts", "times"] sp := ⟨_, _, PySem.W.mg_of X G a_repeated, Frepeated.kp, Frepeated.binds fun _ _ _ _ _ _ us hl => match us, hl with | [_, _], _ => rfl, ok⟩
  have mis_repeat {k : Nat} {sp : Sp} (ok : FnOk P w K mg base CX0 k f_is_repeat _ ["part"] sp) : Df P w K mg base "is_repeat" k ["part"] sp := ⟨_, _, PySem.W.mg_of X G a_is_repeat, Fis_repeat.kp, Fis_repeat.binds fun _ _ _ _ _ _ us hl => match us, hl with | [_], _ => rfl, ok⟩
  have mdigits_of {k : Nat} {sp : Sp} (ok : FnOk P w K mg base CX0 k f_digits_of _ ["number"] sp) : Df P w K mg base "digits_of" k ["number"] sp := ⟨_, _, PySem.W.mg_of X G a_digits_of, Fdigits_of.kp, Fdigits_of.binds fun _ _ _ _ _ _ us hl => match us, hl with | [_], _ => rfl, ok⟩
  have mscan_word {k : Nat} {sp : Sp} (ok : FnOk P w K mg base CX0 k f_scan_word _ ["scan"] sp) : Df P w K mg base "scan_word" k ["scan"] sp := ⟨_, _, PySem.W.mg_of X G a_scan_word, Fscan_word.kp, Fscan_word.binds fun _ _ _ _ _ _ us hl => match us, hl with | [_], _ => rfl, ok⟩
  have mwords_of {k : Nat} {sp : Sp} (ok : FnOk P w K mg base CX0 k f_words_of _ ["parts"] sp) : Df P w K mg base "words_of" k ["parts"] sp := ⟨_, _, PySem.W.mg_of X G a_words_of, Fwords_of.kp, Fwords_of.binds fun _ _ _ _ _ _ us hl => match us, hl with | [_], _ => rfl, ok⟩
  have m_law_bag {k : Nat} {sp : Sp} (ok : FnOk P w K mg base CX0 k f__law_bag _ ["cell"] sp) : Df P w K mg base "_law_bag" k ["cell"] sp := ⟨_, _, PySem.W.mg_of X G a__law_bag, F_law_bag.kp, F_law_bag.binds fun _ _ _ _ _ _ us hl => match us, hl with | [_], _ => rfl, ok⟩
  have m_law_pick {k : Nat} {sp : Sp} (ok : FnOk P w K mg base CX0 k f__law_pick _ ["bag", "many"] sp) : Df P w K mg base "_law_pick" k ["bag", "many"] sp := ⟨_, _, PySem.W.mg_of X G a__law_pick, F_law_pick.kp, F_law_pick.binds fun _ _ _ _ _ _ us hl => match us, hl with | [_, _], _ => rfl, ok⟩
  have mbackwards {k : Nat} {sp : Sp} (ok : FnOk P w K mg base CX0 k f_backwards _ ["parts"] sp) : Df P w K mg base "backwards" k ["parts"] sp := ⟨_, _, PySem.W.mg_of X G a_backwards, Fbackwards.kp, Fbackwards.binds fun _ _ _ _ _ _ us hl => match us, hl with | [_], _ => rfl, ok⟩
  have m_law_scan {k : Nat} {sp : Sp} (ok : FnOk P w K mg base CX0 k f__law_scan _ ["bag", "wide"] sp) : Df P w K mg base "_law_scan" k ["bag", "wide"] sp := ⟨_, _, PySem.W.mg_of X G a__law_scan, F_law_scan.kp, F_law_scan.binds fun _ _ _ _ _ _ us hl => match us, hl with | [_, _], _ => rfl, ok⟩
  have m_law_words {k : Nat} {sp : Sp} (ok : FnOk P w K mg base CX0 k f__law_words _ ["bag", "most", "deep", "wide", "high"] sp) : Df P w K mg base "_law_words" k ["bag", "most", "deep", "wide", "high"] sp := ⟨_, _, PySem.W.mg_of X G a__law_words, F_law_words.kp, F_law_words.binds fun _ _ _ _ _ _ us hl => match us, hl with | [_, _, _, _, _], _ => rfl, ok⟩
  have m_law_made {k : Nat} {sp : Sp} (ok : FnOk P w K mg base CX0 k f__law_made _ ["bag", "most", "deep", "wide", "high"] sp) : Df P w K mg base "_law_made" k ["bag", "most", "deep", "wide", "high"] sp := ⟨_, _, PySem.W.mg_of X G a__law_made, F_law_made.kp, F_law_made.binds fun _ _ _ _ _ _ us hl => match us, hl with | [_, _, _, _, _], _ => rfl, ok⟩
  have mscan_length {k : Nat} {sp : Sp} (ok : FnOk P w K mg base CX0 k f_scan_length _ ["scan"] sp) : Df P w K mg base "scan_length" k ["scan"] sp := ⟨_, _, PySem.W.mg_of X G a_scan_length, Fscan_length.kp, Fscan_length.binds fun _ _ _ _ _ _ us hl => match us, hl with | [_], _ => rfl, ok⟩
  have mcount_accesses {k : Nat} {sp : Sp} (ok : FnOk P w K mg base CX0 k f_count_accesses _ ["parts"] sp) : Df P w K mg base "count_accesses" k ["parts"] sp := ⟨_, _, PySem.W.mg_of X G a_count_accesses, Fcount_accesses.kp, Fcount_accesses.binds fun _ _ _ _ _ _ us hl => match us, hl with | [_], _ => rfl, ok⟩
  have mthree_from {k : Nat} {sp : Sp} (ok : FnOk P w K mg base CX0 k f_three_from _ ["summary"] sp) : Df P w K mg base "three_from" k ["summary"] sp := ⟨_, _, PySem.W.mg_of X G a_three_from, Fthree_from.kp, Fthree_from.binds fun _ _ _ _ _ _ us hl => match us, hl with | [_], _ => rfl, ok⟩
  have mplaced_scans {k : Nat} {sp : Sp} (ok : FnOk P w K mg base CX0 k f_placed_scans _ ["scans"] sp) : Df P w K mg base "placed_scans" k ["scans"] sp := ⟨_, _, PySem.W.mg_of X G a_placed_scans, Fplaced_scans.kp, Fplaced_scans.binds fun _ _ _ _ _ _ us hl => match us, hl with | [_], _ => rfl, ok⟩
  have mstart_of {k : Nat} {sp : Sp} (ok : FnOk P w K mg base CX0 k f_start_of _ ["row", "low", "high"] sp) : Df P w K mg base "start_of" k ["row", "low", "high"] sp := ⟨_, _, PySem.W.mg_of X G a_start_of, Fstart_of.kp, Fstart_of.binds fun _ _ _ _ _ _ us hl => match us, hl with | [_, _, _], _ => rfl, ok⟩
  have mshared_intervals {k : Nat} {sp : Sp} (ok : FnOk P w K mg base CX0 k f_shared_intervals _ ["lasts", "firsts"] sp) : Df P w K mg base "shared_intervals" k ["lasts", "firsts"] sp := ⟨_, _, PySem.W.mg_of X G a_shared_intervals, Fshared_intervals.kp, Fshared_intervals.binds fun _ _ _ _ _ _ us hl => match us, hl with | [_, _], _ => rfl, ok⟩
  have mstraight_rows {k : Nat} {sp : Sp} (ok : FnOk P w K mg base CX0 k f_straight_rows _ ["lasts", "firsts"] sp) : Df P w K mg base "straight_rows" k ["lasts", "firsts"] sp := ⟨_, _, PySem.W.mg_of X G a_straight_rows, Fstraight_rows.kp, Fstraight_rows.binds fun _ _ _ _ _ _ us hl => match us, hl with | [_, _], _ => rfl, ok⟩
  have mstraight_pieces {k : Nat} {sp : Sp} (ok : FnOk P w K mg base CX0 k f_straight_pieces _ ["lasts", "firsts"] sp) : Df P w K mg base "straight_pieces" k ["lasts", "firsts"] sp := ⟨_, _, PySem.W.mg_of X G a_straight_pieces, Fstraight_pieces.kp, Fstraight_pieces.binds fun _ _ _ _ _ _ us hl => match us, hl with | [_, _], _ => rfl, ok⟩
  have mfirst_reaching {k : Nat} {sp : Sp} (ok : FnOk P w K mg base CX0 k f_first_reaching _ ["spans", "address"] sp) : Df P w K mg base "first_reaching" k ["spans", "address"] sp := ⟨_, _, PySem.W.mg_of X G a_first_reaching, Ffirst_reaching.kp, Ffirst_reaching.binds fun _ _ _ _ _ _ us hl => match us, hl with | [_, _], _ => rfl, ok⟩
  have mscan_outside {k : Nat} {sp : Sp} (ok : FnOk P w K mg base CX0 k f_scan_outside _ ["scan", "spans"] sp) : Df P w K mg base "scan_outside" k ["scan", "spans"] sp := ⟨_, _, PySem.W.mg_of X G a_scan_outside, Fscan_outside.kp, Fscan_outside.binds fun _ _ _ _ _ _ us hl => match us, hl with | [_, _], _ => rfl, ok⟩
  have mothers_of {k : Nat} {sp : Sp} (ok : FnOk P w K mg base CX0 k f_others_of _ ["scans", "taken"] sp) : Df P w K mg base "others_of" k ["scans", "taken"] sp := ⟨_, _, PySem.W.mg_of X G a_others_of, Fothers_of.kp, Fothers_of.binds fun _ _ _ _ _ _ us hl => match us, hl with | [_, _], _ => rfl, ok⟩
  have mjoined {k : Nat} {sp : Sp} (ok : FnOk P w K mg base CX0 k f_joined _ ["scans"] sp) : Df P w K mg base "joined" k ["scans"] sp := ⟨_, _, PySem.W.mg_of X G a_joined, Fjoined.kp, Fjoined.binds fun _ _ _ _ _ _ us hl => match us, hl with | [_], _ => rfl, ok⟩
  have mput_ahead {k : Nat} {sp : Sp} (ok : FnOk P w K mg base CX0 k f_put_ahead _ ["scans", "others"] sp) : Df P w K mg base "put_ahead" k ["scans", "others"] sp := ⟨_, _, PySem.W.mg_of X G a_put_ahead, Fput_ahead.kp, Fput_ahead.binds fun _ _ _ _ _ _ us hl => match us, hl with | [_, _], _ => rfl, ok⟩
  have mthree_behind {k : Nat} {sp : Sp} (ok : FnOk P w K mg base CX0 k f_three_behind _ ["one", "two"] sp) : Df P w K mg base "three_behind" k ["one", "two"] sp := ⟨_, _, PySem.W.mg_of X G a_three_behind, Fthree_behind.kp, Fthree_behind.binds fun _ _ _ _ _ _ us hl => match us, hl with | [_, _], _ => rfl, ok⟩
  have mmultiplied {k : Nat} {sp : Sp} (ok : FnOk P w K mg base CX0 k f_multiplied _ ["pieces", "times"] sp) : Df P w K mg base "multiplied" k ["pieces", "times"] sp := ⟨_, _, PySem.W.mg_of X G a_multiplied, Fmultiplied.kp, Fmultiplied.binds fun _ _ _ _ _ _ us hl => match us, hl with | [_, _], _ => rfl, ok⟩
  have mthree_times {k : Nat} {sp : Sp} (ok : FnOk P w K mg base CX0 k f_three_times _ ["three", "times"] sp) : Df P w K mg base "three_times" k ["three", "times"] sp := ⟨_, _, PySem.W.mg_of X G a_three_times, Fthree_times.kp, Fthree_times.binds fun _ _ _ _ _ _ us hl => match us, hl with | [_, _], _ => rfl, ok⟩
  have mthree_of {k : Nat} {sp : Sp} (ok : FnOk P w K mg base CX0 k f_three_of _ ["parts"] sp) : Df P w K mg base "three_of" k ["parts"] sp := ⟨_, _, PySem.W.mg_of X G a_three_of, Fthree_of.kp, Fthree_of.binds fun _ _ _ _ _ _ us hl => match us, hl with | [_], _ => rfl, ok⟩
  have mis_from_zero {k : Nat} {sp : Sp} (ok : FnOk P w K mg base CX0 k f_is_from_zero _ ["value"] sp) : Df P w K mg base "is_from_zero" k ["value"] sp := ⟨_, _, PySem.W.mg_of X G a_is_from_zero, Fis_from_zero.kp, Fis_from_zero.binds fun _ _ _ _ _ _ us hl => match us, hl with | [_], _ => rfl, ok⟩
  have mis_piece {k : Nat} {sp : Sp} (ok : FnOk P w K mg base CX0 k f_is_piece _ ["value"] sp) : Df P w K mg base "is_piece" k ["value"] sp := ⟨_, _, PySem.W.mg_of X G a_is_piece, Fis_piece.kp, Fis_piece.binds fun _ _ _ _ _ _ us hl => match us, hl with | [_], _ => rfl, ok⟩
  have mare_pieces {k : Nat} {sp : Sp} (ok : FnOk P w K mg base CX0 k f_are_pieces _ ["value"] sp) : Df P w K mg base "are_pieces" k ["value"] sp := ⟨_, _, PySem.W.mg_of X G a_are_pieces, Fare_pieces.kp, Fare_pieces.binds fun _ _ _ _ _ _ us hl => match us, hl with | [_], _ => rfl, ok⟩
  have mcheck_distances {k : Nat} {sp : Sp} (ok : FnOk P w K mg base CX0 k f_check_distances _ ["cold", "pieces"] sp) : Df P w K mg base "check_distances" k ["cold", "pieces"] sp := ⟨_, _, PySem.W.mg_of X G a_check_distances, Fcheck_distances.kp, Fcheck_distances.binds fun _ _ _ _ _ _ us hl => match us, hl with | [_, _], _ => rfl, ok⟩
  have mflattened {k : Nat} {sp : Sp} (ok : FnOk P w K mg base CX0 k f_flattened _ ["pieces"] sp) : Df P w K mg base "flattened" k ["pieces"] sp := ⟨_, _, PySem.W.mg_of X G a_flattened, Fflattened.kp, Fflattened.binds fun _ _ _ _ _ _ us hl => match us, hl with | [_], _ => rfl, ok⟩
  have mcount_all {k : Nat} {sp : Sp} (ok : FnOk P w K mg base CX0 k f_count_all _ ["scans"] sp) : Df P w K mg base "count_all" k ["scans"] sp := ⟨_, _, PySem.W.mg_of X G a_count_all, Fcount_all.kp, Fcount_all.binds fun _ _ _ _ _ _ us hl => match us, hl with | [_], _ => rfl, ok⟩
  have msummary_from {k : Nat} {sp : Sp} (ok : FnOk P w K mg base CX0 k f_summary_from _ ["three"] sp) : Df P w K mg base "summary_from" k ["three"] sp := ⟨_, _, PySem.W.mg_of X G a_summary_from, Fsummary_from.kp, Fsummary_from.binds fun _ _ _ _ _ _ us hl => match us, hl with | [_], _ => rfl, ok⟩
  have msummary_of {k : Nat} {sp : Sp} (ok : FnOk P w K mg base CX0 k f_summary_of _ ["program"] sp) : Df P w K mg base "summary_of" k ["program"] sp := ⟨_, _, PySem.W.mg_of X G a_summary_of, Fsummary_of.kp, Fsummary_of.binds fun _ _ _ _ _ _ us hl => match us, hl with | [_], _ => rfl, ok⟩
  have maddress_in {k : Nat} {sp : Sp} (ok : FnOk P w K mg base CX0 k f_address_in _ ["scan", "place"] sp) : Df P w K mg base "address_in" k ["scan", "place"] sp := ⟨_, _, PySem.W.mg_of X G a_address_in, Faddress_in.kp, Faddress_in.binds fun _ _ _ _ _ _ us hl => match us, hl with | [_, _], _ => rfl, ok⟩
  have mread_all {k : Nat} {sp : Sp} (ok : FnOk P w K mg base CX0 k f_read_all _ ["parts"] sp) : Df P w K mg base "read_all" k ["parts"] sp := ⟨_, _, PySem.W.mg_of X G a_read_all, Fread_all.kp, Fread_all.binds fun _ _ _ _ _ _ us hl => match us, hl with | [_], _ => rfl, ok⟩
  have mwritten {k : Nat} {sp : Sp} (ok : FnOk P w K mg base CX0 k f_written _ ["program"] sp) : Df P w K mg base "written" k ["program"] sp := ⟨_, _, PySem.W.mg_of X G a_written, Fwritten.kp, Fwritten.binds fun _ _ _ _ _ _ us hl => match us, hl with | [_], _ => rfl, ok⟩
  have m_law_pair {k : Nat} {sp : Sp} (ok : FnOk P w K mg base CX0 k f__law_pair _ ["word"] sp) : Df P w K mg base "_law_pair" k ["word"] sp := ⟨_, _, PySem.W.mg_of X G a__law_pair, F_law_pair.kp, F_law_pair.binds fun _ _ _ _ _ _ us hl => match us, hl with | [_], _ => rfl, ok⟩
  have m_law_length {k : Nat} {sp : Sp} (ok : FnOk P w K mg base CX0 k f__law_length _ ["words"] sp) : Df P w K mg base "_law_length" k ["words"] sp := ⟨_, _, PySem.W.mg_of X G a__law_length, F_law_length.kp, F_law_length.binds fun _ _ _ _ _ _ us hl => match us, hl with | [_], _ => rfl, ok⟩
  have m_law_right {k : Nat} {sp : Sp} (ok : FnOk P w K mg base CX0 k f__law_right _ ["told", "words"] sp) : Df P w K mg base "_law_right" k ["told", "words"] sp := ⟨_, _, PySem.W.mg_of X G a__law_right, F_law_right.kp, F_law_right.binds fun _ _ _ _ _ _ us hl => match us, hl with | [_, _], _ => rfl, ok⟩
  have mk_pg_init {k : Nat} {sp : Sp} (ok : FnOk P w K mg base CX0 k f_m_pg___init__ _ ["self", "text"] sp) : DMk P w K mg base "Program" CC_pg k ["self", "text"] sp := ⟨_, _, ⟨mk_pg, a_m_pg___init__, i_m_pg___init__, kc_pg⟩, PySem.W.mg_of X G aC_pg, b_m_pg___init__, ok⟩
  have mk_pg_eq {k : Nat} {sp : Sp} (ok : FnOk P w K mg base CX0 k f_m_pg___eq__ _ ["self", "other"] sp) : DMt P w K mg base CC_pg "__eq__" k ["self", "other"] sp := ⟨_, _, T_pg.cl, ⟨a_m_pg___eq__, i_m_pg___eq__, k_m_pg___eq__⟩, b_m_pg___eq__, ok⟩
  have mk_pg_add {k : Nat} {sp : Sp} (ok : FnOk P w K mg base CX0 k f_m_pg___add__ _ ["self", "other"] sp) : DMt P w K mg base CC_pg "__add__" k ["self", "other"] sp := ⟨_, _, T_pg.cl, ⟨a_m_pg___add__, i_m_pg___add__, k_m_pg___add__⟩, b_m_pg___add__, ok⟩
  have mk_pg_mul {k : Nat} {sp : Sp} (ok : FnOk P w K mg base CX0 k f_m_pg___mul__ _ ["self", "times"] sp) : DMt P w K mg base CC_pg "__mul__" k ["self", "times"] sp := ⟨_, _, T_pg.cl, ⟨a_m_pg___mul__, i_m_pg___mul__, k_m_pg___mul__⟩, b_m_pg___mul__, ok⟩
  have mk_pg_text {k : Nat} {sp : Sp} (ok : FnOk P w K mg base CX0 k f_m_pg_text _ ["self"] sp) : DPr P w K mg base CC_pg "text" k sp := ⟨_, _, _, T_pg.cl, ⟨a_m_pg_text, g_m_pg_text, t_m_pg_text, _, r_m_pg_text⟩, b_m_pg_text, ok⟩
  have mk_pg_invert {k : Nat} {sp : Sp} (ok : FnOk P w K mg base CX0 k f_m_pg___invert__ _ ["self"] sp) : DMt P w K mg base CC_pg "__invert__" k ["self"] sp := ⟨_, _, T_pg.cl, ⟨a_m_pg___invert__, i_m_pg___invert__, k_m_pg___invert__⟩, b_m_pg___invert__, ok⟩
  have mk_pg_accesses {k : Nat} {sp : Sp} (ok : FnOk P w K mg base CX0 k f_m_pg_accesses _ ["self"] sp) : DPr P w K mg base CC_pg "accesses" k sp := ⟨_, _, _, T_pg.cl, ⟨a_m_pg_accesses, g_m_pg_accesses, t_m_pg_accesses, _, r_m_pg_accesses⟩, b_m_pg_accesses, ok⟩
  have mk_sm_firsts {k : Nat} {sp : Sp} (ok : FnOk P w K mg base CX0 k f_m_sm_firsts _ ["self"] sp) : DPr P w K mg base CC_sm "firsts" k sp := ⟨_, _, _, T_sm.cl, ⟨a_m_sm_firsts, g_m_sm_firsts, t_m_sm_firsts, _, r_m_sm_firsts⟩, b_m_sm_firsts, ok⟩
  have mk_sm_lasts {k : Nat} {sp : Sp} (ok : FnOk P w K mg base CX0 k f_m_sm_lasts _ ["self"] sp) : DPr P w K mg base CC_sm "lasts" k sp := ⟨_, _, _, T_sm.cl, ⟨a_m_sm_lasts, g_m_sm_lasts, t_m_sm_lasts, _, r_m_sm_lasts⟩, b_m_sm_lasts, ok⟩
  have mk_pf_pieces {k : Nat} {sp : Sp} (ok : FnOk P w K mg base CX0 k f_m_pf_pieces _ ["self"] sp) : DPr P w K mg base CC_pf "pieces" k sp := ⟨_, _, _, T_pf.cl, ⟨a_m_pf_pieces, g_m_pf_pieces, t_m_pf_pieces, _, r_m_pf_pieces⟩, b_m_pf_pieces, ok⟩
  have mk_sm_eq {k : Nat} {sp : Sp} (ok : FnOk P w K mg base CX0 k f_m_sm___eq__ _ ["self", "other"] sp) : DMt P w K mg base CC_sm "__eq__" k ["self", "other"] sp := ⟨_, _, T_sm.cl, ⟨a_m_sm___eq__, i_m_sm___eq__, k_m_sm___eq__⟩, b_m_sm___eq__, ok⟩
  have mk_pf_eq {k : Nat} {sp : Sp} (ok : FnOk P w K mg base CX0 k f_m_pf___eq__ _ ["self", "other"] sp) : DMt P w K mg base CC_pf "__eq__" k ["self", "other"] sp := ⟨_, _, T_pf.cl, ⟨a_m_pf___eq__, i_m_pf___eq__, k_m_pf___eq__⟩, b_m_pf___eq__, ok⟩
  have mk_pf_init {k : Nat} {sp : Sp} (ok : FnOk P w K mg base CX0 k f_m_pf___init__ _ ["self", "cold", "pieces"] sp) : DMk P w K mg base "Profile" CC_pf k ["self", "cold", "pieces"] sp := ⟨_, _, ⟨mk_pf, a_m_pf___init__, i_m_pf___init__, kc_pf⟩, PySem.W.mg_of X G aC_pf, b_m_pf___init__, ok⟩
  have mk_sm_init {k : Nat} {sp : Sp} (ok : FnOk P w K mg base CX0 k f_m_sm___init__ _ ["self", "firsts", "lasts", "profile"] sp) : DMk P w K mg base "Summary" CC_sm k ["self", "firsts", "lasts", "profile"] sp := ⟨_, _, ⟨mk_sm, a_m_sm___init__, i_m_sm___init__, kc_sm⟩, PySem.W.mg_of X G aC_sm, b_m_sm___init__, ok⟩
  have R_read_digits := mread_digits (ok_rdD B Fread_digits)
  have R_read_number := mread_number (ok_rdN B hMOST_DIGITS hGREATEST R_read_digits Fread_number)
  have R_read_scan := mread_scan (ok_rdS B R_read_number Fread_scan)
  have R_read_times := mread_times (ok_rdT B R_read_number Fread_times)
  have R_read_text := mread_text (ok_read B hMOST_SCANS hMOST_BRACKETS R_read_scan R_read_times Fread_text)
  have R_Program___init__ := mk_pg_init (ok_initPg T_pg R_read_text Fm_pg___init__)
  have R_Program___eq__ := mk_pg_eq (ok_eqPg B T_pg O_pg hP_pg Fm_pg___eq__)
  have R_check_program := mcheck_program (ok_check_program B.toBt O_pg hP_pg Fcheck_program)
  have R_program_of := mprogram_of (ok_progOf T_pg R_Program___init__ Fprogram_of)
  have R_Program___add__ := mk_pg_add (ok_addPg T_pg R_check_program R_program_of Fm_pg___add__)
  have R_is_integer := mis_integer (ok_is_integer B.toBt Fis_integer)
  have R_check_between := mcheck_between (ok_check_between R_is_integer Fcheck_between)
  have R_repeated := mrepeated (ok_repd B Frepeated)
  have R_Program___mul__ := mk_pg_mul (ok_mulPg T_pg hGREATEST R_check_between R_repeated R_program_of Fm_pg___mul__)
  have R_is_repeat := mis_repeat (ok_is_repeat B Fis_repeat)
  have R_digits_of := mdigits_of (ok_digits B hCHUNK Fdigits_of)
  have R_scan_word := mscan_word (ok_scw B R_digits_of Fscan_word)
  have R_words_of := fun d => mwords_of (ok_words B R_is_repeat R_digits_of R_scan_word Fwords_of mwords_of d)
  have R_Program_text := mk_pg_text (ok_textP T_pg (R_words_of 12) Fm_pg_text)
  have R__law_bag := m_law_bag (ok_bag B.toBt F_law_bag)
  have R__law_pick := m_law_pick (ok_pick B.toBt F_law_pick)
  have R_backwards := fun d => mbackwards (ok_backs B R_is_repeat Fbackwards mbackwards d)
  have R_Program___invert__ := mk_pg_invert (ok_invPg T_pg (R_backwards 12) R_program_of Fm_pg___invert__)
  have R__law_scan := m_law_scan (ok_lscan B R__law_pick F_law_scan)
  have R__law_words := fun d => m_law_words (ok_lwords B R__law_pick R__law_scan F_law_words m_law_words d)
  have R__law_made := fun d => m_law_made (ok_madeO B xsf_pg xrm_pg xi1 xi2 xis_pg R_Program___init__ R_Program___add__ R_Program___mul__ R_Program___invert__ R__law_pick (R__law_words 6) F_law_made m_law_made d)
  have R_scan_length := mscan_length (ok_scan_length B.toBt Fscan_length)
  have R_count_accesses := fun d => mcount_accesses (ok_count B R_is_repeat R_scan_length Fcount_accesses mcount_accesses d)
  have R_Program_accesses := mk_pg_accesses (ok_accP T_pg (R_count_accesses 12) Fm_pg_accesses)
  have R_Summary_firsts := mk_sm_firsts (ok_firstsSm B.toBt T_sm T_pf Fm_sm_firsts)
  have R_Summary_lasts := mk_sm_lasts (ok_lastsSm B.toBt T_sm T_pf Fm_sm_lasts)
  have R_Profile_pieces := mk_pf_pieces (ok_pieces B.toBt T_pf Fm_pf_pieces)
  have R_three_from := mthree_from (ok_threeFrom T_sm T_pf R_Summary_firsts R_Summary_lasts R_Profile_pieces Fthree_from)
  have R_Summary___eq__ := mk_sm_eq (ok_eqSm B.toBt O_sm hP_sm R_three_from Fm_sm___eq__)
  have R_Profile___eq__ := mk_pf_eq (ok_eq B.toBt T_pf O_pf hP_pf R_Profile_pieces Fm_pf___eq__)
  have R_placed_scans := mplaced_scans (ok_placed B.toBt Fplaced_scans)
  have R_start_of := mstart_of (ok_startOf Fstart_of)
  have R_shared_intervals := mshared_intervals (ok_shared B.toBt (PySem.W.mg_none_of X G z_sorted) R_placed_scans R_start_of Fshared_intervals)
  have R_straight_rows := mstraight_rows (ok_rows B.toBt R_shared_intervals Fstraight_rows)
  have R_straight_pieces := mstraight_pieces (ok_straightPieces B.toBt R_straight_rows Fstraight_pieces)
  have R_first_reaching := mfirst_reaching (ok_first_reaching B.toBt Ffirst_reaching)
  have R_scan_outside := mscan_outside (ok_scan_outside B.toBt (PySem.W.mg_none_of X G z_reversed) R_first_reaching Fscan_outside)
  have R_others_of := mothers_of (ok_others_of B.toBt R_scan_outside Fothers_of)
  have R_joined := mjoined (ok_joined B.toBt Fjoined)
  have R_put_ahead := mput_ahead (ok_put_ahead R_others_of R_joined Fput_ahead)
  have R_three_behind := mthree_behind (ok_behind B.toBt R_straight_pieces R_put_ahead Fthree_behind)
  have R_multiplied := mmultiplied (ok_mulT Fmultiplied)
  have R_three_times := mthree_times (ok_times3 B.toBt R_straight_pieces R_multiplied Fthree_times)
  have R_three_of := fun d => mthree_of (ok_three B R_is_repeat R_three_behind R_three_times Fthree_of mthree_of d)
  have R_is_from_zero := mis_from_zero (ok_is_from_zero R_is_integer Fis_from_zero)
  have R_is_piece := mis_piece (ok_is_piece B.toBt R_is_integer Fis_piece)
  have R_are_pieces := mare_pieces (ok_are_pieces B.toBt R_is_piece Fare_pieces)
  have R_check_distances := mcheck_distances (ok_check_distances R_is_from_zero R_are_pieces Fcheck_distances)
  have R_flattened := mflattened (ok_flattened B.toBt Fflattened)
  have R_Profile___init__ := mk_pf_init (ok_initF T_pf R_check_distances R_flattened Fm_pf___init__)
  have R_Summary___init__ := mk_sm_init (ok_initSm B.toBt T_sm T_pf Fm_sm___init__)
  have R_count_all := mcount_all (ok_count_all B.toBt R_scan_length Fcount_all)
  have R_summary_from := msummary_from (ok_sumFrom T_sm T_pf R_Profile___init__ R_Summary___init__ R_count_all R_flattened Fsummary_from)
  have R_summary_of := msummary_of (ok_sumOf T_pg R_check_program (R_three_of 12) R_summary_from Fsummary_of)
  have R_address_in := maddress_in (ok_address_in Faddress_in)
  have R_read_all := fun d => mread_all (ok_readAll B R_is_repeat R_scan_length R_address_in Fread_all mread_all d)
  have R_written := mwritten (ok_written T_pg hMOST_WRITTEN R_check_program R_Program_accesses (R_read_all 12) Fwritten)
  have R__law_pair := m_law_pair (ok_lpair B F_law_pair)
  have R__law_length := m_law_length (ok_llen B R__law_pair F_law_length)
  have R__law_right := m_law_right (ok_right64 B xnf_pg xnf_sm xnf_pf T_sm R_Program___init__ R_Program___eq__ R_Program_text R_Program_accesses R_Summary___eq__ R_Summary_firsts R_Summary_lasts R_Profile___eq__ R_summary_of R_written R__law_length F_law_right)
  exact ok_law64 B xnf_pg xsf_pg xrm_pg xi1 xi2 xis_pg R_Program___init__ R_Program___eq__ R_Program___add__ R_Program___mul__ R_Program_text R__law_bag R__law_pick (R__law_made 5) R__law_right Flaw
end Kb
open PySem PySem.W PyProof.Rows
set_option maxHeartbeats 0 in
theorem PySem.Challenge.cw_scanmisses_k64_whole_texts_and_operators_holds : PySem.Challenge.rw_scanmisses_k64_whole_texts_and_operators.Holds := by
  w_on; o_law; k_head; (case hw => w_witness2)
  k_fill
  refine Kb.walk_g (l := PySem.Challenge.rw_scanmisses_k64_whole_texts_and_operators) (n := 63) (k := 24) (x := "script") (sp := fun w => Kb.spLaw _) rfl (by decide) rfl ⟨rfl, by decide, by decide⟩ (fun w h Y => PySem.W.kIn_of Y) ?F (fun _ _ a ns hl _ hS => ⟨a, ns, rfl, hS, hl, fun _ => rfl⟩)
  case F =>
    intro w mg fa h KX G hmg
    refine' Kb.all_mk KX G hmg ?a_read_digits ?l_read_digits ?c_read_digits ?k_read_digits ?a_read_number ?l_read_number ?c_read_number ?k_read_number ?a_read_scan ?l_read_scan ?c_read_scan ?k_read_scan ?a_read_times ?l_read_times ?c_read_times ?k_read_times ?a_read_text ?l_read_text ?c_read_text ?k_read_text ?a_check_program ?l_check_program ?c_check_program ?k_check_program ?a_program_of ?l_program_of ?c_program_of ?k_program_of ?a_is_integer ?l_is_integer ?c_is_integer ?k_is_integer ?a_check_between ?l_check_between ?c_check_between ?k_check_between ?a_repeated ?l_repeated ?c_repeated ?k_repeated ?a_is_repeat ?l_is_repeat ?c_is_repeat ?k_is_repeat ?a_digits_of ?l_digits_of ?c_digits_of ?k_digits_of ?a_scan_word ?l_scan_word ?c_scan_word ?k_scan_word ?a_words_of ?l_words_of ?c_words_of ?k_words_of ?a__law_bag ?l__law_bag ?c__law_bag ?k__law_bag ?a__law_pick ?l__law_pick ?c__law_pick ?k__law_pick ?a_backwards ?l_backwards ?c_backwards ?k_backwards ?a__law_scan ?l__law_scan ?c__law_scan ?k__law_scan ?a__law_words ?l__law_words ?c__law_words ?k__law_words ?a__law_made ?l__law_made ?c__law_made ?k__law_made ?a_scan_length ?l_scan_length ?c_scan_length ?k_scan_length ?a_count_accesses ?l_count_accesses ?c_count_accesses ?k_count_accesses ?a_three_from ?l_three_from ?c_three_from ?k_three_from ?a_placed_scans ?l_placed_scans ?c_placed_scans ?k_placed_scans ?a_start_of ?l_start_of ?c_start_of ?k_start_of ?a_shared_intervals ?l_shared_intervals ?c_shared_intervals ?k_shared_intervals ?a_straight_rows ?l_straight_rows ?c_straight_rows ?k_straight_rows ?a_straight_pieces ?l_straight_pieces ?c_straight_pieces ?k_straight_pieces ?a_first_reaching ?l_first_reaching ?c_first_reaching ?k_first_reaching ?a_scan_outside ?l_scan_outside ?c_scan_outside ?k_scan_outside ?a_others_of ?l_others_of ?c_others_of ?k_others_of ?a_joined ?l_joined ?c_joined ?k_joined ?a_put_ahead ?l_put_ahead ?c_put_ahead ?k_put_ahead ?a_three_behind ?l_three_behind ?c_three_behind ?k_three_behind ?a_multiplied ?l_multiplied ?c_multiplied ?k_multiplied ?a_three_times ?l_three_times ?c_three_times ?k_three_times ?a_three_of ?l_three_of ?c_three_of ?k_three_of ?a_is_from_zero ?l_is_from_zero ?c_is_from_zero ?k_is_from_zero ?a_is_piece ?l_is_piece ?c_is_piece ?k_is_piece ?a_are_pieces ?l_are_pieces ?c_are_pieces ?k_are_pieces ?a_check_distances ?l_check_distances ?c_check_distances ?k_check_distances ?a_flattened ?l_flattened ?c_flattened ?k_flattened ?a_count_all ?l_count_all ?c_count_all ?k_count_all ?a_summary_from ?l_summary_from ?c_summary_from ?k_summary_from ?a_summary_of ?l_summary_of ?c_summary_of ?k_summary_of ?a_address_in ?l_address_in ?c_address_in ?k_address_in ?a_read_all ?l_read_all ?c_read_all ?k_read_all ?a_written ?l_written ?c_written ?k_written ?a__law_pair ?l__law_pair ?c__law_pair ?k__law_pair ?a__law_length ?l__law_length ?c__law_length ?k__law_length ?a__law_right ?l__law_right ?c__law_right ?k__law_right ?a_law ?l_law ?c_law ?k_law ?aC_pg ?pg_pg ?hd_pg ?po_pg ?sa_pg ?mk_pg ?kc_pg ?na0_pg ?xha_pg ?xhn ?xtk ?xhm_pg ?xme_pg ?xnf_pg ?aC_pf ?pg_pf ?hd_pf ?po_pf ?sa_pf ?mk_pf ?kc_pf ?na0_pf ?na1_pf ?xha_pf ?xhm_pf ?xme_pf ?xnf_pf ?aC_sm ?pg_sm ?hd_sm ?po_sm ?sa_sm ?mk_sm ?kc_sm ?na0_sm ?na1_sm ?na2_sm ?xha_sm ?xhm_sm ?xme_sm ?xnf_sm ?a_m_pg___init__ ?i_m_pg___init__ ?l_m_pg___init__ ?c_m_pg___init__ ?k_m_pg___init__ ?a_m_pg___eq__ ?i_m_pg___eq__ ?l_m_pg___eq__ ?c_m_pg___eq__ ?k_m_pg___eq__ ?a_m_pg___add__ ?i_m_pg___add__ ?l_m_pg___add__ ?c_m_pg___add__ ?k_m_pg___add__ ?a_m_pg___mul__ ?i_m_pg___mul__ ?l_m_pg___mul__ ?c_m_pg___mul__ ?k_m_pg___mul__ ?a_m_pg_text ?g_m_pg_text ?t_m_pg_text ?r_m_pg_text ?l_m_pg_text ?c_m_pg_text ?k_m_pg_text ?a_m_pg___invert__ ?i_m_pg___invert__ ?l_m_pg___invert__ ?c_m_pg___invert__ ?k_m_pg___invert__ ?a_m_pg_accesses ?g_m_pg_accesses ?t_m_pg_accesses ?r_m_pg_accesses ?l_m_pg_accesses ?c_m_pg_accesses ?k_m_pg_accesses ?a_m_sm_firsts ?g_m_sm_firsts ?t_m_sm_firsts ?r_m_sm_firsts ?l_m_sm_firsts ?c_m_sm_firsts ?k_m_sm_firsts ?a_m_sm_lasts ?g_m_sm_lasts ?t_m_sm_lasts ?r_m_sm_lasts ?l_m_sm_lasts ?c_m_sm_lasts ?k_m_sm_lasts ?a_m_pf_pieces ?g_m_pf_pieces ?t_m_pf_pieces ?r_m_pf_pieces ?l_m_pf_pieces ?c_m_pf_pieces ?k_m_pf_pieces ?a_m_sm___eq__ ?i_m_sm___eq__ ?l_m_sm___eq__ ?c_m_sm___eq__ ?k_m_sm___eq__ ?a_m_pf___eq__ ?i_m_pf___eq__ ?l_m_pf___eq__ ?c_m_pf___eq__ ?k_m_pf___eq__ ?a_m_pf___init__ ?i_m_pf___init__ ?l_m_pf___init__ ?c_m_pf___init__ ?k_m_pf___init__ ?a_m_sm___init__ ?i_m_sm___init__ ?l_m_sm___init__ ?c_m_sm___init__ ?k_m_sm___init__ ?xcMOST_SCANS ?xcMOST_BRACKETS ?xcMOST_DIGITS ?xcGREATEST ?xcCHUNK ?xcMOST_WRITTEN ?xsf_pg ?xrm_pg ?xi1 ?xi2 ?xis_pg ?z_len ?z_abs ?z_max ?z_min ?z_sum ?z_all ?z_repr ?z_sorted ?z_isinstance ?z_int ?z_bool ?z_list ?z_tuple ?z_set ?z_range ?z_zip ?z_str ?z_enumerate ?z_reversed
    (case a_read_digits => k_is)
    (case l_read_digits => k_is)
    (case c_read_digits => k_is)
    (case k_read_digits => k_is)
    (case a_read_number => k_is)
    (case l_read_number => k_is)
    (case c_read_number => k_is)
    (case k_read_number => k_is)
    (case a_read_scan => k_is)
    (case l_read_scan => k_is)
    (case c_read_scan => k_is)
    (case k_read_scan => k_is)
    (case a_read_times => k_is)
    (case l_read_times => k_is)
    (case c_read_times => k_is)
    (case k_read_times => k_is)
    (case a_read_text => k_is)
    (case l_read_text => k_is)
    (case c_read_text => k_is)
    (case k_read_text => k_is)
    (case a_check_program => k_is)
    (case l_check_program => k_is)
    (case c_check_program => k_is)
    (case k_check_program => k_is)
    (case a_program_of => k_is)
    (case l_program_of => k_is)
    (case c_program_of => k_is)
    (case k_program_of => k_is)
    (case a_is_integer => k_is)
    (case l_is_integer => k_is)
    (case c_is_integer => k_is)
    (case k_is_integer => k_is)
    (case a_check_between => k_is)
    (case l_check_between => k_is)
    (case c_check_between => k_is)
    (case k_check_between => k_is)
    (case a_repeated => k_is)
    (case l_repeated => k_is)
    (case c_repeated => k_is)
    (case k_repeated => k_is)
    (case a_is_repeat => k_is)
    (case l_is_repeat => k_is)
    (case c_is_repeat => k_is)
    (case k_is_repeat => k_is)
    (case a_digits_of => k_is)
    (case l_digits_of => k_is)
    (case c_digits_of => k_is)
    (case k_digits_of => k_is)
    (case a_scan_word => k_is)
    (case l_scan_word => k_is)
    (case c_scan_word => k_is)
    (case k_scan_word => k_is)
    (case a_words_of => k_is)
    (case l_words_of => k_is)
    (case c_words_of => k_is)
    (case k_words_of => k_is)
    (case a__law_bag => k_is)
    (case l__law_bag => k_is)
    (case c__law_bag => k_is)
    (case k__law_bag => k_is)
    (case a__law_pick => k_is)
    (case l__law_pick => k_is)
    (case c__law_pick => k_is)
    (case k__law_pick => k_is)
    (case a_backwards => k_is)
    (case l_backwards => k_is)
    (case c_backwards => k_is)
    (case k_backwards => k_is)
    (case a__law_scan => k_is)
    (case l__law_scan => k_is)
    (case c__law_scan => k_is)
    (case k__law_scan => k_is)
    (case a__law_words => k_is)
    (case l__law_words => k_is)
    (case c__law_words => k_is)
    (case k__law_words => k_is)
    (case a__law_made => k_is)
    (case l__law_made => k_is)
    (case c__law_made => k_is)
    (case k__law_made => k_is)
    (case a_scan_length => k_is)
    (case l_scan_length => k_is)
    (case c_scan_length => k_is)
    (case k_scan_length => k_is)
    (case a_count_accesses => k_is)
    (case l_count_accesses => k_is)
    (case c_count_accesses => k_is)
    (case k_count_accesses => k_is)
    (case a_three_from => k_is)
    (case l_three_from => k_is)
    (case c_three_from => k_is)
    (case k_three_from => k_is)
    (case a_placed_scans => k_is)
    (case l_placed_scans => k_is)
    (case c_placed_scans => k_is)
    (case k_placed_scans => k_is)
    (case a_start_of => k_is)
    (case l_start_of => k_is)
    (case c_start_of => k_is)
    (case k_start_of => k_is)
    (case a_shared_intervals => k_is)
    (case l_shared_intervals => k_is)
    (case c_shared_intervals => k_is)
    (case k_shared_intervals => k_is)
    (case a_straight_rows => k_is)
    (case l_straight_rows => k_is)
    (case c_straight_rows => k_is)
    (case k_straight_rows => k_is)
    (case a_straight_pieces => k_is)
    (case l_straight_pieces => k_is)
    (case c_straight_pieces => k_is)
    (case k_straight_pieces => k_is)
    (case a_first_reaching => k_is)
    (case l_first_reaching => k_is)
    (case c_first_reaching => k_is)
    (case k_first_reaching => k_is)
    (case a_scan_outside => k_is)
    (case l_scan_outside => k_is)
    (case c_scan_outside => k_is)
    (case k_scan_outside => k_is)
    (case a_others_of => k_is)
    (case l_others_of => k_is)
    (case c_others_of => k_is)
    (case k_others_of => k_is)
    (case a_joined => k_is)
    (case l_joined => k_is)
    (case c_joined => k_is)
    (case k_joined => k_is)
    (case a_put_ahead => k_is)
    (case l_put_ahead => k_is)
    (case c_put_ahead => k_is)
    (case k_put_ahead => k_is)
    (case a_three_behind => k_is)
    (case l_three_behind => k_is)
    (case c_three_behind => k_is)
    (case k_three_behind => k_is)
    (case a_multiplied => k_is)
    (case l_multiplied => k_is)
    (case c_multiplied => k_is)
    (case k_multiplied => k_is)
    (case a_three_times => k_is)
    (case l_three_times => k_is)
    (case c_three_times => k_is)
    (case k_three_times => k_is)
    (case a_three_of => k_is)
    (case l_three_of => k_is)
    (case c_three_of => k_is)
    (case k_three_of => k_is)
    (case a_is_from_zero => k_is)
    (case l_is_from_zero => k_is)
    (case c_is_from_zero => k_is)
    (case k_is_from_zero => k_is)
    (case a_is_piece => k_is)
    (case l_is_piece => k_is)
    (case c_is_piece => k_is)
    (case k_is_piece => k_is)
    (case a_are_pieces => k_is)
    (case l_are_pieces => k_is)
    (case c_are_pieces => k_is)
    (case k_are_pieces => k_is)
    (case a_check_distances => k_is)
    (case l_check_distances => k_is)
    (case c_check_distances => k_is)
    (case k_check_distances => k_is)
    (case a_flattened => k_is)
    (case l_flattened => k_is)
    (case c_flattened => k_is)
    (case k_flattened => k_is)
    (case a_count_all => k_is)
    (case l_count_all => k_is)
    (case c_count_all => k_is)
    (case k_count_all => k_is)
    (case a_summary_from => k_is)
    (case l_summary_from => k_is)
    (case c_summary_from => k_is)
    (case k_summary_from => k_is)
    (case a_summary_of => k_is)
    (case l_summary_of => k_is)
    (case c_summary_of => k_is)
    (case k_summary_of => k_is)
    (case a_address_in => k_is)
    (case l_address_in => k_is)
    (case c_address_in => k_is)
    (case k_address_in => k_is)
    (case a_read_all => k_is)
    (case l_read_all => k_is)
    (case c_read_all => k_is)
    (case k_read_all => k_is)
    (case a_written => k_is)
    (case l_written => k_is)
    (case c_written => k_is)
    (case k_written => k_is)
    (case a__law_pair => k_is)
    (case l__law_pair => k_is)
    (case c__law_pair => k_is)
    (case k__law_pair => k_is)
    (case a__law_length => k_is)
    (case l__law_length => k_is)
    (case c__law_length => k_is)
    (case k__law_length => k_is)
    (case a__law_right => k_is)
    (case l__law_right => k_is)
    (case c__law_right => k_is)
    (case k__law_right => k_is)
    (case a_law => k_is)
    (case l_law => k_is)
    (case c_law => k_is)
    (case k_law => k_is)
    (case aC_pg => k_is)
    (case pg_pg => k_is)
    (case hd_pg => k_is)
    (case po_pg => k_is)
    (case sa_pg => k_is)
    (case mk_pg => k_is)
    (case kc_pg => k_is)
    (case na0_pg => k_is)
    (case xha_pg => k_is)
    (case xhn => k_is)
    (case xtk => k_is)
    (case xhm_pg => k_is)
    (case xme_pg => kit_is)
    (case xnf_pg => k_is)
    (case aC_pf => k_is)
    (case pg_pf => k_is)
    (case hd_pf => k_is)
    (case po_pf => k_is)
    (case sa_pf => k_is)
    (case mk_pf => k_is)
    (case kc_pf => k_is)
    (case na0_pf => k_is)
    (case na1_pf => k_is)
    (case xha_pf => k_is)
    (case xhm_pf => k_is)
    (case xme_pf => kit_is)
    (case xnf_pf => k_is)
    (case aC_sm => k_is)
    (case pg_sm => k_is)
    (case hd_sm => k_is)
    (case po_sm => k_is)
    (case sa_sm => k_is)
    (case mk_sm => k_is)
    (case kc_sm => k_is)
    (case na0_sm => k_is)
    (case na1_sm => k_is)
    (case na2_sm => k_is)
    (case xha_sm => k_is)
    (case xhm_sm => k_is)
    (case xme_sm => kit_is)
    (case xnf_sm => k_is)
    (case a_m_pg___init__ => k_is)
    (case i_m_pg___init__ => k_is)
    (case l_m_pg___init__ => k_is)
    (case c_m_pg___init__ => k_is)
    (case k_m_pg___init__ => k_is)
    (case a_m_pg___eq__ => k_is)
    (case i_m_pg___eq__ => k_is)
    (case l_m_pg___eq__ => k_is)
    (case c_m_pg___eq__ => k_is)
    (case k_m_pg___eq__ => k_is)
    (case a_m_pg___add__ => k_is)
    (case i_m_pg___add__ => k_is)
    (case l_m_pg___add__ => k_is)
    (case c_m_pg___add__ => k_is)
    (case k_m_pg___add__ => k_is)
    (case a_m_pg___mul__ => k_is)
    (case i_m_pg___mul__ => k_is)
    (case l_m_pg___mul__ => k_is)
    (case c_m_pg___mul__ => k_is)
    (case k_m_pg___mul__ => k_is)
    (case a_m_pg_text => k_is)
    (case g_m_pg_text => k_is)
    (case t_m_pg_text => k_is)
    (case r_m_pg_text => k_is)
    (case l_m_pg_text => k_is)
    (case c_m_pg_text => k_is)
    (case k_m_pg_text => k_is)
    (case a_m_pg___invert__ => k_is)
    (case i_m_pg___invert__ => k_is)
    (case l_m_pg___invert__ => k_is)
    (case c_m_pg___invert__ => k_is)
    (case k_m_pg___invert__ => k_is)
    (case a_m_pg_accesses => k_is)
    (case g_m_pg_accesses => k_is)
    (case t_m_pg_accesses => k_is)
    (case r_m_pg_accesses => k_is)
    (case l_m_pg_accesses => k_is)
    (case c_m_pg_accesses => k_is)
    (case k_m_pg_accesses => k_is)
    (case a_m_sm_firsts => k_is)
    (case g_m_sm_firsts => k_is)
    (case t_m_sm_firsts => k_is)
    (case r_m_sm_firsts => k_is)
    (case l_m_sm_firsts => k_is)
    (case c_m_sm_firsts => k_is)
    (case k_m_sm_firsts => k_is)
    (case a_m_sm_lasts => k_is)
    (case g_m_sm_lasts => k_is)
    (case t_m_sm_lasts => k_is)
    (case r_m_sm_lasts => k_is)
    (case l_m_sm_lasts => k_is)
    (case c_m_sm_lasts => k_is)
    (case k_m_sm_lasts => k_is)
    (case a_m_pf_pieces => k_is)
    (case g_m_pf_pieces => k_is)
    (case t_m_pf_pieces => k_is)
    (case r_m_pf_pieces => k_is)
    (case l_m_pf_pieces => k_is)
    (case c_m_pf_pieces => k_is)
    (case k_m_pf_pieces => k_is)
    (case a_m_sm___eq__ => k_is)
    (case i_m_sm___eq__ => k_is)
    (case l_m_sm___eq__ => k_is)
    (case c_m_sm___eq__ => k_is)
    (case k_m_sm___eq__ => k_is)
    (case a_m_pf___eq__ => k_is)
    (case i_m_pf___eq__ => k_is)
    (case l_m_pf___eq__ => k_is)
    (case c_m_pf___eq__ => k_is)
    (case k_m_pf___eq__ => k_is)
    (case a_m_pf___init__ => k_is)
    (case i_m_pf___init__ => k_is)
    (case l_m_pf___init__ => k_is)
    (case c_m_pf___init__ => k_is)
    (case k_m_pf___init__ => k_is)
    (case a_m_sm___init__ => k_is)
    (case i_m_sm___init__ => k_is)
    (case l_m_sm___init__ => k_is)
    (case c_m_sm___init__ => k_is)
    (case k_m_sm___init__ => k_is)
    (case xcMOST_SCANS => k_is)
    (case xcMOST_BRACKETS => k_is)
    (case xcMOST_DIGITS => k_is)
    (case xcGREATEST => k_is)
    (case xcCHUNK => k_is)
    (case xcMOST_WRITTEN => k_is)
    (case xsf_pg => k_is)
    (case xrm_pg => k_is)
    (case xi1 => k_is)
    (case xi2 => k_is)
    (case xis_pg => k_is)
    (case z_len => k_is)
    (case z_abs => k_is)
    (case z_max => k_is)
    (case z_min => k_is)
    (case z_sum => k_is)
    (case z_all => k_is)
    (case z_repr => k_is)
    (case z_sorted => k_is)
    (case z_isinstance => k_is)
    (case z_int => k_is)
    (case z_bool => k_is)
    (case z_list => k_is)
    (case z_tuple => k_is)
    (case z_set => k_is)
    (case z_range => k_is)
    (case z_zip => k_is)
    (case z_str => k_is)
    (case z_enumerate => k_is)
    (case z_reversed => k_is)
