import PyProof.Rows.All
import Wide.All
import OpenK.AllK
import Wide.FinOn
import PyProof.EqAt
import PyProof.EqKinds
import PyProof.TupleCall
import HandS.ForMost
import HandS.ForExc
import HandS.Strs
import HandS.SetFor
import HandS.SetBool
import HandS.Walk
import HandS.TupAny
import HandS.Rev
import HandS.RevRange
import HandS.IsInst
import HandS.SortInts
import HandS.ExcIs
import HandS.Flow
import PySem.Challenge.RW_fixworlds_k19_doing_all
import HandS.AnyAll
import HandS.Zip
import PyProof.GenCompD
import HandS.SetKeys
import HandS.SortRule
import PyProof.DictMoreH
import PyProof.Rows.BitMore
import HandS.WideBits
import KE.KDictList
import KE.KDictWalk
import HandS.Conv
import HandS.ListItems
import KE.GoesEnum
import PyProof.EnumMake
import HandS.DictComp
import HandS.SortKw
import KE.DataMinMax
import KE.KDictKeyed
import HandS.Style
import HandS.EndTab
set_option Elab.async false
set_option linter.all false
set_option maxRecDepth 100000
set_option maxHeartbeats 4000000
/-! two rules for sets of ints: made of a list, and by a comprehension -/
namespace Fw
open PySem PySem.Spec PyProof.Rows L2
abbrev freshSet (w : World) : Obj :=
  { cls := .type "set", dict := none, data := .set #[] 0 (.fresh 0 0 (!w.params.followText "set-order")) }
section
variable {P : Program} {w : World} {A : Around} {E : Value → Shared → Prop} {s : Shared}
/-- set(xs), xs a list of ints -/
theorem setOfList {l : Addr} {its : Array Value} (ns : List Int) {Q : Value → Shared → Prop}
    (quiet : A.handled = none) (lst : s.heap.IsList l its) (iv : IntsAre its.toList ns) (few : ns.length + 1 < scanBound)
    (next : ∀ (h' : Heap) (tk c : Nat), SetR w h' s.heap.objs.size (fun j => decide (j ∈ ns)) c → c ≤ ns.length →
      (∀ b o, s.heap.get? b = some o → h'.get? b = some o) → Q (.ref s.heap.objs.size) { s with heap := h', toks := tk }) :
    wpAny (model P w) A (call (.type "set") [.ref l]) Q E s := by
  have many : its.size = ns.length := by
    rw [← Array.length_toList]
    exact IntsAre.length iv
  have f1 := F.called_set.mro
  obtain ⟨c, tl, hmro⟩ := f1
  have f2 := F.called_set.made
  have f3 := F.called_set.sub
  refine wpAny_call (codeAny_of_tree ?_)
  show wpAny _ _ (callAny (.type "set") _) _ _ _
  refine wpAny_pure ⟨Code.quiet_builtin _ (by decide +kernel), codeAny_builtin F.entry_type_call ?_⟩
  rw [Around.under_plain (weight_type_call_type "set" [.ref l] []) rfl]
  have f4 := F.called_set.notType
  have f5 := F.called_set.canCreate
  have f6 := F.typeCall_set_1 (.ref l)
  repeat (any_goals (first | assumption | wp_step))
  generalize hN : s.heap.objs.size = N
  refine codeAny_mono (code_set_led1 (.ref l) (E := E)
    (Q₁ := fun v t => v = .ref N ∧ t = { s with heap := s.heap.push (freshSet w) }) ⟨by rw [hN], rfl⟩) fun r s₁ hr => ?_
  rcases r with e | fl
  · exact hr
  · cases fl
    case ret v =>
      obtain ⟨rfl, rfl⟩ := hr
      have got : (s.heap.push (freshSet w)).get? N = some (freshSet w) := by
        rw [← hN]
        exact Heap.get?_push_size _ rfl
      have ty : Shared.TypeIs { s with heap := s.heap.push (freshSet w) } (.ref N) "set" := ⟨_, got, rfl⟩
      have g1 := F.called_set.init.lookup
      have g2 := F.called_set.init.bind (.ref N)
      repeat (any_goals (first | assumption | wp_step))
      refine codeAny_mono (codeAny_call_builtin (R := wants (fun v t => v = .none ∧ ∃ h' tk c, t = { s with heap := h', toks := tk } ∧
          SetR w h' N (fun j => decide (j ∈ ns)) c ∧ c ≤ ns.length ∧ (∀ b o, s.heap.get? b = some o → h'.get? b = some o)) E)
          F.called_set.init.plain F.entry_set_init (check_set_init_1 ty ?_)) fun r₂ s₂ hr₂ => ?_
      · obtain ⟨ol, hol, hcl, nl, hdl⟩ := lst
        obtain ⟨ocls, odict, odata, oslots⟩ := ol
        simp only at hcl hdl
        subst hcl
        subst hdl
        have hol' : (s.heap.push (freshSet w)).get? l = some { cls := .type "list", dict := odict, data := .seq its nl, slots := oslots } :=
          Heap.get?_push_of_some _ hol
        have k1 := F.sub_list_set
        have k2 := F.sub_list_frozenset
        have k3 : (Value.type "list" == Value.type "dict") = false := by decide
        have lst1 : (s.heap.push (freshSet w)).IsList l its := ⟨_, hol', rfl, nl, rfl⟩
        unfold Builtin.«set.__init__» noKeywords Builtin.Frozenset.updateFrom
        generalize hPI : pyIter = PI
        wp_walk
        subst hPI
        refine wpAny_pyIter_list lst1 (wpAny_bind (wpAny_runValue ?_))
        have lN : l < N := by
          rw [← hN]
          exact Heap.lt_size hol
        have quiet3 : A.in1.in1.in1.handled = none := by simp [quiet]
        have size1 : (s.heap.push (freshSet w)).objs.size = N + 1 := by rw [Heap.size_push, hN]
        have l1 : l ≠ (s.heap.push (freshSet w)).objs.size := by
          rw [size1]
          exact Nat.ne_of_lt (Nat.lt_succ_of_lt lN)
        have n1 : N ∉ [(s.heap.push (freshSet w)).objs.size, l] := by
          rw [size1]
          simp only [List.mem_cons, List.not_mem_nil, or_false, not_or]
          exact ⟨Nat.ne_of_lt (Nat.lt_succ_self _), Nat.ne_of_gt lN⟩
        refine set_update_ints ((Walks.list quiet3 _ l l1 its).toS) N n1 ns many few (fun i v hv => ?_) (its.size - 0) 0 _ (by omega) (Nat.zero_le _)
          ⟨⟨_, Heap.get?_push_size _ rfl, rfl, rfl⟩, lst1.push _⟩ ⟨0, Nat.le_refl 0, setR_new_at (Heap.get?_push_of_some _ got)⟩ fun s' c' hm hc' hS' => ?_
        · have hi : i < ns.length := by
            rw [← many]
            exact (Array.getElem?_eq_some_iff.mp hv).1
          obtain ⟨t, e⟩ := PyProof.Rows.IntsAre.int_at iv i v (by rw [Array.getElem?_toList]; exact hv)
          refine ⟨ns[i], t, List.getElem?_eq_getElem hi, ?_⟩
          rw [e, List.getD_eq_getElem?_getD, List.getElem?_eq_getElem hi]
          rfl
        · obtain ⟨h', g2, d', tk', os'⟩ := s'
          obtain rfl : g2 = s.gens := hm.gens
          obtain rfl : d' = s.drawn := hm.drawn
          obtain rfl : os' = s.os := hm.os
          show wpAny _ _ _ _ _ _
          refine wpAny_pure ?_
          show wpAny _ _ (ret Value.none) _ _ _
          rw [many] at hc'
          refine wpAny_pure ⟨rfl, h', tk', c', rfl, hS', hc', fun b o e => ?_⟩
          have bN : b < N := by
            rw [← hN]
            exact Heap.lt_size e
          refine hm.heap b o ?_ (Heap.get?_push_of_some _ (Heap.get?_push_of_some _ e))
          rw [size1]
          simp only [List.mem_cons, List.not_mem_nil, or_false, not_or]
          exact ⟨Nat.ne_of_lt bN, Nat.ne_of_lt (Nat.lt_succ_of_lt bN)⟩
      · rcases r₂ with e | fl₂
        · exact hr₂
        · cases fl₂
          case ret r =>
            obtain ⟨rfl, h', tk, c', rfl, hS', hc', hk'⟩ := hr₂
            repeat (any_goals (first | assumption | wp_step))
            subst hN
            exact next _ _ _ hS' hc' hk'
          all_goals exact hr₂.elim
    all_goals exact hr.elim
end
end Fw

set_option maxRecDepth 100000
set_option maxHeartbeats 4000000
namespace Fw
open PySem PySem.Spec PyProof.Rows L2
theorem intsOfVals : ∀ {ns : List Int} {us : List Value}, Vals (ns.map V.int) us → IntsAre us ns
  | [], _, .nil => .nil
  | k :: _, _, .cons r t => by
    obtain ⟨tk, rfl⟩ := r
    exact .cons k tk (intsOfVals t)
theorem nodup_le : ∀ {l Vs : List Int}, l.Nodup → (∀ x ∈ l, x ∈ Vs) → l.length ≤ Vs.length
  | [], Vs, _, _ => Nat.zero_le _
  | a :: l, Vs, nd, h => by
    have nd' := List.nodup_cons.mp nd
    have ha := h a List.mem_cons_self
    have ih := nodup_le (Vs := Vs.erase a) nd'.2 fun x hx =>
      (List.mem_erase_of_ne (fun e => nd'.1 (by rw [← e]; exact hx))).mpr (h x (List.mem_cons_of_mem _ hx))
    have := List.length_erase_of_mem ha
    have : 0 < Vs.length := List.length_pos_of_mem ha
    rw [List.length_cons]
    omega
section
variable {X : Cx}
/-- set(xs), xs a list of ints -/
def rSetL (K : PySem.W.Frag) (w : World) : List V → Hp → VK → Prop := fun vs H Q => ∃ (l : Addr) (ns : List Int),
  vs = [V.ref l] ∧ SqL K H l (ns.map V.int) ∧ ns.length ≤ 4000 ∧
  ∀ p c, H p = none → c ≤ ns.length → (∀ Vs : List Int, (∀ x ∈ ns, x ∈ Vs) → c ≤ Vs.length) → Q (.ref p) (upd H p (SetO w p (fun j => decide (j ∈ ns)) c))
theorem call_setL (quiet : X.calm = true) : CallR X (.type "set") (rSetL X.K X.w) := by
  intro pins s σ H vs us Q I r h
  obtain ⟨l, ns, rfl, hl, few, q⟩ := h
  obtain ⟨its, rv, pl, _⟩ := I.list hl
  rw [Vals.ref1 r]
  have iv := intsOfVals rv
  have isl : s.heap.IsList l its.toArray := by
    obtain ⟨o, n, e1, e2, e3, e4⟩ := pl
    exact ⟨o, e1, e2, n, e4⟩
  refine setOfList ns (I.ok.hd quiet) isl (by simpa using iv) (Nat.lt_of_le_of_lt (Nat.succ_le_succ few) (by decide)) fun h' tk c R hc kp => ?_
  have fr : H s.heap.objs.size = none := I.hok.fresh (Nat.le_refl _)
  refine ⟨.ref _, _, I.laid (t' := tk) kp (Nat.le_refl _) (setO_new R), rfl, q _ c fr hc fun Vs hV => ?_⟩
  obtain ⟨o, es, ep, t, _, _, _, _, nd, mem, _, _, size, _⟩ := R
  rw [← size, ← Array.length_toList, ← List.length_map (f := keyOf)]
  exact nodup_le nd fun x hx => hV x (of_decide_eq_true ((mem x).mpr hx))
/-- what a comprehension of ints into a set asks: W tells the turns, D is the new set -/
def tSci (w : World) (wi : TI) (g : TG) (tt : TT) (te : TE) (vs : List Nat) : TE := fun σ H Q => wi σ H fun J H1 => ∀ D, H1 D = none →
  ∃ W : Nat → Nat → Hp → Prop, (∃ m, W 0 m (upd H1 D (SetO w D (fun _ => false) 0))) ∧ ∀ i m H, W i m H →
    (J.stop i H ∧ Q (.ref D) H) ∨ (J.go i H ∧ ∃ Nx : Hp → Prop, (∀ H', Nx H' → ∃ m', m' < m ∧ W (i + 1) m' H') ∧
      ∀ x H', J.yld i H x H' → g x (wipe σ vs) H' fun σ2 H2 => wipe σ2 vs = wipe σ vs ∧ tt σ2 H2 fun b H3 =>
        if b = true then te σ2 H3 fun y H4 => ∃ (k : Int) (S : Int → Bool) (n : Nat), y = .int k ∧ H4 D = some (SetO w D S n) ∧ n + 1 < scanBound ∧
          Nx (upd H4 D (SetO w D (fun j => S j || decide (j = k)) (if S k = true then n else n + 1))) else Nx H3)
theorem addInt {pins : List (Addr × Obj)} {σ : L2.St} {H : Hp} {s : Shared} {E : Value → Shared → Prop} {D : Addr} {S : Int → Bool} {n : Nat} {k : Int} {tk : Tok} {Q : Value → Shared → Prop}
    (I : Inv X pins σ H s) (at_ : H D = some (SetO X.w D S n)) (room : n + 1 < scanBound)
    (next : ∀ s', Inv X pins σ (upd H D (SetO X.w D (fun j => S j || decide (j = k)) (if S k = true then n else n + 1))) s' → Q .none s') :
    wpAny (model X.prog X.w) X.A (call (.builtin "set.add") [.ref D, .int k tk]) Q E s := by
  refine setR_add (setO_get I at_) room fun h' sb R => next _ ?_
  have there : ∃ u, h'.get? D = some u := by
    obtain ⟨o, _, _, _, e, _⟩ := id R
    exact ⟨o, e⟩
  exact I.write (e := D) (t' := s.toks + 1) (by rw [at_]; trivial) (.inl rfl) (fun b u hb hu => (sb.2 b hb).trans hu) there (setO_new R)
abbrev inner (X : Cx) (s : Shared) (scope : Scope) : Env :=
  compEnvC scope (cellsFrom (s.heap.objs.size + 1) scope.names (cloFrom X.env.cells scope.names [])) s.heap.objs.size X.env
theorem setComp {pins : List (Addr × Obj)} {s : Shared} {σ : L2.St} {H : Hp} {Q : VK} {elt tg iter : Expr} {ifs : List Expr} {scope : Scope} {own : List (PySem.Str × Nat)} {pos pos' : Pos} {wi : TI} {g : TG} {tt : TT} {te : TE}
    {use : Option (Value → Sem Unit)} {Qf : Value → Shared → Prop}
    (quiet : X.calm = true) (nd : X.N.Nodup) (I : Inv X pins σ H s) (ii : PI X tg iter wi) (blk : BlkOk X.N X.env.scope scope own)
    (gg : ∀ s H C cl fp, PG (X.blk s H scope (compEnvC scope cl C X.env) fp) tg g)
    (tts : ∀ s H C cl fp, PTs (X.blk s H scope (compEnvC scope cl C X.env) fp) ifs tt)
    (ee : ∀ s H C cl fp, PE (X.blk s H scope (compEnvC scope cl C X.env) fp) elt te)
    (fold : ∀ x, foldedSetIterable iter X.env x = pure x) (h : tSci X.w wi g tt te (own.map (·.2)) σ H Q)
    (fin : ∀ D C s' m H', Inv X pins σ H' s' → Q (.ref D) H' → s'.heap.Ns C m → FpOk X pins H' C →
      compPost (model X.prog X.w) X.A X.xe use Qf (.ref D) C (.ok .next) s') :
    wpAny (model X.prog X.w) X.A (comprehension (.SetComp elt [⟨tg, iter, ifs, 0⟩] scope pos) scope X.env pos' (newSet (.type "set")) false (eval iter X.env) use) Qf X.xe s := by
  have clo : ∀ y ∈ scope.names, y.2 = .free → ∃ c, X.env.cells.lookup y.1 = some c := fun y hy e =>
    (blk.free y hy e).elim (fun k => I.ok.has _ (.inl k)) fun k => I.ok.has _ (.inr k)
  refine wpAny_comprehension_free (use := use) rfl fold (closure_ok clo) blk.kind (fun y hy e => by rw [blk.uniq y hy, e])
    (thn (ii.run pins s σ H _ I h) fun xv s1 hx => thn hx fun itv s2 h2 => ?_)
  obtain ⟨it, fp, tn, J, H2, rfl, I2, T, t0, fp2, q⟩ := h2
  refine PpSet.newSet_ok (newEnv_comp ?_)
  generalize eD : s2.heap.objs.size = D
  obtain ⟨W, ⟨m0, w0⟩, turn⟩ := q D (I2.hok.fresh (Nat.le_of_eq eD))
  generalize e3 : ({ s2 with heap := s2.heap.push (freshSet X.w) } : Shared) = s3
  have heap3 : s3.heap = s2.heap.push (freshSet X.w) := by rw [← e3]
  have up3 : ∀ b o, s2.heap.get? b = some o → s3.heap.get? b = some o := fun b o e => by
    rw [heap3]
    exact Heap.get?_push_of_some _ e
  generalize eH : upd H2 D (SetO X.w D (fun _ => false) 0) = H3 at w0
  have I3 : Inv X pins σ H3 s3 := by
    rw [← eH, ← e3, ← eD]
    exact I2.laid (t' := s2.toks) (fun b o e => Heap.get?_push_of_some _ e) (Nat.le_refl _) (setO_new (setR_fresh X.w))
  have fp3 : ∀ b ∈ fp, FpOk X pins H3 b ∧ b < s3.heap.objs.size := fun b hb => by
    obtain ⟨o, e, _⟩ := T.obj _ _ t0 b hb
    have lt := Heap.lt_size e
    refine ⟨⟨?_, (fp2 b hb).2⟩, ?_⟩
    · rw [← eH, upd_ne (show b ≠ D by rw [← eD]; exact Nat.ne_of_lt lt)]
      exact (fp2 b hb).1
    · rw [heap3, Heap.size_push]
      exact Nat.lt_succ_of_lt lt
  have t3 : tn 0 s3.heap := T.keep _ _ _ t0 fun b _ o e => up3 b o e
  have I4 := block_start I3 blk nd fp3
  have g4 := gg s3 H3 s3.heap.objs.size (cellsFrom (s3.heap.objs.size + 1) scope.names (cloFrom X.env.cells scope.names [])) fp
  have t4 := tts s3 H3 s3.heap.objs.size (cellsFrom (s3.heap.objs.size + 1) scope.names (cloFrom X.env.cells scope.names [])) fp
  have e4 := ee s3 H3 s3.heap.objs.size (cellsFrom (s3.heap.objs.size + 1) scope.names (cloFrom X.env.cells scope.names [])) fp
  show codeAny _ _ (.compStart (.SetComp elt [⟨tg, iter, ifs, 0⟩] scope pos) 0 (.ref it) (.ref D)
      (compEnvC scope (cellsFrom (s3.heap.objs.size + 1) scope.names (cloFrom X.env.cells scope.names [])) s3.heap.objs.size X.env))
    (compPost (model X.prog X.w) X.A X.xe use Qf (.ref D) s3.heap.objs.size) { s3 with heap := pushCells (s3.heap.push { cls := .type "dict", data := .dict #[] }) scope.names }
  generalize eC : compEnvC scope (cellsFrom (s3.heap.objs.size + 1) scope.names (cloFrom X.env.cells scope.names [])) s3.heap.objs.size X.env = ce at I4 g4 t4 e4 ⊢
  have locs : ce.locals = s3.heap.objs.size := by
    subst eC
    rfl
  generalize eS : ({ s3 with heap := pushCells (s3.heap.push { cls := .type "dict", data := .dict #[] }) scope.names } : Shared) = s4 at I4 ⊢
  have ts4 : tn 0 s4.heap := T.keep _ _ _ t3 fun b _ o e => by
    rw [← eS]
    exact pushCells_keeps _ _ _ _ (Heap.get?_push_of_some _ e)
  have held : ∀ {σ' : L2.St} {H' : Hp} {s' : Shared}, Inv (X.blk s3 H3 scope ce fp) [] σ' H' s' → (∀ b ∈ fp, H' b = none) →
      ∀ b ∈ fp, FpOk (X.blk s3 H3 scope ce fp) [] H' b := fun {σ' H' s'} I' hn b hb =>
    have x := I'.ok.exf b hb
    ⟨hn b hb, x.1, I'.ok.exfs b hb, .inl hb, fun y c e => x.2 y c e, fun p hp => by cases hp⟩
  have body : codeAny (model X.prog X.w) X.A (.compLoop (.SetComp elt [⟨tg, iter, ifs, 0⟩] scope pos) 0 (.ref it) (.ref D) ce)
      (compPost (model X.prog X.w) X.A X.xe use Qf (.ref D) s3.heap.objs.size) s4 := by
    refine PpSet.compLoopS_any (fun n t => ∃ i G, Inv (X.blk s3 H3 scope ce fp) [] (wipe σ (own.map (·.2))) G t ∧ tn i t.heap ∧ (∀ b ∈ fp, G b = none) ∧ W i n G)
      ?_ m0 ⟨0, H3, I4, ts4, fun b hb => (fp3 b hb).1.1, w0⟩
    rintro n s5 ⟨i, H5, I5, t5, free5, w5⟩
    rcases turn i n H5 w5 with ⟨stop, qq⟩ | ⟨go, Nx, dec, step⟩
    · refine thnF (T.done (X.blk s3 H3 scope ce fp) rfl rfl rfl quiet i [] s5 _ H5 (fun _ _ => False) I5 (held I5 free5) t5 stop) fun r s6 ⟨hr, I6⟩ => ?_
      subst hr
      have free6 : H5 ce.locals = none := I6.free
      obtain ⟨m, ns6, _⟩ := I6.loc
      have ns6' : s6.heap.Ns ce.locals m := ns6
      rw [locs] at free6 ns6'
      have I7 : Inv X pins σ H5 s6 := I3.call' (ch := fp) I6.os I6.base I6.hok I6.bare fun b hb =>
        have z := (fp3 b hb).1
        ⟨z.2.2.2.1, z.2.1, z.2.2.2.2.1, z.2.2.2.2.2⟩
      exact fin D s3.heap.objs.size s6 m H5 I7 qq ns6' (I3.fpOk (Nat.le_refl _) free6)
    · refine thnF (T.item (X.blk s3 H3 scope ce fp) rfl rfl rfl quiet i [] s5 _ H5 (fun _ _ => False) I5 (held I5 free5) t5 go) fun r s6 ⟨u, hr, h6⟩ => ?_
      subst hr
      refine thnF h6 fun _ s7 ⟨x, H7, I7, rx, y7, t7, free7⟩ => ?_
      refine thnF (g4.run _ s7 _ H7 x u _ (I7.pinned (held I7 free7) (T.obj _ _ t7)) rx (step x H7 y7)) fun _ s8 ⟨σ8, H8, I8, wi8, q8⟩ => ?_
      refine thnF (t4.run _ s8 σ8 H8 _ I8 q8) fun b s9 ⟨H9, I9, q9⟩ => ?_
      have over : ∀ {t : Shared} {G : Hp}, Inv (X.blk s3 H3 scope ce fp) ([] ++ pinsAt fp s7.heap) σ8 G t → Nx G →
          ∃ m, m < n ∧ ∃ i G, Inv (X.blk s3 H3 scope ce fp) [] (wipe σ (own.map (·.2))) G t ∧ tn i t.heap ∧ (∀ b ∈ fp, G b = none) ∧ W i m G := fun {t G} It nx => by
        obtain ⟨m', lt, w'⟩ := dec G nx
        have same : ∀ b ∈ fp, ∀ o, s7.heap.get? b = some o → t.heap.get? b = some o ∧ G b = none := fun b hb o e =>
          have z := It.pin (b, o) (List.mem_append_right _ (List.mem_append_right _ (mem_pinsAt hb e)))
          ⟨z.1, z.2.1⟩
        refine ⟨m', lt, i + 1, G, (It.unpinned (pins := [])).weak (by rw [← wi8, wipe_length]) (fun j v e => ?_), T.keep _ _ _ t7 fun b hb o e => (same b hb o e).1, fun b hb => ?_, w'⟩
        · rw [← wi8] at e
          exact (wipe_some e).1
        · obtain ⟨o, e, _⟩ := T.obj _ _ t7 b hb
          exact (same b hb o e).2
      cases b
      · simp only [Bool.false_eq_true, if_false] at q9 ⊢
        exact over I9 q9
      · simp only [if_true] at q9 ⊢
        refine thnF (e4.run _ s9 σ8 H9 _ I9 q9) fun z s10 ⟨yv, H10, I10, rz, k, S0, n0, ey, hD, room, nx⟩ => ?_
        subst ey
        obtain ⟨tk, rfl⟩ : ∃ tk, z = Value.int k tk := rz
        exact addInt (X := X.blk s3 H3 scope ce fp) I10 hD room fun s11 I11 => over I11 nx
  exact PpSet.codeAny_compStart_set body (T.self X.A 0 _ _ _ ts4 body)
/-- {e for target in iter if test}, e an int -/
theorem pe_sci {elt tg iter : Expr} {ifs : List Expr} {scope : Scope} {own : List (PySem.Str × Nat)} {pos : Pos} {wi : TI} {g : TG} {tt : TT} {te : TE} (quiet : X.calm = true) (nd : X.N.Nodup) (ii : PI X tg iter wi) (blk : BlkOk X.N X.env.scope scope own)
    (gg : ∀ (s : Shared) (H : Hp) (C : Addr) (cl : List (PySem.Str × Addr)) (fp : List Addr), PG (X.blk s H scope (compEnvC scope cl C X.env) fp) tg g)
    (tts : ∀ (s : Shared) (H : Hp) (C : Addr) (cl : List (PySem.Str × Addr)) (fp : List Addr), PTs (X.blk s H scope (compEnvC scope cl C X.env) fp) ifs tt)
    (ee : ∀ (s : Shared) (H : Hp) (C : Addr) (cl : List (PySem.Str × Addr)) (fp : List Addr), PE (X.blk s H scope (compEnvC scope cl C X.env) fp) elt te)
    (fold : ∀ x, foldedSetIterable iter X.env x = pure x := by intro _; rfl) :
    PE X (.SetComp elt [⟨tg, iter, ifs, 0⟩] scope pos) (tSci X.w wi g tt te (own.map (·.2))) := by
  constructor
  intro pins s σ H Q I h
  rw [PpSet.eval_SetComp]
  refine setComp quiet nd I ii blk gg tts ee fold h fun D C s' m H' I' q hn f => ⟨m, hn, fun h'' sb => ⟨.ref D, H', ?_, rfl, q⟩⟩
  exact I'.turned (t' := s'.toks) (fun b o hb e => (sb.2 b hb).trans e) f.1 f.2.1 f.2.2.2.1 f.2.2.2.2.1 f.2.2.2.2.2
end
/-- over any walk: Pv by the turn and the heap -/
theorem sci_it {J : It} {n : Nat} {G : Hp → Prop} {Y : Nat → Hp → V → Hp → Prop} (w : Walk J n G Y) {wd : World} {g : TG} {tt : TT} {te : TE} {vs : List Nat} {σ : L2.St} {H1 : Hp} {D : Addr} {Qd : Hp → Prop} (Pv : Nat → Hp → Prop)
    (h0 : Pv 0 (upd H1 D (SetO wd D (fun _ => false) 0))) (hG : ∀ i H, i ≤ n → Pv i H → G H)
    (hs : ∀ i x H H', i < n → Pv i H → Y i H x H' → g x (wipe σ vs) H' fun σ2 H2 => wipe σ2 vs = wipe σ vs ∧ tt σ2 H2 fun b H3 =>
      if b = true then te σ2 H3 fun y H4 => ∃ (k : Int) (S : Int → Bool) (m : Nat), y = .int k ∧ H4 D = some (SetO wd D S m) ∧ m + 1 < scanBound ∧
        Pv (i + 1) (upd H4 D (SetO wd D (fun j => S j || decide (j = k)) (if S k = true then m else m + 1))) else Pv (i + 1) H3) (hd : ∀ H, Pv n H → Qd H) :
    ∃ W : Nat → Nat → Hp → Prop, (∃ m, W 0 m (upd H1 D (SetO wd D (fun _ => false) 0))) ∧ ∀ i m H, W i m H →
      (J.stop i H ∧ Qd H) ∨ (J.go i H ∧ ∃ Nx : Hp → Prop, (∀ H', Nx H' → ∃ m', m' < m ∧ W (i + 1) m' H') ∧ ∀ x H', J.yld i H x H' → g x (wipe σ vs) H' fun σ2 H2 => wipe σ2 vs = wipe σ vs ∧ tt σ2 H2 fun b H3 =>
        if b = true then te σ2 H3 fun y H4 => ∃ (k : Int) (S : Int → Bool) (m : Nat), y = .int k ∧ H4 D = some (SetO wd D S m) ∧ m + 1 < scanBound ∧
          Nx (upd H4 D (SetO wd D (fun j => S j || decide (j = k)) (if S k = true then m else m + 1))) else Nx H3) := by
  refine ⟨fun i m H => m + i = n ∧ Pv i H, ⟨n, rfl, h0⟩, fun i m H hW => ?_⟩
  obtain ⟨e, p⟩ := hW
  have q := hG i H (by omega) p
  cases m with
  | zero =>
    have e2 : i = n := by omega
    subst e2
    exact .inl ⟨w.stops H q, hd H p⟩
  | succ m =>
    have lt : i < n := by omega
    exact .inr ⟨w.goes i H lt q, Pv (i + 1), fun H' p' => ⟨m, Nat.lt_succ_self m, by omega, p'⟩, fun x H' y => hs i x H H' lt p (w.yields i H x H' lt q y)⟩
end Fw

/-! Statements as trees, and what the passes over their parts find. Plain Lean. -/
namespace Fw
inductive Leaf | has | lacks | var
  deriving DecidableEq
inductive One | some | all | least | most
  deriving DecidableEq
def One.bind : One → Bool
  | .least => true
  | .most => true
  | _ => false
inductive F
  | nul (b : Bool)
  | leaf (k : Leaf) (n : Int)
  | two (b : Bool) (f g : F)
  | one (k : One) (n : Int) (f : F)
  deriving DecidableEq
inductive Hd
  | nul (b : Bool)
  | leaf (k : Leaf) (n : Int)
  | two (b : Bool)
  | one (k : One) (n : Int)
  deriving DecidableEq
def F.hd : F → Hd
  | .nul b => .nul b
  | .leaf k n => .leaf k n
  | .two b _ _ => .two b
  | .one k n _ => .one k n
def F.size : F → Nat
  | .nul _ => 1
  | .leaf _ _ => 1
  | .two _ f g => f.size + g.size + 1
  | .one _ _ f => f.size + 1
def F.depth : F → Nat
  | .nul _ => 1
  | .leaf _ _ => 1
  | .two _ f g => max f.depth g.depth + 1
  | .one _ _ f => f.depth + 1
theorem F.size_pos (t : F) : 0 < t.size := by cases t <;> simp [F.size]
theorem F.size_depth : ∀ t : F, t.size + 1 ≤ 2 ^ t.depth
  | .nul _ => by simp [F.size, F.depth]
  | .leaf _ _ => by simp [F.size, F.depth]
  | .two _ f g => by
    have h1 := F.size_depth f
    have h2 := F.size_depth g
    have m1 : 2 ^ f.depth ≤ 2 ^ max f.depth g.depth := Nat.pow_le_pow_right (by decide) (Nat.le_max_left _ _)
    have m2 : 2 ^ g.depth ≤ 2 ^ max f.depth g.depth := Nat.pow_le_pow_right (by decide) (Nat.le_max_right _ _)
    simp only [F.size, F.depth, Nat.pow_succ]
    omega
  | .one _ _ f => by
    have h1 := F.size_depth f
    have h2 := F.size_pos f
    simp only [F.size, F.depth, Nat.pow_succ]
    omega
abbrev Stk := List (Int × Nat)
structure Rec where
  sub : F
  aro : Int
  stk : Stk
def pushS : F → Nat → Stk → Stk
  | .one k n _, i, st => if k.bind then (n, i) :: st else st
  | _, _, st => st
def info : F → Int → Nat → Stk → List Rec
  | .nul b, a, _, st => [⟨.nul b, a, st⟩]
  | .leaf k n, a, _, st => [⟨.leaf k n, a, st⟩]
  | .two b f g, a, i, st => ⟨.two b f g, a, st⟩ :: (info f i (i + 1) st ++ info g i (i + 1 + f.size) st)
  | .one k n f, a, i, st => ⟨.one k n f, a, st⟩ :: info f i (i + 1) (if k.bind then (n, i) :: st else st)
theorem info_len : ∀ (t : F) (a : Int) (i : Nat) (st : Stk), (info t a i st).length = t.size
  | .nul _, _, _, _ => rfl
  | .leaf _ _, _, _, _ => rfl
  | .two _ f g, a, i, st => by simp [info, F.size, info_len f, info_len g]
  | .one k n f, a, i, st => by simp [info, F.size, info_len f]
theorem info_head : ∀ (t : F) (a : Int) (i : Nat) (st : Stk), (info t a i st)[0]? = some ⟨t, a, st⟩
  | .nul _, _, _, _ => rfl
  | .leaf _ _, _, _, _ => rfl
  | .two _ _ _, _, _, _ => rfl
  | .one _ _ _, _, _, _ => rfl
/-! ### a part's record and the one around it -/
theorem info_up : ∀ (t : F) (a : Int) (i : Nat) (st : Stk) (j : Nat) (r : Rec), (info t a i st)[j]? = some r →
    (j = 0 ∧ r = ⟨t, a, st⟩) ∨ ∃ p r', p < j ∧ (info t a i st)[p]? = some r' ∧ r.aro = ((i + p : Nat) : Int) ∧ r.stk = pushS r'.sub (i + p) r'.stk
  | .nul b, a, i, st, j, r, h => by
    cases j with
    | zero => exact .inl ⟨rfl, (Option.some.inj h).symm⟩
    | succ j => simp [info] at h
  | .leaf k n, a, i, st, j, r, h => by
    cases j with
    | zero => exact .inl ⟨rfl, (Option.some.inj h).symm⟩
    | succ j => simp [info] at h
  | .two b f g, a, i, st, j, r, h => by
    cases j with
    | zero => exact .inl ⟨rfl, (Option.some.inj h).symm⟩
    | succ j =>
      simp only [info, List.getElem?_cons_succ] at h
      by_cases lt : j < f.size
      · rw [List.getElem?_append_left (by rw [info_len]; exact lt)] at h
        rcases info_up f i (i + 1) st j r h with ⟨rfl, rfl⟩ | ⟨p, r', hp, e, e1, e2⟩
        · exact .inr ⟨0, ⟨.two b f g, a, st⟩, Nat.succ_pos _, rfl, by simp, rfl⟩
        · refine .inr ⟨p + 1, r', by omega, ?_, by rw [e1]; congr 1; omega, by rw [e2]; congr 1; omega⟩
          simp only [info, List.getElem?_cons_succ]
          rw [List.getElem?_append_left (by rw [info_len]; omega)]
          exact e
      · rw [List.getElem?_append_right (by rw [info_len]; omega), info_len] at h
        rcases info_up g i (i + 1 + f.size) st (j - f.size) r h with ⟨e0, rfl⟩ | ⟨p, r', hp, e, e1, e2⟩
        · exact .inr ⟨0, ⟨.two b f g, a, st⟩, Nat.succ_pos _, rfl, by simp, rfl⟩
        · refine .inr ⟨p + f.size + 1, r', by omega, ?_, by rw [e1]; congr 1; omega, by rw [e2]; congr 1; omega⟩
          simp only [info, List.getElem?_cons_succ]
          rw [List.getElem?_append_right (by rw [info_len]; omega), info_len, show p + f.size - f.size = p by omega]
          exact e
  | .one k n f, a, i, st, j, r, h => by
    cases j with
    | zero => exact .inl ⟨rfl, (Option.some.inj h).symm⟩
    | succ j =>
      simp only [info, List.getElem?_cons_succ] at h
      rcases info_up f i (i + 1) _ j r h with ⟨rfl, rfl⟩ | ⟨p, r', hp, e, e1, e2⟩
      · exact .inr ⟨0, ⟨.one k n f, a, st⟩, Nat.succ_pos _, rfl, by simp, rfl⟩
      · refine .inr ⟨p + 1, r', by omega, ?_, by rw [e1]; congr 1; omega, by rw [e2]; congr 1; omega⟩
        simp only [info, List.getElem?_cons_succ]
        exact e
/-- the whole, seen from its root -/
abbrev infos (t : F) : List Rec := info t (-1) 0 []
theorem infos_stk {t : F} : ∀ (m j : Nat) (r : Rec) (x : Int) (q : Nat) (rest : Stk), j ≤ m → (infos t)[j]? = some r → r.stk = (x, q) :: rest →
    q < j ∧ ∃ k f a, (infos t)[q]? = some ⟨.one k x f, a, rest⟩ ∧ k.bind = true := by
  intro m
  induction m with
  | zero =>
    intro j r x q rest hj h e
    have : j = 0 := by omega
    subst this
    rw [info_head] at h
    cases h
    cases e
  | succ m ih =>
    intro j r x q rest hj h e
    rcases info_up t (-1) 0 [] j r h with ⟨rfl, rfl⟩ | ⟨p, r', hp, e1, _, e2⟩
    · cases e
    · rw [Nat.zero_add] at e2
      obtain ⟨s, a', st'⟩ := r'
      have old : r.stk = st' → q < j ∧ ∃ k f a, (infos t)[q]? = some ⟨.one k x f, a, rest⟩ ∧ k.bind = true := fun e3 => by
        have z := ih p ⟨s, a', st'⟩ x q rest (by omega) e1 (by rw [← e3]; exact e)
        exact ⟨by omega, z.2⟩
      cases s with
      | nul b => exact old e2
      | leaf k n => exact old e2
      | two b f g => exact old e2
      | one k n f =>
        simp only [pushS] at e2
        by_cases hb : k.bind = true
        · rw [if_pos hb, e] at e2
          injection e2 with e3 e4
          injection e3 with e5 e6
          subst e5
          subst e6
          subst e4
          exact ⟨hp, k, f, a', e1, hb⟩
        · rw [if_neg hb] at e2
          exact old e2
/-! ### the parts directly in a part -/
def kidsFrom : List Int → Nat → Nat → List Nat
  | [], _, _ => []
  | a :: r, j, i => if a = (i : Int) then j :: kidsFrom r (j + 1) i else kidsFrom r (j + 1) i
theorem kids_app : ∀ (A B : List Int) (j i : Nat), kidsFrom (A ++ B) j i = kidsFrom A j i ++ kidsFrom B (j + A.length) i
  | [], _, _, _ => by simp [kidsFrom]
  | a :: A, B, j, i => by
    simp only [List.cons_append, kidsFrom, List.length_cons]
    rw [kids_app A B (j + 1) i, show j + 1 + A.length = j + (A.length + 1) by omega]
    split <;> simp
theorem kids_none : ∀ (A : List Int) (j i : Nat), (∀ a ∈ A, a ≠ (i : Int)) → kidsFrom A j i = []
  | [], _, _, _ => rfl
  | a :: A, j, i, h => by
    simp only [kidsFrom]
    rw [if_neg (h a List.mem_cons_self)]
    exact kids_none A _ _ fun b hb => h b (List.mem_cons_of_mem _ hb)
def arounds (I : List Rec) : List Int := I.map Rec.aro
theorem aro_range : ∀ (t : F) (a : Int) (i : Nat) (st : Stk) (x : Int), x ∈ arounds (info t a i st) → x = a ∨ ((i : Int) ≤ x ∧ x < ((i + t.size : Nat) : Int))
  | .nul _, a, i, st, x, h => by
    simp [arounds, info] at h
    exact .inl h
  | .leaf _ _, a, i, st, x, h => by
    simp [arounds, info] at h
    exact .inl h
  | .two b f g, a, i, st, x, h => by
    simp only [arounds, info, List.map_cons, List.map_append, List.mem_cons, List.mem_append] at h
    rcases h with h | h | h
    · exact .inl h
    · have := aro_range f i (i + 1) st x h
      simp only [F.size]
      omega
    · have := aro_range g i (i + 1 + f.size) st x h
      simp only [F.size]
      omega
  | .one k n f, a, i, st, x, h => by
    simp only [arounds, info, List.map_cons, List.mem_cons] at h
    rcases h with h | h
    · exact .inl h
    · have := aro_range f i (i + 1) _ x h
      simp only [F.size]
      omega
/-- where a part's own parts stand among all -/
def Sits (I : List Rec) (i j : Nat) (r : Rec) : Prop :=
  ∃ A B, I = A ++ info r.sub r.aro (i + j) r.stk ++ B ∧ A.length = j ∧ (∀ x ∈ arounds A, x ≠ ((i + j : Nat) : Int)) ∧ (∀ x ∈ arounds B, x < ((i + j : Nat) : Int) ∨ ((i + j + r.sub.size : Nat) : Int) ≤ x) ∧ r.aro < ((i + j : Nat) : Int) ∧
    (∀ x ∈ arounds A, x < ((i + j : Nat) : Int))
theorem info_sits : ∀ (t : F) (a : Int) (i : Nat) (st : Stk) (j : Nat) (r : Rec), a < (i : Int) → (info t a i st)[j]? = some r → Sits (info t a i st) i j r := by
  have zero : ∀ (t : F) (a : Int) (i : Nat) (st : Stk) (r : Rec), a < (i : Int) → (info t a i st)[0]? = some r → Sits (info t a i st) i 0 r := by
    intro t a i st r ha h
    rw [info_head] at h
    cases h
    exact ⟨[], [], by simp, rfl, by simp [arounds], by simp [arounds], by simpa using ha, by simp [arounds]⟩
  intro t
  induction t with
  | nul b =>
    intro a i st j r ha h
    cases j with
    | zero => exact zero _ _ _ _ _ ha h
    | succ j => simp [info] at h
  | leaf k n =>
    intro a i st j r ha h
    cases j with
    | zero => exact zero _ _ _ _ _ ha h
    | succ j => simp [info] at h
  | two b f g ihf ihg =>
    intro a i st j r ha h
    cases j with
    | zero => exact zero _ _ _ _ _ ha h
    | succ j =>
      simp only [info, List.getElem?_cons_succ] at h
      by_cases lt : j < f.size
      · rw [List.getElem?_append_left (by rw [info_len]; exact lt)] at h
        obtain ⟨A, B, e, eA, hA, hB, hr, hA2⟩ := ihf i (i + 1) st j r (by omega) h
        have ee : i + 1 + j = i + (j + 1) := by omega
        rw [ee] at e hA hB hr hA2
        have szr : r.sub.size + j ≤ f.size := by
          have z := congrArg List.length e
          simp only [info_len, List.length_append, eA] at z
          omega
        refine ⟨⟨.two b f g, a, st⟩ :: A, B ++ info g i (i + 1 + f.size) st, by simp [info, e], by simp [eA], ?_, ?_, hr, ?_⟩
        · intro x hx
          simp only [arounds, List.map_cons, List.mem_cons] at hx
          rcases hx with rfl | hx
          · omega
          · exact hA x hx
        · intro x hx
          simp only [arounds, List.map_append, List.mem_append] at hx
          rcases hx with hx | hx
          · exact hB x hx
          · have := aro_range g i (i + 1 + f.size) st x hx
            omega
        · intro x hx
          simp only [arounds, List.map_cons, List.mem_cons] at hx
          rcases hx with rfl | hx
          · omega
          · exact hA2 x hx
      · rw [List.getElem?_append_right (by rw [info_len]; omega), info_len] at h
        obtain ⟨A, B, e, eA, hA, hB, hr, hA2⟩ := ihg i (i + 1 + f.size) st (j - f.size) r (by omega) h
        have ee : i + 1 + f.size + (j - f.size) = i + (j + 1) := by omega
        rw [ee] at e hA hB hr hA2
        refine ⟨⟨.two b f g, a, st⟩ :: (info f i (i + 1) st ++ A), B, by simp [info, e], by simp [eA, info_len]; omega, ?_, hB, hr, ?_⟩
        · intro x hx
          simp only [arounds, List.map_cons, List.map_append, List.mem_cons, List.mem_append] at hx
          rcases hx with rfl | hx | hx
          · omega
          · have := aro_range f i (i + 1) st x hx
            omega
          · exact hA x hx
        · intro x hx
          simp only [arounds, List.map_cons, List.map_append, List.mem_cons, List.mem_append] at hx
          rcases hx with rfl | hx | hx
          · omega
          · have := aro_range f i (i + 1) st x hx
            omega
          · exact hA2 x hx
  | one k n f ih =>
    intro a i st j r ha h
    cases j with
    | zero => exact zero _ _ _ _ _ ha h
    | succ j =>
      simp only [info, List.getElem?_cons_succ] at h
      obtain ⟨A, B, e, eA, hA, hB, hr, hA2⟩ := ih i (i + 1) _ j r (by omega) h
      have ee : i + 1 + j = i + (j + 1) := by omega
      rw [ee] at e hA hB hr hA2
      refine ⟨⟨.one k n f, a, st⟩ :: A, B, by simp [info, e], by simp [eA], ?_, hB, hr, ?_⟩
      · intro x hx
        simp only [arounds, List.map_cons, List.mem_cons] at hx
        rcases hx with rfl | hx
        · omega
        · exact hA x hx
      · intro x hx
        simp only [arounds, List.map_cons, List.mem_cons] at hx
        rcases hx with rfl | hx
        · omega
        · exact hA2 x hx
/-- the places of the parts directly in one -/
def inPlaces : F → Nat → List Nat
  | .two _ f _, i => [i + 1, i + 1 + f.size]
  | .one _ _ _, i => [i + 1]
  | _, _ => []
theorem kids_own : ∀ (t : F) (a : Int) (i : Nat) (st : Stk), a < (i : Int) → kidsFrom (arounds (info t a i st)) i i = inPlaces t i
  | .nul _, a, i, st, ha => by
    simp only [arounds, info, List.map_cons, List.map_nil, kidsFrom, inPlaces]
    rw [if_neg (by omega)]
  | .leaf _ _, a, i, st, ha => by
    simp only [arounds, info, List.map_cons, List.map_nil, kidsFrom, inPlaces]
    rw [if_neg (by omega)]
  | .two b f g, a, i, st, ha => by
    have rest : ∀ (u : F) (j : Nat) (st : Stk), i < j → kidsFrom (arounds (info u i j st)) j i = [j] := by
      intro u j st hj
      have tail : ∀ (I : List Rec), (∀ x ∈ arounds I, (j : Int) ≤ x) → kidsFrom (arounds I) (j + 1) i = [] := fun I hI =>
        kids_none _ _ _ fun x hx => by have := hI x hx; omega
      cases u with
      | nul b => simp [arounds, info, kidsFrom]
      | leaf k n => simp [arounds, info, kidsFrom]
      | two b f g =>
        simp only [arounds, info, List.map_cons, kidsFrom, if_true]
        have := tail (info f j (j + 1) st ++ info g j (j + 1 + f.size) st) (fun x hx => by
          simp only [arounds, List.map_append, List.mem_append] at hx
          rcases hx with hx | hx
          · have := aro_range f j (j + 1) st x hx
            omega
          · have := aro_range g j (j + 1 + f.size) st x hx
            omega)
        rw [arounds] at this
        rw [this]
      | one k n f =>
        simp only [arounds, info, List.map_cons, kidsFrom, if_true]
        have := tail (info f j (j + 1) (if k.bind then (n, j) :: st else st)) (fun x hx => by
          have := aro_range f j (j + 1) _ x hx
          omega)
        rw [arounds] at this
        rw [this]
    have h1 := rest f (i + 1) st (by omega)
    have h2 := rest g (i + 1 + f.size) st (by omega)
    simp only [arounds] at h1 h2
    simp only [arounds, info, List.map_cons, List.map_append, kidsFrom, inPlaces]
    rw [if_neg (by omega), kids_app, h1, List.length_map, info_len, h2]
    rfl
  | .one k n f, a, i, st, ha => by
    have rest : ∀ (u : F) (j : Nat) (st : Stk), i < j → kidsFrom (arounds (info u i j st)) j i = [j] := by
      intro u j st hj
      have tail : ∀ (I : List Rec), (∀ x ∈ arounds I, (j : Int) ≤ x) → kidsFrom (arounds I) (j + 1) i = [] := fun I hI =>
        kids_none _ _ _ fun x hx => by have := hI x hx; omega
      cases u with
      | nul b => simp [arounds, info, kidsFrom]
      | leaf k n => simp [arounds, info, kidsFrom]
      | two b f g =>
        simp only [arounds, info, List.map_cons, kidsFrom, if_true]
        have := tail (info f j (j + 1) st ++ info g j (j + 1 + f.size) st) (fun x hx => by
          simp only [arounds, List.map_append, List.mem_append] at hx
          rcases hx with hx | hx
          · have := aro_range f j (j + 1) st x hx
            omega
          · have := aro_range g j (j + 1 + f.size) st x hx
            omega)
        rw [arounds] at this
        rw [this]
      | one k n f =>
        simp only [arounds, info, List.map_cons, kidsFrom, if_true]
        have := tail (info f j (j + 1) (if k.bind then (n, j) :: st else st)) (fun x hx => by
          have := aro_range f j (j + 1) _ x hx
          omega)
        rw [arounds] at this
        rw [this]
    have h1 := rest f (i + 1) (if k.bind then (n, i) :: st else st) (by omega)
    simp only [arounds] at h1
    simp only [arounds, info, List.map_cons, kidsFrom, inPlaces]
    rw [if_neg (by omega), h1]
theorem kids_at {t : F} {j : Nat} {r : Rec} (h : (infos t)[j]? = some r) : kidsFrom (arounds (infos t)) 0 j = inPlaces r.sub j := by
  obtain ⟨A, B, e, eA, hA, hB, hr, _⟩ := info_sits t (-1) 0 [] j r (by omega) h
  rw [Nat.zero_add] at e hA hB hr
  have ea : arounds (infos t) = arounds A ++ arounds (info r.sub r.aro j r.stk) ++ arounds B := by
    rw [show infos t = _ from e]
    simp [arounds]
  have lA : (arounds A).length = j := by simp [arounds, eA]
  rw [ea, kids_app, kids_app, kids_none _ _ _ hA, Nat.zero_add, lA, kids_own _ _ _ _ hr, kids_none (arounds B)]
  · simp
  · intro x hx
    have := hB x hx
    have := F.size_pos r.sub
    omega
/-- the parts of a part are among all, at their places -/
theorem sub_at {t : F} {j : Nat} {r : Rec} (h : (infos t)[j]? = some r) : ∀ (k : Nat) (q : Rec), (info r.sub r.aro j r.stk)[k]? = some q → (infos t)[j + k]? = some q := by
  intro k q hq
  obtain ⟨A, B, e, eA, _⟩ := info_sits t (-1) 0 [] j r (by omega) h
  rw [Nat.zero_add] at e
  have lt := (List.getElem?_eq_some_iff.mp hq).1
  rw [show infos t = _ from e, List.append_assoc, List.getElem?_append_right (by omega), eA, show j + k - j = k by omega, List.getElem?_append_left lt]
  exact hq

/-! ### the binder around, and the one of a variable -/
def topPos : Stk → Int
  | [] => -1
  | (_, p) :: _ => (p : Int)
def posOf (x : Int) : Stk → Int
  | [] => -1
  | (y, p) :: r => if y = x then (p : Int) else posOf x r
def isB : F → Bool
  | .one k _ _ => k.bind
  | _ => false
theorem pushS_top (s : F) (p : Nat) (st : Stk) : topPos (pushS s p st) = if isB s = true then (p : Int) else topPos st := by
  cases s with
  | one k n f => cases hk : k.bind <;> simp [pushS, isB, topPos, hk]
  | _ => rfl
theorem top_step {t : F} {j : Nat} {r : Rec} (h : (infos t)[j]? = some r) :
    (r.aro = -1 ∧ topPos r.stk = -1 ∧ j = 0) ∨ ∃ p r', p < j ∧ (infos t)[p]? = some r' ∧ r.aro = (p : Int) ∧ topPos r.stk = if isB r'.sub = true then (p : Int) else topPos r'.stk := by
  rcases info_up t (-1) 0 [] j r h with ⟨rfl, rfl⟩ | ⟨p, r', hp, e, e1, e2⟩
  · exact .inl ⟨rfl, rfl, rfl⟩
  · rw [Nat.zero_add] at e1 e2
    exact .inr ⟨p, r', hp, e, e1, by rw [e2, pushS_top]⟩
theorem posOf_ge (x : Int) : ∀ st : Stk, -1 ≤ posOf x st
  | [] => by simp [posOf]
  | (y, p) :: r => by
    simp only [posOf]
    split
    · omega
    · exact posOf_ge x r
theorem posOf_neg (x : Int) : ∀ st : Stk, posOf x st < 0 ↔ x ∉ st.map (·.1)
  | [] => by simp [posOf]
  | (y, p) :: r => by
    have ih := posOf_neg x r
    simp only [posOf, List.map_cons, List.mem_cons, not_or]
    split
    · rename_i e
      constructor
      · intro z
        omega
      · intro z
        exact absurd e.symm z.1
    · rename_i e
      rw [ih]
      constructor
      · exact fun z => ⟨fun q => e q.symm, z⟩
      · exact fun z => z.2
/-! ### free variables -/
def freeL : F → List Int → List Int
  | .nul _, _ => []
  | .leaf .var x, bound => if x ∈ bound then [] else [x]
  | .leaf _ _, _ => []
  | .two _ f g, bound => freeL f bound ++ freeL g bound
  | .one k x f, bound => if k.bind then freeL f (bound ++ [x]) else freeL f bound
theorem free_iff (x : Int) : ∀ (t : F) (bound : List Int) (a : Int) (i : Nat) (st : Stk), (∀ y, y ∈ bound ↔ y ∈ st.map (·.1)) →
    (x ∈ freeL t bound ↔ ∃ r ∈ info t a i st, r.sub = .leaf .var x ∧ x ∉ r.stk.map (·.1))
  | .nul b, bound, a, i, st, hb => by simp [freeL, info]
  | .leaf .has n, bound, a, i, st, hb => by simp [freeL, info]
  | .leaf .lacks n, bound, a, i, st, hb => by simp [freeL, info]
  | .leaf .var n, bound, a, i, st, hb => by
    simp only [freeL, info, List.mem_singleton]
    constructor
    · intro h
      split at h
      · cases h
      · rename_i hn
        rw [List.mem_singleton] at h
        subst h
        exact ⟨_, rfl, rfl, fun z => hn ((hb _).mpr z)⟩
    · rintro ⟨r, rfl, e, hn⟩
      injection e with _ e
      subst e
      rw [if_neg (fun z => hn ((hb _).mp z))]
      exact List.mem_singleton.mpr rfl
  | .two b f g, bound, a, i, st, hb => by
    simp only [freeL, info, List.mem_append, List.mem_cons]
    rw [free_iff x f bound i (i + 1) st hb, free_iff x g bound i (i + 1 + f.size) st hb]
    constructor
    · rintro (⟨r, h1, h2⟩ | ⟨r, h1, h2⟩)
      · exact ⟨r, .inr (.inl h1), h2⟩
      · exact ⟨r, .inr (.inr h1), h2⟩
    · rintro ⟨r, h1, h2, h3⟩
      rcases h1 with rfl | h1 | h1
      · cases h2
      · exact .inl ⟨r, h1, h2, h3⟩
      · exact .inr ⟨r, h1, h2, h3⟩
  | .one k n f, bound, a, i, st, hb => by
    simp only [freeL, info, List.mem_cons]
    have key : ∀ (bound' : List Int) (st' : Stk), (∀ y, y ∈ bound' ↔ y ∈ st'.map (·.1)) →
        (x ∈ freeL f bound' ↔ ∃ r, (r = ⟨.one k n f, a, st⟩ ∨ r ∈ info f i (i + 1) st') ∧ r.sub = .leaf .var x ∧ x ∉ r.stk.map (·.1)) := by
      intro bound' st' h'
      rw [free_iff x f bound' i (i + 1) st' h']
      constructor
      · rintro ⟨r, h1, h2⟩
        exact ⟨r, .inr h1, h2⟩
      · rintro ⟨r, h1, h2, h3⟩
        rcases h1 with rfl | h1
        · cases h2
        · exact ⟨r, h1, h2, h3⟩
    by_cases hk : k.bind = true
    · rw [if_pos hk, if_pos hk]
      refine key _ _ fun y => ?_
      simp only [List.mem_append, hb y, List.map_cons, List.mem_cons, List.not_mem_nil, or_false]
      exact Or.comm
    · rw [if_neg hk, if_neg hk]
      exact key _ _ hb
def Closed (t : F) : Prop := ∀ r ∈ infos t, ∀ x, r.sub = .leaf .var x → x ∈ r.stk.map (·.1)
theorem closed_iff {t : F} : freeL t [] = [] ↔ Closed t := by
  constructor
  · intro h r hr x e
    refine Classical.byContradiction fun hn => ?_
    have := (free_iff x t [] (-1) 0 [] (by simp)).mpr ⟨r, hr, e, hn⟩
    rw [h] at this
    cases this
  · intro h
    refine List.eq_nil_iff_forall_not_mem.mpr fun x hx => ?_
    obtain ⟨r, hr, e, hn⟩ := (free_iff x t [] (-1) 0 [] (by simp)).mp hx
    exact hn (h r hr x e)
/-! ### the same shape, the same places -/
def skel : F → F
  | .nul _ => .nul true
  | .leaf _ _ => .nul true
  | .two _ f g => .two true (skel f) (skel g)
  | .one _ _ f => .one .some 0 (skel f)
theorem skel_size : ∀ t : F, (skel t).size = t.size
  | .nul _ => rfl
  | .leaf _ _ => rfl
  | .two _ f g => by simp [skel, F.size, skel_size f, skel_size g]
  | .one _ _ f => by simp [skel, F.size, skel_size f]
theorem skel_depth : ∀ t : F, (skel t).depth = t.depth
  | .nul _ => rfl
  | .leaf _ _ => rfl
  | .two _ f g => by simp [skel, F.depth, skel_depth f, skel_depth g]
  | .one _ _ f => by simp [skel, F.depth, skel_depth f]
theorem skel_aro : ∀ (t : F) (a : Int) (i : Nat) (st : Stk), arounds (info t a i st) = arounds (info (skel t) a i [])
  | .nul _, _, _, _ => rfl
  | .leaf _ _, _, _, _ => rfl
  | .two _ f g, a, i, st => by
    have h1 := skel_aro f i (i + 1) st
    have h2 := skel_aro g i (i + 1 + f.size) st
    simp only [arounds] at h1 h2
    simp only [arounds, info, skel, List.map_cons, List.map_append, h1, h2, skel_size]
  | .one k n f, a, i, st => by
    have h1 := skel_aro f i (i + 1) (if k.bind then (n, i) :: st else st)
    simp only [arounds] at h1
    simp only [arounds, info, skel, List.map_cons]
    rw [h1]
    rfl
theorem same_aro {t u : F} (h : skel t = skel u) : arounds (infos t) = arounds (infos u) := by
  rw [skel_aro t, skel_aro u, h]
theorem same_size {t u : F} (h : skel t = skel u) : t.size = u.size := by rw [← skel_size t, h, skel_size]
/-! ### the tidy form -/
def tidyF : F → (Int → Int) → Int → F × Int
  | .nul b, _, n => (.nul b, n)
  | .leaf .var x, nm, n => (.leaf .var (nm x), n)
  | .leaf k x, _, n => (.leaf k x, n)
  | .two b f g, nm, n => (.two b (tidyF f nm n).1 (tidyF g nm (tidyF f nm n).2).1, (tidyF g nm (tidyF f nm n).2).2)
  | .one k x f, nm, n =>
    if k.bind then (.one k n (tidyF f (fun y => if y = x then n else nm y) (n + 1)).1, (tidyF f (fun y => if y = x then n else nm y) (n + 1)).2)
    else (.one k x (tidyF f nm n).1, (tidyF f nm n).2)
theorem tidy_skel : ∀ (t : F) (nm : Int → Int) (n : Int), skel (tidyF t nm n).1 = skel t
  | .nul _, _, _ => rfl
  | .leaf .var _, _, _ => rfl
  | .leaf .has _, _, _ => rfl
  | .leaf .lacks _, _, _ => rfl
  | .two _ f g, nm, n => by simp only [tidyF, skel, tidy_skel f, tidy_skel g]
  | .one k x f, nm, n => by
    simp only [tidyF]
    split <;> simp only [skel, tidy_skel f]
def cntB (I : List Rec) : Nat := (I.filter fun r => isB r.sub).length
theorem cntB_app (A B : List Rec) : cntB (A ++ B) = cntB A + cntB B := by simp [cntB]
theorem cntB_cons (r : Rec) (B : List Rec) : cntB (r :: B) = (if isB r.sub = true then 1 else 0) + cntB B := by
  simp only [cntB, List.filter_cons]
  split <;> simp <;> omega
def newHd (ρ : Nat → Int) (q : Nat) (r : Rec) : Hd :=
  match r.sub with
  | .leaf .var x => .leaf .var (ρ (posOf x r.stk).toNat)
  | .one k x _ => if k.bind then .one k (ρ q) else .one k x
  | s => s.hd
theorem tidy_heads (ρ : Nat → Int) : ∀ (t : F) (a : Int) (i : Nat) (st : Stk) (nm : Int → Int) (n : Int),
    (∀ r ∈ info t a i st, ∀ x, r.sub = .leaf .var x → x ∈ r.stk.map (·.1)) → (∀ x ∈ st.map (·.1), nm x = ρ (posOf x st).toNat) →
    (∀ j r, (info t a i st)[j]? = some r → isB r.sub = true → ρ (i + j) = n + (cntB ((info t a i st).take j) : Nat)) →
    (tidyF t nm n).2 = n + (cntB (info t a i st) : Nat) ∧
    ∀ (st' : Stk) (j : Nat) (r : Rec), (info t a i st)[j]? = some r → ((info (tidyF t nm n).1 a i st')[j]?).map (fun r => r.sub.hd) = some (newHd ρ (i + j) r)
  | .nul b, a, i, st, nm, n, hc, hs, hr => by
    refine ⟨by simp [tidyF, info, cntB, isB], fun st' j r h => ?_⟩
    cases j with
    | zero =>
      cases h
      rfl
    | succ j => simp [info] at h
  | .leaf .has b, a, i, st, nm, n, hc, hs, hr => by
    refine ⟨by simp [tidyF, info, cntB, isB], fun st' j r h => ?_⟩
    cases j with
    | zero =>
      cases h
      rfl
    | succ j => simp [info] at h
  | .leaf .lacks b, a, i, st, nm, n, hc, hs, hr => by
    refine ⟨by simp [tidyF, info, cntB, isB], fun st' j r h => ?_⟩
    cases j with
    | zero =>
      cases h
      rfl
    | succ j => simp [info] at h
  | .leaf .var x, a, i, st, nm, n, hc, hs, hr => by
    refine ⟨by simp [tidyF, info, cntB, isB], fun st' j r h => ?_⟩
    cases j with
    | zero =>
      cases h
      have hx : x ∈ st.map (·.1) := hc ⟨.leaf .var x, a, st⟩ (by simp [info]) x rfl
      simp only [tidyF, info, newHd, List.getElem?_cons_zero, Option.map_some, F.hd]
      rw [hs x hx]
    | succ j => simp [info] at h
  | .two b f g, a, i, st, nm, n, hc, hs, hr => by
    have If : ∀ j r, (info f i (i + 1) st)[j]? = some r → (info (.two b f g) a i st)[j + 1]? = some r := fun j r h => by
      simp only [info, List.getElem?_cons_succ]
      rw [List.getElem?_append_left (List.getElem?_eq_some_iff.mp h).1]
      exact h
    have Ig : ∀ j r, (info g i (i + 1 + f.size) st)[j]? = some r → (info (.two b f g) a i st)[f.size + j + 1]? = some r := fun j r h => by
      simp only [info, List.getElem?_cons_succ]
      rw [List.getElem?_append_right (by rw [info_len]; omega), info_len, show f.size + j - f.size = j by omega]
      exact h
    obtain ⟨f1, f2⟩ := tidy_heads ρ f i (i + 1) st nm n (fun r hr' => hc r (by simp [info, hr'])) hs (fun j r h hb => by
      have := hr (j + 1) r (If j r h) hb
      rw [show i + (j + 1) = i + 1 + j by omega] at this
      rw [this]
      simp only [info, List.take_succ_cons, cntB_cons, isB]
      rw [List.take_append_of_le_length (Nat.le_of_lt (List.getElem?_eq_some_iff.mp h).1)]
      simp)
    obtain ⟨g1, g2⟩ := tidy_heads ρ g i (i + 1 + f.size) st nm (tidyF f nm n).2 (fun r hr' => hc r (by simp [info, hr'])) hs (fun j r h hb => by
      have := hr (f.size + j + 1) r (Ig j r h) hb
      rw [show i + (f.size + j + 1) = i + 1 + f.size + j by omega] at this
      rw [this, f1]
      simp only [info, List.take_succ_cons, cntB_cons, isB]
      rw [List.take_append, info_len, List.take_of_length_le (by rw [info_len]; omega), show f.size + j - f.size = j by omega, cntB_app]
      simp
      omega)
    refine ⟨?_, fun st' j r h => ?_⟩
    · simp only [tidyF, info, cntB_cons, cntB_app, isB]
      rw [g1, f1]
      simp
      omega
    · have sz : (tidyF f nm n).1.size = f.size := same_size (tidy_skel f nm n)
      cases j with
      | zero =>
        cases h
        rfl
      | succ j =>
        simp only [info, List.getElem?_cons_succ] at h
        simp only [tidyF, info, List.getElem?_cons_succ]
        by_cases lt : j < f.size
        · rw [List.getElem?_append_left (by rw [info_len]; exact lt)] at h
          rw [List.getElem?_append_left (by rw [info_len, sz]; exact lt), f2 st' j r h, show i + 1 + j = i + (j + 1) by omega]
        · rw [List.getElem?_append_right (by rw [info_len]; omega), info_len] at h
          rw [List.getElem?_append_right (by rw [info_len, sz]; omega), info_len, sz, g2 st' (j - f.size) r h, show i + 1 + f.size + (j - f.size) = i + (j + 1) by omega]
  | .one k x f, a, i, st, nm, n, hc, hs, hr => by
    by_cases hk : k.bind = true
    · have If : ∀ j r, (info f i (i + 1) ((x, i) :: st))[j]? = some r → (info (.one k x f) a i st)[j + 1]? = some r := fun j r h => by
        simp only [info, List.getElem?_cons_succ, if_pos hk]
        exact h
      have ρi : ρ i = n := by
        have := hr 0 ⟨.one k x f, a, st⟩ rfl hk
        simpa [cntB] using this
      obtain ⟨f1, f2⟩ := tidy_heads ρ f i (i + 1) ((x, i) :: st) (fun y => if y = x then n else nm y) (n + 1) (fun r hr' => hc r (by simp [info, hk, hr'])) (fun y hy => by
        simp only [posOf]
        by_cases e : y = x
        · rw [if_pos e, if_pos e.symm]
          exact ρi.symm
        · rw [if_neg e, if_neg (fun z => e z.symm)]
          rw [List.map_cons, List.mem_cons] at hy
          exact hs y (hy.resolve_left e)) (fun j r h hb => by
        have := hr (j + 1) r (If j r h) hb
        rw [show i + (j + 1) = i + 1 + j by omega] at this
        rw [this]
        simp only [info, List.take_succ_cons, cntB_cons]
        rw [if_pos (show isB (F.one k x f) = true from hk), if_pos hk]
        omega)
      refine ⟨?_, fun st' j r h => ?_⟩
      · simp only [tidyF, info, cntB_cons]
        rw [if_pos (show isB (F.one k x f) = true from hk), if_pos hk, if_pos hk, f1]
        omega
      · cases j with
        | zero =>
          cases h
          simp only [tidyF, if_pos hk, info, newHd, List.getElem?_cons_zero, Option.map_some, F.hd]
          rw [Nat.add_zero, ρi]
        | succ j =>
          simp only [info, List.getElem?_cons_succ, if_pos hk] at h
          simp only [tidyF, if_pos hk, info, List.getElem?_cons_succ]
          rw [f2 _ j r h, show i + 1 + j = i + (j + 1) by omega]
    · have If : ∀ j r, (info f i (i + 1) st)[j]? = some r → (info (.one k x f) a i st)[j + 1]? = some r := fun j r h => by
        simp only [info, List.getElem?_cons_succ, if_neg hk]
        exact h
      obtain ⟨f1, f2⟩ := tidy_heads ρ f i (i + 1) st nm n (fun r hr' => hc r (by simp [info, hk, hr'])) hs (fun j r h hb => by
        have := hr (j + 1) r (If j r h) hb
        rw [show i + (j + 1) = i + 1 + j by omega] at this
        rw [this]
        simp only [info, List.take_succ_cons, cntB_cons]
        rw [if_neg (show ¬ isB (F.one k x f) = true from hk), if_neg hk]
        omega)
      refine ⟨?_, fun st' j r h => ?_⟩
      · simp only [tidyF, info, cntB_cons]
        rw [if_neg (show ¬ isB (F.one k x f) = true from hk), if_neg hk, if_neg hk, f1]
        omega
      · cases j with
        | zero =>
          cases h
          simp only [tidyF, if_neg hk, info, newHd, List.getElem?_cons_zero, Option.map_some, F.hd]
        | succ j =>
          simp only [info, List.getElem?_cons_succ, if_neg hk] at h
          simp only [tidyF, if_neg hk, info, List.getElem?_cons_succ]
          rw [f2 _ j r h, show i + 1 + j = i + (j + 1) by omega]
/-- of a closed one: the head of each part in the tidy form -/
def rankOf (t : F) (q : Nat) : Int := (cntB ((infos t).take q) : Nat)
theorem tidy_whole {t : F} (hc : Closed t) (nm : Int → Int) {j : Nat} {r : Rec} (h : (infos t)[j]? = some r) :
    ((infos (tidyF t nm 0).1)[j]?).map (fun r => r.sub.hd) = some (newHd (rankOf t) j r) := by
  have := (tidy_heads (rankOf t) t (-1) 0 [] nm 0 hc (by simp) (fun j r h hb => by simp [rankOf])).2 [] j r h
  rwa [Nat.zero_add] at this
/-! ### tidy twice -/
theorem tidy_again : ∀ (t : F) (nm nm2 : Int → Int) (n : Int), (∀ y, nm2 (nm y) = nm y) → tidyF (tidyF t nm n).1 nm2 n = tidyF t nm n
  | .nul _, _, _, _, _ => rfl
  | .leaf .has _, _, _, _, _ => rfl
  | .leaf .lacks _, _, _, _, _ => rfl
  | .leaf .var x, nm, nm2, n, h => by simp only [tidyF, h]
  | .two b f g, nm, nm2, n, h => by
    simp only [tidyF]
    rw [tidy_again f nm nm2 n h, tidy_again g nm nm2 _ h]
  | .one k x f, nm, nm2, n, h => by
    by_cases hk : k.bind = true
    · have ih := tidy_again f (fun y => if y = x then n else nm y) (fun y => if y = n then n else nm2 y) (n + 1) (fun y => by
        by_cases e : y = x
        · simp [e]
        · simp only [if_neg e]
          by_cases e2 : nm y = n
          · simp [e2]
          · rw [if_neg e2]
            exact h y)
      simp only [tidyF, if_pos hk, ih]
    · have ih := tidy_again f nm nm2 n h
      simp only [tidyF, if_neg hk, ih]
end Fw
namespace Fw
/-! ### taking a statement apart with a stack -/
def pre (t : F) (a : Int) (i : Nat) : List (Hd × Int) := (info t a i []).map fun r => (r.sub.hd, r.aro)
theorem pre_len (t : F) (a : Int) (i : Nat) : (pre t a i).length = t.size := by simp [pre, info_len]
theorem info_plain : ∀ (t : F) (a : Int) (i : Nat) (st : Stk), ((info t a i st).map fun r => (r.sub.hd, r.aro)) = pre t a i
  | .nul _, _, _, _ => rfl
  | .leaf _ _, _, _, _ => rfl
  | .two _ f g, a, i, st => by
    have h1 := info_plain f i (i + 1)
    have h2 := info_plain g i (i + 1 + f.size)
    simp only [pre, info, List.map_cons, List.map_append] at *
    rw [h1 st, h2 st]
  | .one k n f, a, i, st => by
    have h1 := info_plain f i (i + 1)
    simp only [pre, info, List.map_cons] at *
    rw [h1 (if k.bind then (n, i) :: st else st), h1 (if k.bind then [(n, i)] else [])]
def F.kids : F → List F
  | .two _ f g => [f, g]
  | .one _ _ f => [f]
  | _ => []
def fin (L : List (Hd × Int)) : List (F × Int) → List (Hd × Int)
  | [] => L
  | (t, a) :: r => fin (L ++ pre t a L.length) r
theorem fin_step (L : List (Hd × Int)) (t : F) (a : Int) (r : List (F × Int)) :
    fin L ((t, a) :: r) = fin (L ++ [(t.hd, a)]) (t.kids.map (fun f => (f, (L.length : Int))) ++ r) := by
  cases t with
  | nul b => rfl
  | leaf k n => rfl
  | two b f g =>
    have hf := info_plain f L.length (L.length + 1) []
    have hg := info_plain g L.length (L.length + 1 + f.size) []
    simp only [fin, F.kids, List.map_cons, List.map_nil, List.cons_append, List.nil_append, F.hd, List.length_append, List.length_cons, List.length_nil, pre_len]
    congr 1
    simp only [pre, info, List.map_cons, List.map_append, F.hd]
    simp
  | one k n f =>
    have hf := info_plain f L.length (L.length + 1) (if k.bind then [(n, L.length)] else [])
    simp only [fin, F.kids, List.map_cons, List.map_nil, List.cons_append, List.nil_append, F.hd, List.length_append, List.length_cons, List.length_nil]
    congr 1
    simp only [pre, info, List.map_cons, F.hd] at *
    rw [hf]
    simp
def stSize : List (F × Int) → Nat
  | [] => 0
  | (t, _) :: r => t.size + stSize r
theorem stSize_app : ∀ A B : List (F × Int), stSize (A ++ B) = stSize A + stSize B
  | [], B => by simp [stSize]
  | (t, a) :: A, B => by simp [stSize, stSize_app A B]; omega
theorem stSize_kids (t : F) (i : Int) : stSize (t.kids.map fun f => (f, i)) + 1 = t.size := by
  cases t <;> simp [F.kids, stSize, F.size]
theorem st_len : ∀ A : List (F × Int), A.length ≤ stSize A
  | [] => Nat.le_refl _
  | (t, a) :: A => by
    have := st_len A
    have := F.size_pos t
    simp only [List.length_cons, stSize]
    omega
theorem fin_len : ∀ (S : List (F × Int)) (L : List (Hd × Int)), (fin L S).length = L.length + stSize S
  | [], L => by simp [fin, stSize]
  | (t, a) :: S, L => by
    simp only [fin, stSize]
    rw [fin_len S, List.length_append, pre_len]
    omega
end Fw
namespace Fw
theorem kids_recs {t : F} {j : Nat} {r : Rec} (h : (infos t)[j]? = some r) :
    (inPlaces r.sub j).length = r.sub.kids.length ∧ ∀ (m p : Nat), (inPlaces r.sub j)[m]? = some p → ∃ r', (infos t)[p]? = some r' ∧ r.sub.kids[m]? = some r'.sub ∧ j < p := by
  have sa := sub_at h
  obtain ⟨s, a, st⟩ := r
  cases s with
  | nul b => exact ⟨rfl, fun m p e => by simp [inPlaces] at e⟩
  | leaf k n => exact ⟨rfl, fun m p e => by simp [inPlaces] at e⟩
  | two b f g =>
    refine ⟨rfl, fun m p e => ?_⟩
    match m, e with
    | 0, e =>
      cases e
      refine ⟨⟨f, j, st⟩, sa 1 _ ?_, rfl, by omega⟩
      simp only [info, List.getElem?_cons_succ]
      rw [List.getElem?_append_left (by rw [info_len]; exact F.size_pos f)]
      exact info_head _ _ _ _
    | 1, e =>
      cases e
      have z := sa (1 + f.size) ⟨g, j, st⟩ (by
        rw [Nat.add_comm 1]
        simp only [info, List.getElem?_cons_succ]
        rw [List.getElem?_append_right (by rw [info_len]; omega), info_len, Nat.sub_self]
        exact info_head _ _ _ _)
      rw [← Nat.add_assoc] at z
      exact ⟨_, z, rfl, by omega⟩
    | m + 2, e => simp [inPlaces] at e
  | one k n f =>
    refine ⟨rfl, fun m p e => ?_⟩
    match m, e with
    | 0, e =>
      cases e
      refine ⟨⟨f, j, if k.bind then (n, j) :: st else st⟩, sa 1 _ ?_, rfl, by omega⟩
      simp only [info, List.getElem?_cons_succ]
      exact info_head _ _ _ _
    | m + 1, e => simp [inPlaces] at e
end Fw
namespace Fw
theorem F.kids_le : ∀ t : F, t.kids.length ≤ 2
  | .nul _ => Nat.zero_le 2
  | .leaf _ _ => Nat.zero_le 2
  | .two _ _ _ => Nat.le_refl 2
  | .one _ _ _ => Nat.le_succ 1
end Fw
namespace Fw
theorem infos_pos {t : F} {x : Int} : ∀ (st : Stk) (j : Nat) (r : Rec), (infos t)[j]? = some r → r.stk = st → x ∈ st.map (·.1) →
    ∃ (p : Nat) (r' : Rec), posOf x st = (p : Int) ∧ p < j ∧ (infos t)[p]? = some r' ∧ isB r'.sub = true
  | [], _, _, _, _, h => by cases h
  | (y, q) :: rest, j, r, hr, e, h => by
    obtain ⟨hq, k, f, a, h2, h3⟩ := infos_stk j j r y q rest (Nat.le_refl _) hr e
    simp only [posOf]
    by_cases c : y = x
    · rw [if_pos c]
      exact ⟨q, _, rfl, hq, h2, h3⟩
    · rw [if_neg c]
      have h' : x ∈ rest.map (·.1) := by
        rw [List.map_cons, List.mem_cons] at h
        exact h.resolve_left fun z => c z.symm
      obtain ⟨p, r', e1, e2, e3⟩ := infos_pos rest q _ h2 rfl h'
      exact ⟨p, r', e1, by omega, e3⟩
end Fw
namespace Fw
/-! ### what the law draws -/
def fv : F → List Int
  | .nul _ => []
  | .leaf .var x => [x]
  | .leaf _ _ => []
  | .two _ f g => fv f ++ fv g
  | .one k x f => if k.bind then (fv f).filter (fun y => y ≠ x) else fv f
theorem free_fv (y : Int) : ∀ (t : F) (b : List Int), y ∈ freeL t b ↔ y ∈ fv t ∧ y ∉ b
  | .nul _, b => by simp [freeL, fv]
  | .leaf .has _, b => by simp [freeL, fv]
  | .leaf .lacks _, b => by simp [freeL, fv]
  | .leaf .var x, b => by
    simp only [freeL, fv, List.mem_singleton]
    split
    · rename_i h
      constructor
      · intro z
        cases z
      · rintro ⟨rfl, z⟩
        exact absurd h z
    · rename_i h
      rw [List.mem_singleton]
      constructor
      · rintro rfl
        exact ⟨rfl, h⟩
      · exact fun z => z.1
  | .two _ f g, b => by
    simp only [freeL, fv, List.mem_append, free_fv y f b, free_fv y g b]
    constructor
    · rintro (⟨h1, h2⟩ | ⟨h1, h2⟩)
      · exact ⟨.inl h1, h2⟩
      · exact ⟨.inr h1, h2⟩
    · rintro ⟨h1 | h1, h2⟩
      · exact .inl ⟨h1, h2⟩
      · exact .inr ⟨h1, h2⟩
  | .one k x f, b => by
    simp only [freeL, fv]
    by_cases hk : k.bind = true
    · rw [if_pos hk, if_pos hk, free_fv y f (b ++ [x])]
      simp only [List.mem_append, List.mem_singleton, not_or, List.mem_filter, decide_eq_true_eq]
      constructor
      · rintro ⟨h1, h2, h3⟩
        exact ⟨⟨h1, h3⟩, h2⟩
      · rintro ⟨⟨h1, h3⟩, h2⟩
        exact ⟨h1, h2, h3⟩
    · rw [if_neg hk, if_neg hk, free_fv y f b]
theorem closed_fv {t : F} : fv t = [] ↔ Closed t := by
  rw [← closed_iff]
  constructor
  · intro h
    refine List.eq_nil_iff_forall_not_mem.mpr fun x hx => ?_
    have := ((free_fv x t []).mp hx).1
    rw [h] at this
    cases this
  · intro h
    refine List.eq_nil_iff_forall_not_mem.mpr fun x hx => ?_
    have := (free_fv x t []).mpr ⟨hx, by simp⟩
    rw [h] at this
    cases this
abbrev V4 : List Int := [0, 1, 2, 7]
def Ok : F → Prop
  | .nul _ => True
  | .leaf .var x => x ∈ V4
  | .leaf _ n => 0 ≤ n ∧ n < 2
  | .two _ f g => Ok f ∧ Ok g
  | .one k n f => (if k.bind = true then n ∈ V4 else 0 ≤ n ∧ n < 2) ∧ Ok f
theorem ok_fv : ∀ {t : F}, Ok t → ∀ x ∈ fv t, x ∈ V4
  | .nul _, _, x, h => by cases h
  | .leaf .has _, _, x, h => by cases h
  | .leaf .lacks _, _, x, h => by cases h
  | .leaf .var y, o, x, h => by
    rw [show fv (.leaf .var y) = [y] from rfl, List.mem_singleton] at h
    subst h
    exact o
  | .two _ f g, o, x, h => by
    rcases List.mem_append.mp (show x ∈ fv f ++ fv g from h) with h | h
    · exact ok_fv o.1 x h
    · exact ok_fv o.2 x h
  | .one k n f, o, x, h => by
    refine ok_fv o.2 x ?_
    simp only [fv] at h
    split at h
    · exact (List.mem_filter.mp h).1
    · exact h
structure Gen (n : Nat) (W R : List Int) (t : F) : Prop where
  dep : t.depth ≤ n + 1
  ok : Ok t
  fr : ∀ x ∈ fv t, x ∈ W ∨ x ∈ R
end Fw
namespace Fw
theorem tidy_fv : ∀ (t : F) (nm : Int → Int) (n y : Int), y ∈ fv (tidyF t nm n).1 → ∃ x ∈ fv t, y = nm x
  | .nul _, _, _, _, h => by cases h
  | .leaf .has _, _, _, _, h => by cases h
  | .leaf .lacks _, _, _, _, h => by cases h
  | .leaf .var x, nm, n, y, h => ⟨x, List.mem_singleton.mpr rfl, List.mem_singleton.mp h⟩
  | .two b f g, nm, n, y, h => by
    rcases List.mem_append.mp (show y ∈ fv (tidyF f nm n).1 ++ fv (tidyF g nm (tidyF f nm n).2).1 from h) with h | h
    · obtain ⟨x, h1, h2⟩ := tidy_fv f nm n y h
      exact ⟨x, List.mem_append_left _ h1, h2⟩
    · obtain ⟨x, h1, h2⟩ := tidy_fv g nm _ y h
      exact ⟨x, List.mem_append_right _ h1, h2⟩
  | .one k z f, nm, n, y, h => by
    by_cases hk : k.bind = true
    · simp only [tidyF, if_pos hk, fv, List.mem_filter, decide_eq_true_eq] at h
      obtain ⟨x, h1, h2⟩ := tidy_fv f _ _ y h.1
      by_cases e : x = z
      · rw [if_pos e] at h2
        exact absurd h2 h.2
      · rw [if_neg e] at h2
        refine ⟨x, ?_, h2⟩
        simp only [fv, if_pos hk, List.mem_filter, decide_eq_true_eq]
        exact ⟨h1, e⟩
    · simp only [tidyF, if_neg hk, fv] at h
      obtain ⟨x, h1, h2⟩ := tidy_fv f nm n y h
      refine ⟨x, ?_, h2⟩
      simp only [fv, if_neg hk]
      exact h1
theorem tidy_closed {t : F} (nm : Int → Int) (n : Int) (h : Closed t) : Closed (tidyF t nm n).1 := by
  rw [← closed_fv] at h ⊢
  refine List.eq_nil_iff_forall_not_mem.mpr fun y hy => ?_
  obtain ⟨x, hx, _⟩ := tidy_fv t nm n y hy
  rw [h] at hx
  cases hx
end Fw

set_option maxRecDepth 100000
set_option maxHeartbeats 2000000
namespace Fw
open PySem PySem.Spec PyProof.Rows L2
/-! ### the text by places -/
def top (i : Nat) : Stmt := PySem.Challenge.pw_fixworlds_k19_doing_all.main.body.getD i (.Pass ⟨0, 0, 0, 0⟩)
abbrev s_components : Stmt := top 1
abbrev s_finished : Stmt := top 2
abbrev s_turned : Stmt := top 3
abbrev s_flood : Stmt := top 4
abbrev s_states_in : Stmt := top 6
abbrev s_mask_of : Stmt := top 7
abbrev s_led : Stmt := top 8
abbrev s_step_masks : Stmt := top 9
abbrev s_like_at_once : Stmt := top 11
abbrev s_doers_of : Stmt := top 13
abbrev s_Doers_init : Stmt := inClass (top 14) 0
abbrev s_Doers__take_out : Stmt := inClass (top 14) 1
abbrev s_Doers__lose : Stmt := inClass (top 14) 2
abbrev s_ends_first : Stmt := top 15
abbrev s_is_number : Stmt := top 20
abbrev s_ascends : Stmt := top 21
abbrev s_World_init : Stmt := inClass (top 26) 0
abbrev s_check_numbers : Stmt := top 27
abbrev s_check_states : Stmt := top 28
abbrev s_check_steps : Stmt := top 29
abbrev s_ends_of : Stmt := top 30
abbrev s_can_do : Stmt := top 32
abbrev s_law_draws : Stmt := top 34
abbrev s_law_take : Stmt := top 35
abbrev s_law_world : Stmt := top 36
abbrev s_law_made : Stmt := top 37
abbrev s_law_behind : Stmt := top 38
abbrev s_law_value : Stmt := top 39
abbrev s_law_truth : Stmt := top 40
abbrev s_law_is_list : Stmt := top 41
abbrev s_law_some_statement : Stmt := top 42
abbrev s_law_follows : Stmt := top 43
abbrev s_law : Stmt := top 44
abbrev n_components : List Str := ["ways", "back", "taken", "found", "start"]
abbrev a_components : List Str := ["ways"]
theorem sc_components : FnScope n_components a_components (defScope s_components) := ⟨rfl, rfl, rfl, by decide +kernel, rfl, by decide +kernel, by decide +kernel⟩
abbrev n_finished : List Str := ["ways", "seen", "left", "start", "waiting", "node", "end"]
abbrev a_finished : List Str := ["ways"]
theorem sc_finished : FnScope n_finished a_finished (defScope s_finished) := ⟨rfl, rfl, rfl, by decide +kernel, rfl, by decide +kernel, by decide +kernel⟩
abbrev n_turned : List Str := ["ways", "node", "back", "ends", "end"]
abbrev a_turned : List Str := ["ways"]
theorem sc_turned : FnScope n_turned a_turned (defScope s_turned) := ⟨rfl, rfl, rfl, by decide +kernel, rfl, by decide +kernel, by decide +kernel⟩
abbrev n_flood : List Str := ["start", "ways", "taken", "found", "done", "end"]
abbrev a_flood : List Str := ["start", "ways", "taken"]
theorem sc_flood : FnScope n_flood a_flood (defScope s_flood) := ⟨rfl, rfl, rfl, by decide +kernel, rfl, by decide +kernel, by decide +kernel⟩
abbrev n_states_in : List Str := ["mask", "states", "lowest"]
abbrev a_states_in : List Str := ["mask"]
theorem sc_states_in : FnScope n_states_in a_states_in (defScope s_states_in) := ⟨rfl, rfl, rfl, by decide +kernel, rfl, by decide +kernel, by decide +kernel⟩
abbrev n_mask_of : List Str := ["states", "mask", "state"]
abbrev a_mask_of : List Str := ["states"]
theorem sc_mask_of : FnScope n_mask_of a_mask_of (defScope s_mask_of) := ⟨rfl, rfl, rfl, by decide +kernel, rfl, by decide +kernel, by decide +kernel⟩
abbrev n_led : List Str := ["rows", "mask", "union", "state"]
abbrev a_led : List Str := ["rows", "mask"]
theorem sc_led : FnScope n_led a_led (defScope s_led) := ⟨rfl, rfl, rfl, by decide +kernel, rfl, by decide +kernel, by decide +kernel⟩
abbrev n_step_masks : List Str := ["many", "steps", "label", "behind", "before", "start", "other", "end"]
abbrev a_step_masks : List Str := ["many", "steps", "label"]
theorem sc_step_masks : FnScope n_step_masks a_step_masks (defScope s_step_masks) := ⟨rfl, rfl, rfl, by decide +kernel, rfl, by decide +kernel, by decide +kernel⟩
abbrev n_like_at_once : List Str := ["rows", "blocks", "state", "row"]
abbrev a_like_at_once : List Str := ["rows"]
theorem sc_like_at_once : FnScope n_like_at_once a_like_at_once (defScope s_like_at_once) := ⟨rfl, rfl, rfl, by decide +kernel, rfl, by decide +kernel, by decide +kernel⟩
abbrev n_doers_of : List Str := ["world", "doers", "block", "state"]
abbrev a_doers_of : List Str := ["world"]
theorem sc_doers_of : FnScope n_doers_of a_doers_of (defScope s_doers_of) := ⟨rfl, rfl, rfl, by decide +kernel, rfl, by decide +kernel, by decide +kernel⟩
abbrev n_Doers_init : List Str := ["self", "doers", "asked", "answering", "mutual", "many", "labels", "leading", "follow", "everywhere", "done", "end", "lost", "starts", "behind", "before", "looked_at", "label", "_"]
abbrev a_Doers_init : List Str := ["self", "doers", "asked", "answering", "mutual"]
theorem sc_Doers_init : FnScope n_Doers_init a_Doers_init (defScope s_Doers_init) := ⟨rfl, rfl, rfl, by decide +kernel, rfl, by decide +kernel, by decide +kernel⟩
abbrev n_Doers__take_out : List Str := ["self", "starts", "behind", "end", "looked_at", "doers", "unable", "start", "gone", "other", "state"]
abbrev a_Doers__take_out : List Str := ["self", "starts", "behind", "end", "looked_at"]
theorem sc_Doers__take_out : FnScope n_Doers__take_out a_Doers__take_out (defScope s_Doers__take_out) := ⟨rfl, rfl, rfl, by decide +kernel, rfl, by decide +kernel, by decide +kernel⟩
abbrev n_Doers__lose : List Str := ["self", "state", "gone"]
abbrev a_Doers__lose : List Str := ["self", "state", "gone"]
theorem sc_Doers__lose : FnScope n_Doers__lose a_Doers__lose (defScope s_Doers__lose) := ⟨rfl, rfl, rfl, by decide +kernel, rfl, by decide +kernel, by decide +kernel⟩
abbrev n_ends_first : List Str := ["many", "steps", "ways", "start", "_", "end", "state", "members"]
abbrev a_ends_first : List Str := ["many", "steps"]
theorem sc_ends_first : FnScope n_ends_first a_ends_first (defScope s_ends_first) := ⟨rfl, rfl, rfl, by decide +kernel, rfl, by decide +kernel, by decide +kernel⟩
abbrev n_is_number : List Str := ["value", "least", "greatest"]
abbrev a_is_number : List Str := ["value", "least", "greatest"]
theorem sc_is_number : FnScope n_is_number a_is_number (defScope s_is_number) := ⟨rfl, rfl, rfl, by decide +kernel, rfl, by decide +kernel, by decide +kernel⟩
abbrev n_ascends : List Str := ["row", "low", "high"]
abbrev a_ascends : List Str := ["row"]
theorem sc_ascends : FnScope n_ascends a_ascends (defScope s_ascends) := ⟨rfl, rfl, rfl, by decide +kernel, rfl, by decide +kernel, by decide +kernel⟩
abbrev n_World_init : List Str := ["self", "labels", "facts", "states", "steps", "row", "step"]
abbrev a_World_init : List Str := ["self", "labels", "facts", "states", "steps"]
theorem sc_World_init : FnScope n_World_init a_World_init (defScope s_World_init) := ⟨rfl, rfl, rfl, by decide +kernel, rfl, by decide +kernel, by decide +kernel⟩
abbrev n_check_numbers : List Str := ["labels", "facts"]
abbrev a_check_numbers : List Str := ["labels", "facts"]
theorem sc_check_numbers : FnScope n_check_numbers a_check_numbers (defScope s_check_numbers) := ⟨rfl, rfl, rfl, by decide +kernel, rfl, by decide +kernel, by decide +kernel⟩
abbrev n_check_states : List Str := ["world", "row", "fact"]
abbrev a_check_states : List Str := ["world"]
theorem sc_check_states : FnScope n_check_states a_check_states (defScope s_check_states) := ⟨rfl, rfl, rfl, by decide +kernel, rfl, by decide +kernel, by decide +kernel⟩
abbrev n_check_steps : List Str := ["world", "greatest", "step"]
abbrev a_check_steps : List Str := ["world"]
theorem sc_check_steps : FnScope n_check_steps a_check_steps (defScope s_check_steps) := ⟨rfl, rfl, rfl, by decide +kernel, rfl, by decide +kernel, by decide +kernel⟩
abbrev n_ends_of : List Str := ["steps", "ends", "start", "label", "end"]
abbrev a_ends_of : List Str := ["steps"]
theorem sc_ends_of : FnScope n_ends_of a_ends_of (defScope s_ends_of) := ⟨rfl, rfl, rfl, by decide +kernel, rfl, by decide +kernel, by decide +kernel⟩
abbrev n_can_do : List Str := ["world", "state", "mask", "doer"]
abbrev a_can_do : List Str := ["world"]
theorem sc_can_do : FnScope n_can_do a_can_do (defScope s_can_do) := ⟨rfl, rfl, rfl, by decide +kernel, rfl, by decide +kernel, by decide +kernel⟩
abbrev n_law_draws : List Str := ["script", "count", "cells", "found", "mixed", "k", "j", "cell", "again"]
abbrev a_law_draws : List Str := ["script", "count"]
theorem sc_law_draws : FnScope n_law_draws a_law_draws (defScope s_law_draws) := ⟨rfl, rfl, rfl, by decide +kernel, rfl, by decide +kernel, by decide +kernel⟩
abbrev n_law_take : List Str := ["draws", "limit"]
abbrev a_law_take : List Str := ["draws", "limit"]
theorem sc_law_take : FnScope n_law_take a_law_take (defScope s_law_take) := ⟨rfl, rfl, rfl, by decide +kernel, rfl, by decide +kernel, by decide +kernel⟩
abbrev n_law_world : List Str := ["draws", "most", "facts", "size", "state", "states", "steps", "label", "other", "fact"]
abbrev a_law_world : List Str := ["draws", "most", "facts"]
theorem sc_law_world : FnScope n_law_world a_law_world (defScope s_law_world) := ⟨rfl, rfl, rfl, by decide +kernel, rfl, by decide +kernel, by decide +kernel⟩
abbrev n_law_made : List Str := ["world", "labels", "facts", "state"]
abbrev a_law_made : List Str := ["world", "labels", "facts"]
theorem sc_law_made : FnScope n_law_made a_law_made (defScope s_law_made) := ⟨rfl, rfl, rfl, by decide +kernel, rfl, by decide +kernel, by decide +kernel⟩
abbrev n_law_behind : List Str := ["world", "state", "label", "step"]
abbrev a_law_behind : List Str := ["world", "state", "label"]
theorem sc_law_behind : FnScope n_law_behind a_law_behind (defScope s_law_behind) := ⟨rfl, rfl, rfl, by decide +kernel, rfl, by decide +kernel, by decide +kernel⟩
abbrev n_law_value : List Str := ["world", "statement", "sets", "states", "kind", "now", "turn", "inner", "name", "first", "second", "state", "k"]
abbrev a_law_value : List Str := ["world", "statement", "sets"]
theorem sc_law_value : FnScope n_law_value a_law_value (defScope s_law_value) := ⟨rfl, rfl, rfl, by decide +kernel, rfl, by decide +kernel, by decide +kernel⟩
abbrev n_law_truth : List Str := ["world", "statement"]
abbrev a_law_truth : List Str := ["world", "statement"]
theorem sc_law_truth : FnScope n_law_truth a_law_truth (defScope s_law_truth) := ⟨rfl, rfl, rfl, by decide +kernel, rfl, by decide +kernel, by decide +kernel⟩
abbrev n_law_is_list : List Str := ["actual", "expected"]
abbrev a_law_is_list : List Str := ["actual", "expected"]
theorem sc_law_is_list : FnScope n_law_is_list a_law_is_list (defScope s_law_is_list) := ⟨rfl, rfl, rfl, by decide +kernel, rfl, by decide +kernel, by decide +kernel⟩
abbrev n_law_some_statement : List Str := ["draws", "depth", "kind"]
abbrev a_law_some_statement : List Str := ["draws", "depth"]
theorem sc_law_some_statement : FnScope n_law_some_statement a_law_some_statement (defScope s_law_some_statement) := ⟨rfl, rfl, rfl, by decide +kernel, rfl, by decide +kernel, by decide +kernel⟩
abbrev n_law_follows : List Str := ["world", "pairs", "first", "second", "label", "one", "two"]
abbrev a_law_follows : List Str := ["world", "pairs", "first", "second"]
theorem sc_law_follows : FnScope n_law_follows a_law_follows (defScope s_law_follows) := ⟨rfl, rfl, rfl, by decide +kernel, rfl, by decide +kernel, by decide +kernel⟩
abbrev n_law : List Str := ["script", "draws", "facts", "world", "size", "pairs", "first", "turn", "good", "pair", "second"]
abbrev a_law : List Str := ["script"]
theorem sc_law : FnScope n_law a_law (defScope s_law) := ⟨rfl, rfl, rfl, by decide +kernel, rfl, by decide +kernel, by decide +kernel⟩
/-! ### calls -/
def Has (P : Program) (w : World) (K : PySem.W.Frag) (mg : Str → Option Value) (base : Heap) (x : Str) (k : Nat) (ps : List Str) (sp : Sp) : Prop :=
  ∃ f fd, mg x = some (.ref f) ∧ PySem.W.keepIn K (.ref f) = true ∧ Binds K fd ps [] ∧ FnOk P w K mg base CX0 k f fd ps sp
theorem pe_callH {X : Cx} {x : Str} {k : Nat} {ps : List Str} {sp : Sp} {e : Expr} {es : List Expr} {t : TA} {p pos : Pos} (h : Has X.prog X.w X.K X.mg X.base x k ps sp) (hr : Room k X.A) (ha : PA X (e :: es) t) (hg : Gl X x := by rfl)
    (hdb : (x == ("__debug__" : Str)) = false := by decide) (he : starEach (e :: es) X.env = (false, eval e X.env) :: starEach es X.env := by rfl) (hpl : (backTo pos (starEach es X.env)).any (·.1) = false := by rfl) :
    PE X (.Call (.Name x p) (e :: es) [] pos) (tCall sp [] E0 t) := by
  obtain ⟨f, fd, m, kp, b, G⟩ := h
  exact pe_call G hr hg m kp b .nil pass0 ha hdb he hpl
/-- .. of a def that may raise -/
def HasX (P : Program) (w : World) (K : PySem.W.Frag) (mg : Str → Option Value) (base : Heap) (x : Str) (k : Nat) (ps : List Str) (sp : Sp) : Prop :=
  ∃ f fd, mg x = some (.ref f) ∧ PySem.W.keepIn K (.ref f) = true ∧ Binds K fd ps [] ∧ FnOk P w K mg base (L2.CX P w) k f fd ps sp
theorem pe_callX {X : Cx} {W : WX} {x : Str} {k : Nat} {ps : List Str} {sp : Sp} {e : Expr} {es : List Expr} {t : TA} {p pos : Pos} (h : HasX X.prog X.w X.K X.mg X.base x k ps sp) (hr : Room k X.A) (tk : Takes X W) (ha : PA X (e :: es) t) (hg : Gl X x := by rfl)
    (hdb : (x == ("__debug__" : Str)) = false := by decide) (he : starEach (e :: es) X.env = (false, eval e X.env) :: starEach es X.env := by rfl) (hpl : (backTo pos (starEach es X.env)).any (·.1) = false := by rfl) :
    PE X (.Call (.Name x p) (e :: es) [] pos) (tCallS sp (WE W) t) := by
  obtain ⟨f, fd, m, kp, b, G⟩ := h
  exact pe_callS G hr hg m kp b (fun σ => passAt tk σ) ha hdb he hpl
theorem pe_callL {X : Cx} {x : Str} {k : Nat} {ps : List Str} {sp : Sp} {e : Expr} {es : List Expr} {t : TA} {p pos : Pos} (h : HasX X.prog X.w X.K X.mg X.base x k ps sp) (hr : Room k X.A) (ha : PA X (e :: es) t) (hg : Gl X x := by rfl)
    (hdb : (x == ("__debug__" : Str)) = false := by decide) (he : starEach (e :: es) X.env = (false, eval e X.env) :: starEach es X.env := by rfl) (hpl : (backTo pos (starEach es X.env)).any (·.1) = false := by rfl) :
    PE X (.Call (.Name x p) (e :: es) [] pos) (tCall sp [] E0 t) := by
  obtain ⟨f, fd, m, kp, b, G⟩ := h
  exact pe_call G hr hg m kp b .nil passL ha hdb he hpl
theorem pss_when {X : Cx} {sts : List Stmt} {t : TS} {p : Prop} (h : p → PSs X sts t) : PSs X sts (fun D σ H => p ∧ t D σ H) :=
  ⟨fun pins s σ H D I q => (h q.1).run pins s σ H D I q.2⟩
def HasC (P : Program) (w : World) (K : PySem.W.Frag) (mg : Str → Option Value) (base : Heap) (x : Str) (C : Addr) (k : Nat) (ps : List Str) (sp : Sp) : Prop :=
  ∃ f fd, mg x = some (.ref C) ∧ Mk K C f ∧ Binds K fd ps [] ∧ FnOk P w K mg base CX0 k f fd ps sp
theorem pe_makeH {X : Cx} {x : Str} {C : Addr} {k : Nat} {ps : List Str} {sp : Sp} {e : Expr} {es : List Expr} {t : TA} {p pos : Pos} (h : HasC X.prog X.w X.K X.mg X.base x C k ps sp) (hr : Room (k + 1) X.A) (ha : PA X (e :: es) t) (hg : Gl X x := by rfl)
    (hdb : (x == ("__debug__" : Str)) = false := by decide) (he : starEach (e :: es) X.env = (false, eval e X.env) :: starEach es X.env := by rfl) (hpl : (backTo pos (starEach es X.env)).any (·.1) = false := by rfl) :
    PE X (.Call (.Name x p) (e :: es) [] pos) (tMake C sp [] E0 t) := by
  obtain ⟨f, fd, m, M, b, G⟩ := h
  exact pe_make M G hr hg m b .nil pass0 ha hdb he hpl
/-! ### statements in memory -/
def wN (b : Bool) : Str := if b then "true" else "false"
def wT (b : Bool) : Str := if b then "and" else "or"
def wL : Leaf → Str
  | .has => "has"
  | .lacks => "lacks"
  | .var => "var"
def wO : One → Str
  | .some => "some"
  | .all => "all"
  | .least => "least"
  | .most => "most"
def hv : Hd → List V
  | .nul b => [.str (wN b)]
  | .leaf k n => [.str (wL k), .int n]
  | .two b => [.str (wT b)]
  | .one k n => [.str (wO k), .int n]
def hw : Hd → Str
  | .nul b => wN b
  | .leaf k _ => wL k
  | .two b => wT b
  | .one k _ => wO k
inductive IsF (K : PySem.W.Frag) (H : Hp) : V → F → Prop
  | nul {a : Addr} {b : Bool} : SqT K H a (hv (.nul b)) → IsF K H (.ref a) (.nul b)
  | leaf {a : Addr} {k : Leaf} {n : Int} : SqT K H a (hv (.leaf k n)) → IsF K H (.ref a) (.leaf k n)
  | two {a : Addr} {b : Bool} {x y : V} {f g : F} : SqT K H a (hv (.two b) ++ [x, y]) → IsF K H x f → IsF K H y g → IsF K H (.ref a) (.two b f g)
  | one {a : Addr} {k : One} {n : Int} {x : V} {f : F} : SqT K H a (hv (.one k n) ++ [x]) → IsF K H x f → IsF K H (.ref a) (.one k n f)
/-- all but what stands at d is as it was -/
def But (d : Addr) (H H' : Hp) : Prop := ∀ b o, b ≠ d → H b = some o → H' b = some o
theorem Same.but {d : Addr} {H H' : Hp} (s : Same H H') : But d H H' := fun b o _ e => s b o e
theorem But.refl (d : Addr) (H : Hp) : But d H H := fun _ _ _ e => e
theorem But.trans {d : Addr} {H H1 H2 : Hp} (a : But d H H1) (b : But d H1 H2) : But d H H2 := fun c o n e => b c o n (a c o n e)
theorem But.upd {d : Addr} {H : Hp} {o : HO} : But d H (upd H d o) := fun b u n e => by rw [upd_ne n]; exact e
theorem Same.new {H : Hp} {p : Addr} {o : HO} (h : H p = none) : Same H (upd H p o) := fun b u e => by rw [upd_ne (ne_of_none e h)]; exact e
theorem SqT.keepAt {K : PySem.W.Frag} {H H' : Hp} {a : Addr} {xs : List V} (k : ∀ o, H a = some o → H' a = some o) (h : SqT K H a xs) : SqT K H' a xs := by
  rcases h with h | h
  · rcases h with h | ⟨u, h⟩
    · exact .inl (.inl (k _ h))
    · exact .inl (.inr ⟨u, k _ h⟩)
  · exact .inr h
theorem SqL.keepAt {K : PySem.W.Frag} {H H' : Hp} {a : Addr} {xs : List V} (k : ∀ o, H a = some o → H' a = some o) (h : SqL K H a xs) : SqL K H' a xs := by
  rcases h with h | h
  · rcases h with h | ⟨u, h⟩
    · exact .inl (.inl (k _ h))
    · exact .inl (.inr ⟨u, k _ h⟩)
  · exact .inr h
theorem SqT.same {K : PySem.W.Frag} {H H' : Hp} {a : Addr} {xs : List V} (s : Same H H') (h : SqT K H a xs) : SqT K H' a xs := SqT.keepAt (fun o e => s a o e) h
/-- what stands at d is a list: tuples are elsewhere -/
def IsLst (H : Hp) (d : Addr) : Prop := ∃ xs, H d = some (.lst xs)
theorem SqT.but {K : PySem.W.Frag} {H H' : Hp} {a d : Addr} {xs : List V} (hd : IsLst H d) (s : But d H H') (h : SqT K H a xs) : SqT K H' a xs := by
  rcases h with h | h
  · obtain ⟨ys, e⟩ := hd
    rcases h with h | ⟨u, h⟩
    · exact .inl (.inl (s _ _ (ne_of h e (by intro z; cases z)) h))
    · exact .inl (.inr ⟨u, s _ _ (ne_of h e (by intro z; cases z)) h⟩)
  · exact .inr h
theorem IsF.map {K : PySem.W.Frag} {H H' : Hp} (s : ∀ a xs, SqT K H a xs → SqT K H' a xs) {v : V} {t : F} (h : IsF K H v t) : IsF K H' v t := by
  induction h with
  | nul h => exact .nul (s _ _ h)
  | leaf h => exact .leaf (s _ _ h)
  | two h _ _ f g => exact .two (s _ _ h) f g
  | one h _ f => exact .one (s _ _ h) f
theorem IsF.same {K : PySem.W.Frag} {H H' : Hp} (s : Same H H') {v : V} {t : F} (h : IsF K H v t) : IsF K H' v t := h.map fun _ _ => SqT.same s
theorem IsF.but {K : PySem.W.Frag} {H H' : Hp} {d : Addr} (hd : IsLst H d) (s : But d H H') {v : V} {t : F} (h : IsF K H v t) : IsF K H' v t := h.map fun _ _ => SqT.but hd s
inductive AllF (K : PySem.W.Frag) (H : Hp) : List V → List F → Prop
  | nil : AllF K H [] []
  | cons {x : V} {f : F} {xs : List V} {fs : List F} : IsF K H x f → AllF K H xs fs → AllF K H (x :: xs) (f :: fs)
theorem IsF.open {K : PySem.W.Frag} {H : Hp} {v : V} {t : F} (h : IsF K H v t) : ∃ a ks, v = .ref a ∧ SqT K H a (hv t.hd ++ ks) ∧ AllF K H ks t.kids := by
  cases h with
  | nul h => exact ⟨_, [], rfl, by simpa [F.hd] using h, .nil⟩
  | leaf h => exact ⟨_, [], rfl, by simpa [F.hd] using h, .nil⟩
  | two h f g => exact ⟨_, _, rfl, h, .cons f (.cons g .nil)⟩
  | one h f => exact ⟨_, _, rfl, h, .cons f .nil⟩
theorem IsF.close {K : PySem.W.Frag} {H : Hp} {a : Addr} {t : F} {ks : List V} (h : SqT K H a (hv t.hd ++ ks)) (hk : AllF K H ks t.kids) : IsF K H (.ref a) t := by
  cases t with
  | nul b =>
    cases hk
    exact .nul (by simpa [F.hd] using h)
  | leaf k n =>
    cases hk
    exact .leaf (by simpa [F.hd] using h)
  | two b f g =>
    cases hk with
    | cons x hk =>
      cases hk with
      | cons y hk =>
        cases hk
        exact .two h x y
  | one k n f =>
    cases hk with
    | cons x hk =>
      cases hk
      exact .one h x
theorem hv_len (h : Hd) : (hv h).length = 1 ∨ (hv h).length = 2 := by cases h <;> simp [hv]
theorem hv_head (h : Hd) : (hv h)[0]? = some (.str (hw h)) := by cases h <;> rfl
def isTwo : Hd → Bool
  | .two _ => true
  | _ => false
theorem in_joins (h : Hd) : inV (.str (hw h)) [.str "and", .str "or"] = isTwo h := by
  cases h with
  | nul b => cases b <;> rfl
  | leaf k n => cases k <;> rfl
  | two b => cases b <;> rfl
  | one k n => cases k <;> rfl
def isBH : Hd → Bool
  | .one k _ => k.bind
  | _ => false
theorem in_binders (h : Hd) : inV (.str (hw h)) [.str "least", .str "most"] = isBH h := by
  cases h with
  | nul b => cases b <;> rfl
  | leaf k n => cases k <;> rfl
  | two b => cases b <;> rfl
  | one k n => cases k <;> rfl
/-! ### what the top has written -/
structure Txt (K : PySem.W.Frag) (mg : Str → Option Value) (C J B : Addr) : Prop where
  z_all : mg "all" = none
  z_bool : mg "bool" = none
  z_enumerate : mg "enumerate" = none
  z_int : mg "int" = none
  z_isinstance : mg "isinstance" = none
  z_len : mg "len" = none
  z_list : mg "list" = none
  z_range : mg "range" = none
  z_reversed : mg "reversed" = none
  z_sorted : mg "sorted" = none
  z_tuple : mg "tuple" = none
  z_zip : mg "zip" = none
/-- what it has written of the class of worlds -/
structure TxtC (K : PySem.W.Frag) (WC : Addr) : Prop where
  cl : Cls K WC
  nL : NoAttr K WC "labels"
  nF : NoAttr K WC "facts"
  nS : NoAttr K WC "states"
  nT : NoAttr K WC "steps"
  nE : NoAttr K WC "_ends"
/-- what it has written of the errors -/
structure TxtE (K : PySem.W.Frag) (mg : Str → Option Value) (NC FE : Addr) : Prop where
  gC : mg "NotClosed" = some (.ref NC)
  gF : mg "FixError" = some (.ref FE)
  xC : PySem.W.excIn K NC [.type "ValueError", .type "Exception", .type "BaseException", .type "object"] "ValueError.__new__" = true
  kC : PySem.W.keepIn K (.ref NC) = true
  bC : PySem.W.subIn K (.ref NC) (.type "BaseException") = some true
  tC : PySem.W.typeIn K (.ref NC) = some (.type "type")
  eC : PySem.W.exmOne K (.ref NC) (.ref NC) = some true
  is : ExcC K NC
  kF : PySem.W.kitOne K (.ref NC) (.ref FE) = some true
  kV : PySem.W.kitOne K (.ref NC) (.type "ValueError") = some true
def pf (h : V) (a : Int) (l : Addr) : List (Str × V) := [("head", h), ("around", .int a), ("inner", .ref l)]
theorem pf_make (h : V) (a : Int) (l : Addr) : putF "inner" (.ref l) (putF "around" (.int a) (putF "head" h [])) = pf h a l := by rfl
theorem join {c : Bool} {A : Prop} {C : Hp → Prop} {G : Hp} (Fa : Hp → Prop) (hr : ∀ G5, Fa G5 → C G5) (h1 : c = true → (∀ G5, Fa G5 → C G5) → A) (h2 : c = false → Fa G) : if c = true then A else C G := by
  cases c with
  | true => exact h1 rfl hr
  | false => exact hr _ (h2 rfl)
end Fw

set_option maxRecDepth 100000
set_option maxHeartbeats 2000000
namespace Fw
open PySem PySem.Spec PyProof.Rows L2
/-! ### parts in memory -/
/-- all but what stands at the addresses of X is as it was -/
def Kp (X : List Addr) (H H' : Hp) : Prop := ∀ b o, b ∉ X → H b = some o → H' b = some o
/-- all but lists is as it was -/
def LKp (H H' : Hp) : Prop := ∀ b o, (∀ xs, o ≠ .lst xs) → H b = some o → H' b = some o
theorem LKp.refl (H : Hp) : LKp H H := fun _ _ _ e => e
theorem LKp.trans {H H1 H2 : Hp} (a : LKp H H1) (b : LKp H1 H2) : LKp H H2 := fun c o n e => b c o n (a c o n e)
theorem LKp.same {H H' : Hp} (s : Same H H') : LKp H H' := fun b o _ e => s b o e
theorem LKp.upd {H : Hp} {d : Addr} {xs : List V} {o : HO} (h : H d = some (.lst xs)) : LKp H (upd H d o) := fun b u n e => by
  rw [upd_ne (ne_of e h (n xs))]
  exact e
theorem SqT.lk {K : PySem.W.Frag} {H H' : Hp} {a : Addr} {xs : List V} (s : LKp H H') (h : SqT K H a xs) : SqT K H' a xs := by
  rcases h with h | h
  · rcases h with h | ⟨u, h⟩
    · exact .inl (.inl (s _ _ (by intro xs z; cases z) h))
    · exact .inl (.inr ⟨u, s _ _ (by intro xs z; cases z) h⟩)
  · exact .inr h
theorem IsF.lk {K : PySem.W.Frag} {H H' : Hp} (s : LKp H H') {v : V} {t : F} (h : IsF K H v t) : IsF K H' v t := h.map fun _ _ => SqT.lk s
theorem AllF.lk {K : PySem.W.Frag} {H H' : Hp} (s : LKp H H') {vs : List V} {ts : List F} (h : AllF K H vs ts) : AllF K H' vs ts := by
  induction h with
  | nil => exact .nil
  | cons a _ ih => exact .cons (a.lk s) ih
theorem AllF.len {K : PySem.W.Frag} {H : Hp} {vs : List V} {ts : List F} (h : AllF K H vs ts) : vs.length = ts.length := by
  induction h with
  | nil => rfl
  | cons _ _ ih => simp [ih]
theorem AllF.get {K : PySem.W.Frag} {H : Hp} {vs : List V} {ts : List F} (h : AllF K H vs ts) : ∀ {m : Nat} {y : V} {f : F}, vs[m]? = some y → ts[m]? = some f → IsF K H y f := by
  induction h with
  | nil => intro m y f e _; cases e
  | cons a _ ih =>
    intro m y f e1 e2
    cases m with
    | zero =>
      cases e1
      cases e2
      exact a
    | succ m => exact ih e1 e2
structure PRec where
  p : Addr
  l : Addr
  dx : Addr
  h : Addr
structure PartIs (K : PySem.W.Frag) (C : Addr) (H : Hp) (pr : PRec) (hd : Hd) (a : Int) (ks : List Nat) : Prop where
  ob : H pr.p = some (.ins C pr.dx (pf (.ref pr.h) a pr.l))
  hd : SqT K H pr.h (hv hd)
  inn : H pr.l = some (.lst (ks.map fun n => V.int (n : Nat)))
def Parts (K : PySem.W.Frag) (C : Addr) (H : Hp) (R : List PRec) (L : List (Hd × Int)) : Prop :=
  R.length = L.length ∧ ∀ i pr hd a, R[i]? = some pr → L[i]? = some (hd, a) → PartIs K C H pr hd a (kidsFrom (L.map (·.2)) 0 i)
def PartsAt (K : PySem.W.Frag) (C : Addr) (H : Hp) (pa : Addr) (L : List (Hd × Int)) : Prop :=
  ∃ R : List PRec, SqL K H pa (R.map fun r => V.ref r.p) ∧ Parts K C H R L
theorem PartIs.same {K : PySem.W.Frag} {C : Addr} {H H' : Hp} {pr : PRec} {hd : Hd} {a : Int} {ks : List Nat} (s : Same H H') (h : PartIs K C H pr hd a ks) : PartIs K C H' pr hd a ks :=
  ⟨s _ _ h.ob, SqT.same s h.hd, s _ _ h.inn⟩
theorem PartsAt.same {K : PySem.W.Frag} {C : Addr} {H H' : Hp} {pa : Addr} {L : List (Hd × Int)} (s : Same H H') (h : PartsAt K C H pa L) : PartsAt K C H' pa L := by
  obtain ⟨R, h1, h2, h3⟩ := h
  exact ⟨R, s.seq h1, h2, fun i pr hd a e1 e2 => (h3 i pr hd a e1 e2).same s⟩
/-- what waits: bottom first in memory, top first in the list -/
inductive SA (K : PySem.W.Frag) (H : Hp) : List V → List (F × Int) → Prop
  | nil : SA K H [] []
  | snoc {ws : List V} {st : List (F × Int)} {q : Addr} {x : V} {t : F} {a : Int} : SA K H ws st → SqT K H q [x, .int a] → IsF K H x t → SA K H (ws ++ [.ref q]) ((t, a) :: st)
theorem SA.lk {K : PySem.W.Frag} {H H' : Hp} (s : LKp H H') {ws : List V} {st : List (F × Int)} (h : SA K H ws st) : SA K H' ws st := by
  induction h with
  | nil => exact .nil
  | snoc _ b c ih => exact .snoc ih (SqT.lk s b) (c.lk s)
theorem SA.len {K : PySem.W.Frag} {H : Hp} {ws : List V} {st : List (F × Int)} (h : SA K H ws st) : ws.length = st.length := by
  induction h with
  | nil => rfl
  | snoc _ _ _ ih => simp [ih]
theorem kids_snoc (L : List (Hd × Int)) (h : Hd) (a : Int) (i : Nat) :
    kidsFrom ((L ++ [(h, a)]).map (·.2)) 0 i = kidsFrom (L.map (·.2)) 0 i ++ if a = (i : Int) then [L.length] else [] := by
  rw [List.map_append, kids_app]
  simp only [List.map_cons, List.map_nil, kidsFrom, Nat.zero_add, List.length_map]
theorem kids_out : ∀ (A : List Int) (j i : Nat), (∀ a ∈ A, a < (i : Int)) → kidsFrom A j i = [] := fun A j i h => kids_none A j i fun a ha => by have := h a ha; omega
theorem Parts.more {K : PySem.W.Frag} {C : Addr} {G G5 : Hp} {R : List PRec} {L : List (Hd × Int)} {n : PRec} {hd : Hd} {a : Int} (PR : Parts K C G R L) (lk : LKp G G5)
    (hin : ∀ i pr, R[i]? = some pr → G5 pr.l = some (.lst ((kidsFrom (L.map (·.2)) 0 i ++ if a = (i : Int) then [L.length] else []).map fun n => V.int (n : Nat))))
    (Lb : ∀ x ∈ L, x.2 < (L.length : Int)) (ha : a < (L.length : Int)) (new : PartIs K C G5 n hd a []) : Parts K C G5 (R ++ [n]) (L ++ [(hd, a)]) := by
  obtain ⟨len, h⟩ := PR
  refine ⟨by simp [len], fun i pr hd' a' e1 e2 => ?_⟩
  rw [kids_snoc]
  by_cases lt : i < R.length
  · rw [List.getElem?_append_left lt] at e1
    rw [List.getElem?_append_left (by omega)] at e2
    have z := h i pr hd' a' e1 e2
    exact ⟨lk _ _ (by intro xs q; cases q) z.ob, SqT.lk lk z.hd, hin i pr e1⟩
  · have ei : i = R.length := by
      have q := (List.getElem?_eq_some_iff.mp e1).1
      rw [List.length_append, List.length_singleton] at q
      omega
    subst ei
    rw [List.getElem?_append_right (Nat.le_refl _), Nat.sub_self] at e1
    rw [List.getElem?_append_right (by omega), len, Nat.sub_self] at e2
    cases e1
    cases e2
    have none : kidsFrom (L.map (·.2)) 0 R.length = [] := by
      refine kids_out _ _ _ fun b hb => ?_
      obtain ⟨x, hx, rfl⟩ := List.mem_map.mp hb
      rw [len]
      exact Lb x hx
    rw [none, if_neg (by rw [len]; omega)]
    exact new
end Fw

set_option maxRecDepth 100000
set_option maxHeartbeats 2000000
namespace Fw
open PySem PySem.Spec PyProof.Rows L2
def Draws (H : Hp) (d : Addr) : Prop := ∃ ds : List Int, H d = some (.lst (ds.map V.int))
theorem Draws.lst {H : Hp} {d : Addr} (h : Draws H d) : IsLst H d := by
  obtain ⟨ds, e⟩ := h
  exact ⟨_, e⟩
theorem fmod_in {a b : Int} (h : 0 < b) : 0 ≤ a.fmod b ∧ a.fmod b < b := by
  rw [Int.fmod_eq_emod_of_nonneg a (Int.le_of_lt h)]
  exact ⟨Int.emod_nonneg a (by omega), Int.emod_lt_of_pos a h⟩
theorem nz1 : (1000 : Int) ≠ 0 := by decide
theorem nz2 : (2147483647 : Int) ≠ 0 := by decide
theorem nz3 : (1000003 : Int) ≠ 0 := by decide
theorem sq_small {m : Int} (h0 : 0 ≤ m) (h1 : m < 2147483647) : -(2 ^ 64) < m ∧ m < 2 ^ 64 := ⟨by omega, by omega⟩
theorem isTup {K : PySem.W.Frag} {H : Hp} {a : Addr} {xs : List V} (h : SqT K H a xs) : TyX K H (.ref a) (.type "tuple") := by
  rcases h with h | ⟨o, _, _, e, c, _⟩
  · rcases h with h | ⟨u, h⟩
    · exact .base (.tup h)
    · exact .fTuple h
  · exact .kTuple e c
theorem IsF.ty {K : PySem.W.Frag} {H : Hp} {v : V} {t : F} (h : IsF K H v t) : TyX K H v (.type "tuple") := by
  obtain ⟨a, ks, rfl, sq, _⟩ := h.open
  exact isTup sq
section
variable {P : Program} {w : World} {K : PySem.W.Frag} {mg : Str → Option Value} {base : Heap} {C J B NC FE : Addr}
/-! ### the law's draws -/
def spDraws (K : PySem.W.Frag) : Sp := fun vs H Q _ => ∃ (a : Addr) (ns : List Int) (c : Int), vs = [.ref a, .int c] ∧ SqL K H a (ns.map V.int) ∧ ns.length ≤ 63 ∧ 0 ≤ c ∧ c ≤ 1000 ∧
  ∀ d H', Same H H' → H d = none → Draws H' d → Q (.ref d) H'
theorem ok_law_draws {f : Addr} {fd : FuncData} (FF : Fun K "_law_draws" "_law_draws" s_law_draws f fd) (T : Txt K mg C J B) : FnOk P w K mg base CX0 1 f fd a_law_draws (spDraws K) := by
  refine FF.ok sc_law_draws (fun vs H Q E h => ?_) (fun cdv A outer s H vs Q E hr h => ?_)
  · obtain ⟨a, ns, c, rfl, _⟩ := h
    rfl
  · obtain ⟨a, ns, c, rfl, hS, hlen, c0, c1, k⟩ := h
    refine ⟨_, (pss_cons (ps_set (i := 2) sc_law_draws.nd rfl (.inl rfl) (pe_callTy call_list_of rfl T.z_list (by decide +kernel) (pa_cons (pv 0) pa_nil)))
      (pss_cons (ps_if (pt_cmpR op_eq (pe_callB call_len_seq rfl T.z_len (by decide +kernel) (pa_cons (pv 2) pa_nil)) pe_int (nomark _)) (pss_one (ps_set (i := 2) sc_law_draws.nd rfl (.inl rfl) (pe_lst (pa_cons pe_int pa_nil)))) pss_nil)
      (pss_cons (ps_set (i := 3) sc_law_draws.nd rfl (.inl rfl) (pe_lst pa_nil))
      (pss_cons (ps_set (i := 4) sc_law_draws.nd rfl (.inl rfl) pe_int)
      (pss_cons (ps_for PassesOwn.never rfl (pi_range1 rfl T.z_range (pa_cons (pv 1) pa_nil)) (pg_name (i := 5) sc_law_draws.nd rfl (.inl rfl)) (pss_cons (ps_set (i := 6) sc_law_draws.nd rfl (.inl rfl) (pe_op op_modN (pv 5) (pe_callB call_len_seq rfl T.z_len (by decide +kernel) (pa_cons (pv 2) pa_nil))))
      (pss_cons (ps_set (i := 7) sc_law_draws.nd rfl (.inl rfl) (pe_ix ix_list (pv 2) (pv 6) (fun _ _ => rfl)))
      (pss_cons (ps_set (i := 4) sc_law_draws.nd rfl (.inl rfl) (pe_op op_modN (pe_callTy call_int1 rfl T.z_int (by decide +kernel) (pa_cons (pe_op op_add (pe_op op_add (pe_op op_add (pe_op op_mul (pv 4) pe_int) (pe_op op_mul (pe_op op_modN (pe_callTy call_int1 rfl T.z_int (by decide +kernel) (pa_cons (pv 7) pa_nil)) pe_int) pe_int)) (pe_op op_mul (pv 5) pe_int)) pe_int) pa_nil)) pe_int))
      (pss_cons (ps_set (i := 8) sc_law_draws.nd rfl (.inl rfl) (pe_op op_modN (pe_callTy call_int1 rfl T.z_int (by decide +kernel) (pa_cons (pe_op op_add (pe_op op_add (pe_op op_mul (pv 4) (pv 4)) (pe_op op_mul pe_int (pv 4))) (pv 5)) pa_nil)) pe_int))
      (pss_one (ps_if (pt_cmpR op_ge (pv 7) (pe_op op_pow pe_int pe_int) (nomark _)) (pss_cons (ps_expr (pe_bm PySem.F.plainAttrs_list PySem.F.slot_list_append PySem.F.type_list_append mt_append (pv 3) (pa_cons (pe_op op_modN (pe_callTy call_int1 rfl T.z_int (by decide +kernel) (pa_cons (pv 7) pa_nil)) pe_int) pa_nil)))
      (pss_one (ps_asg (pe_op op_fdivN (pv 7) pe_int) (pg_sub (pv 2) (pv 6) set_list)))) (pss_one (ps_expr (pe_bm PySem.F.plainAttrs_list PySem.F.slot_list_append PySem.F.type_list_append mt_append (pv 3) (pa_cons (pe_op op_modN (pe_callTy call_int1 rfl T.z_int (by decide +kernel) (pa_cons (pv 8) pa_nil)) pe_int) pa_nil)))))))))))
      (pss_cons (ps_expr (pe_bm0 PySem.F.plainAttrs_list PySem.F.slot_list_reverse PySem.F.type_list_reverse mt_reverse (pv 3)))
      (pss_one (ps_ret (pv 3))))))))), ?_⟩
    refine ⟨.ref a, rfl, a, _, rfl, .inl hS, fun ca hca => ?_⟩
    have s1 := Same.new (o := .lst (ns.map V.int)) hca
    refine ⟨.ref ca, rfl, ca, _, rfl, .inl (SqL.of upd_same), rfl, _, rfl, ?_⟩
    have fresh : H ca = none := hca
    have goal : ∀ (cb : Addr) (cs : List Int) (G0 : Hp), Same H G0 → H cb = none → G0 cb = some (.lst (cs.map V.int)) → cs ≠ [] → cs.length ≤ 63 → True := fun _ _ _ _ _ _ _ _ => trivial
    refine ite2 (fun c => ?_) (fun c => ?_)
    · refine ⟨by show 1 ≤ sizeLine; decide, fun cb hcb => ?_⟩
      have s2 := Same.new (o := .lst [V.int 7]) hcb
      have sG0 := s1.trans s2
      have hcb0 := s1.free hcb
      have gcb : (upd (upd H ca (.lst (ns.map V.int))) cb (.lst [V.int 7])) cb = some (.lst (([7] : List Int).map V.int)) := upd_same
      generalize upd (upd H ca (.lst (ns.map V.int))) cb (.lst [V.int 7]) = G0 at sG0 gcb
      have hne : ([7] : List Int) ≠ [] := by simp
      have hl63 : ([7] : List Int).length ≤ 63 := by decide
      generalize ([7] : List Int) = cs at gcb hne hl63
      clear s2 s1 hca fresh hcb c goal hlen hS
      refine ⟨Nat.zero_le _, fun fa hfa => ?_⟩
      have s3 := Same.new (o := .lst []) hfa
      have hfa0 := sG0.free hfa
      have fcb : fa ≠ cb := fun e => by rw [e, gcb] at hfa; cases hfa
      refine ⟨.int c, rfl, c, rfl, by omega, by omega, ?_⟩
      refine for_range (lo := 0) (n := c.toNat) (fun i σ G => ∃ (cs' ds : List Int) (m : Int) (y5 y6 y7 y8 : Option V), σ = [some (.ref a), some (.int c), some (.ref cb), some (.ref fa), some (.int m), y5, y6, y7, y8] ∧ Same H G ∧
          G cb = some (.lst (cs'.map V.int)) ∧ cs'.length = cs.length ∧ G fa = some (.lst (ds.map V.int)) ∧ ds.length = i ∧ 0 ≤ m ∧ m < 2147483647)
        ⟨cs, [], 12345, none, none, none, none, rfl, sG0.trans s3, s3 _ _ gcb, rfl, upd_same, rfl, by decide, by decide⟩ ?_ ?_
      · rintro i σ G hi ⟨cs', ds, m, y5, y6, y7, y8, rfl, sG, gc, lc, gf, ld, m0, m1⟩
        have hic : (i : Int) < c := by omega
        rw [Int.zero_add]
        have lpos : 0 < cs'.length := by rw [lc]; exact List.length_pos_iff.mpr hne
        have lmap : ((cs'.map V.int).length : Int) = (cs'.length : Int) := by rw [List.length_map]
        -- j = k % len(cells)
        refine ⟨.int (i : Nat), rfl, .ref cb, rfl, cb, _, rfl, .inl (SqL.of gc), _, _, rfl, rfl, by rw [lmap]; omega, ?_⟩
        rw [lmap]
        have hj := fmod_in (a := (i : Int)) (b := (cs'.length : Int)) (by omega)
        obtain ⟨j, hJ⟩ : ∃ j : Nat, (i : Int).fmod (cs'.length : Int) = (j : Int) := ⟨((i : Int).fmod (cs'.length : Int)).toNat, by omega⟩
        rw [hJ] at hj
        have hjl : j < cs'.length := by omega
        obtain ⟨x, hx⟩ : ∃ x, cs'[j]? = some x := ⟨cs'[j], by simp [hjl]⟩
        -- cell = cells[j]
        refine ⟨.ref cb, rfl, _, rfl, cb, _, _, .int x, rfl, rfl, SqL.of gc, by rw [hJ]; exact atI_nat (j := j) (by rw [List.getElem?_map, hx]; rfl), ?_⟩
        -- mixed
        have x3 := fmod_in (a := x) (b := 1000003) (by decide)
        refine ⟨.int m, rfl, m, 48271, rfl, rfl, .inl (sq_small m0 m1), .int x, rfl, .inl ⟨x, rfl, x, 1000003, rfl, rfl, nz3, x.fmod 1000003, 69621, rfl, rfl, .inl ⟨by omega, by omega⟩, _, _, rfl, rfl, .int (i : Nat), rfl, (i : Int), 7919, rfl, rfl, .inl ⟨by omega, by omega⟩, _, _, rfl, rfl, _, 11, rfl, rfl, .inl ⟨_, rfl, _, 2147483647, rfl, rfl, nz2, ?_⟩⟩⟩
        have mm := fmod_in (a := m * 48271 + x.fmod 1000003 * 69621 + (i : Int) * 7919 + 11) (b := 2147483647) (by decide)
        -- again
        refine ⟨_, rfl, _, rfl, _, _, rfl, rfl, .inl (sq_small mm.1 mm.2), _, rfl, 31, _, rfl, rfl, .inl ⟨by decide, by decide⟩, _, _, rfl, rfl, _, rfl, _, _, rfl, rfl, .inl ⟨_, rfl, _, 1000003, rfl, rfl, nz3, ?_⟩⟩
        -- if cell >= 10 ** 18
        refine ⟨.int x, rfl, 10, 18, rfl, rfl, ⟨by decide, by decide, by decide⟩, _, _, rfl, rfl, _, rfl, ite2 (fun _ => ?_) (fun _ => ?_)⟩
        · refine ⟨.ref fa, rfl, .inl ⟨rfl, _, SqL.of gf⟩, .int x, rfl, .inl ⟨x, rfl, x, 1000, rfl, rfl, nz1, fa, _, _, rfl, rfl, gf, by rw [List.length_map]; exact small1000 (by omega), ?_⟩⟩
          have gc2 : (upd G fa (.lst (ds.map V.int ++ [V.int (x.fmod 1000)]))) cb = some (.lst (cs'.map V.int)) := by rw [upd_ne fcb.symm]; exact gc
          refine ⟨.int x, rfl, x, 1000, rfl, rfl, ⟨by decide, by decide⟩, .ref cb, rfl, _, rfl, cb, _, _, j, rfl, rfl, gc2, by rw [hJ]; unfold ixN; rw [if_pos (by omega), if_pos (by rw [List.length_map]; omega), Int.toNat_natCast], ?_⟩
          refine ⟨cs'.set j (x.fdiv 1000), ds ++ [x.fmod 1000], _, _, _, _, _, rfl, fun b o e => ?_, ?_, by rw [List.length_set]; exact lc, ?_, by rw [List.length_append, ld]; rfl, mm.1, mm.2⟩
          · rw [upd_ne (ne_of_none e hcb0), upd_ne (ne_of_none e hfa0)]
            exact sG b o e
          · rw [upd_same, List.map_set]
          · rw [upd_ne fcb, upd_same, List.map_append]
            rfl
        · refine ⟨.ref fa, rfl, .inl ⟨rfl, _, SqL.of gf⟩, _, rfl, .inl ⟨_, rfl, _, 1000, rfl, rfl, nz1, fa, _, _, rfl, rfl, gf, by rw [List.length_map]; exact small1000 (by omega), ?_⟩⟩
          obtain ⟨ag, hag⟩ : ∃ ag : Int, ag = (((m * 48271 + x.fmod 1000003 * 69621 + (i : Int) * 7919 + 11).fmod 2147483647 * (m * 48271 + x.fmod 1000003 * 69621 + (i : Int) * 7919 + 11).fmod 2147483647 + 31 * (m * 48271 + x.fmod 1000003 * 69621 + (i : Int) * 7919 + 11).fmod 2147483647 + (i : Int)).fmod 1000003).fmod 1000 := ⟨_, rfl⟩
          refine ⟨cs', ds ++ [ag], _, _, _, _, _, rfl, fun b o e => ?_, ?_, lc, ?_, by rw [List.length_append, ld]; rfl, mm.1, mm.2⟩
          · rw [upd_ne (ne_of_none e hfa0)]
            exact sG b o e
          · rw [upd_ne fcb.symm]
            exact gc
          · rw [upd_same, List.map_append, hag]
            rfl
      · rintro σ G ⟨cs', ds, m, y5, y6, y7, y8, rfl, sG, gc, lc, gf, ld, m0, m1⟩
        refine ⟨.ref fa, rfl, .inl ⟨rfl, _, SqL.of gf⟩, fa, _, rfl, rfl, gf, .ref fa, rfl, ?_⟩
        refine k fa _ (fun b o e => ?_) hfa0 ⟨ds.reverse, by rw [upd_same, List.map_reverse]⟩
        rw [upd_ne (ne_of_none e hfa0)]
        exact sG b o e
    · have hne : ns ≠ [] := fun e => c (decide_eq_true (by rw [e]; rfl))
      have sG0 := s1
      have hcb0 := fresh
      have gcb : (upd H ca (.lst (ns.map V.int))) ca = some (.lst (ns.map V.int)) := upd_same
      generalize upd H ca (.lst (ns.map V.int)) = G0 at sG0 gcb
      have hl63 := hlen
      clear s1 hca fresh c goal hlen hS
      obtain ⟨cb, ecb⟩ : ∃ cb : Addr, cb = ca := ⟨_, rfl⟩
      obtain ⟨cs, ecs⟩ : ∃ cs : List Int, cs = ns := ⟨_, rfl⟩
      subst ecb
      subst ecs
      refine ⟨Nat.zero_le _, fun fa hfa => ?_⟩
      have s3 := Same.new (o := .lst []) hfa
      have hfa0 := sG0.free hfa
      have fcb : fa ≠ cb := fun e => by rw [e, gcb] at hfa; cases hfa
      refine ⟨.int c, rfl, c, rfl, by omega, by omega, ?_⟩
      refine for_range (lo := 0) (n := c.toNat) (fun i σ G => ∃ (cs' ds : List Int) (m : Int) (y5 y6 y7 y8 : Option V), σ = [some (.ref a), some (.int c), some (.ref cb), some (.ref fa), some (.int m), y5, y6, y7, y8] ∧ Same H G ∧
          G cb = some (.lst (cs'.map V.int)) ∧ cs'.length = cs.length ∧ G fa = some (.lst (ds.map V.int)) ∧ ds.length = i ∧ 0 ≤ m ∧ m < 2147483647)
        ⟨cs, [], 12345, none, none, none, none, rfl, sG0.trans s3, s3 _ _ gcb, rfl, upd_same, rfl, by decide, by decide⟩ ?_ ?_
      · rintro i σ G hi ⟨cs', ds, m, y5, y6, y7, y8, rfl, sG, gc, lc, gf, ld, m0, m1⟩
        have hic : (i : Int) < c := by omega
        rw [Int.zero_add]
        have lpos : 0 < cs'.length := by rw [lc]; exact List.length_pos_iff.mpr hne
        have lmap : ((cs'.map V.int).length : Int) = (cs'.length : Int) := by rw [List.length_map]
        -- j = k % len(cells)
        refine ⟨.int (i : Nat), rfl, .ref cb, rfl, cb, _, rfl, .inl (SqL.of gc), _, _, rfl, rfl, by rw [lmap]; omega, ?_⟩
        rw [lmap]
        have hj := fmod_in (a := (i : Int)) (b := (cs'.length : Int)) (by omega)
        obtain ⟨j, hJ⟩ : ∃ j : Nat, (i : Int).fmod (cs'.length : Int) = (j : Int) := ⟨((i : Int).fmod (cs'.length : Int)).toNat, by omega⟩
        rw [hJ] at hj
        have hjl : j < cs'.length := by omega
        obtain ⟨x, hx⟩ : ∃ x, cs'[j]? = some x := ⟨cs'[j], by simp [hjl]⟩
        -- cell = cells[j]
        refine ⟨.ref cb, rfl, _, rfl, cb, _, _, .int x, rfl, rfl, SqL.of gc, by rw [hJ]; exact atI_nat (j := j) (by rw [List.getElem?_map, hx]; rfl), ?_⟩
        -- mixed
        have x3 := fmod_in (a := x) (b := 1000003) (by decide)
        refine ⟨.int m, rfl, m, 48271, rfl, rfl, .inl (sq_small m0 m1), .int x, rfl, .inl ⟨x, rfl, x, 1000003, rfl, rfl, nz3, x.fmod 1000003, 69621, rfl, rfl, .inl ⟨by omega, by omega⟩, _, _, rfl, rfl, .int (i : Nat), rfl, (i : Int), 7919, rfl, rfl, .inl ⟨by omega, by omega⟩, _, _, rfl, rfl, _, 11, rfl, rfl, .inl ⟨_, rfl, _, 2147483647, rfl, rfl, nz2, ?_⟩⟩⟩
        have mm := fmod_in (a := m * 48271 + x.fmod 1000003 * 69621 + (i : Int) * 7919 + 11) (b := 2147483647) (by decide)
        -- again
        refine ⟨_, rfl, _, rfl, _, _, rfl, rfl, .inl (sq_small mm.1 mm.2), _, rfl, 31, _, rfl, rfl, .inl ⟨by decide, by decide⟩, _, _, rfl, rfl, _, rfl, _, _, rfl, rfl, .inl ⟨_, rfl, _, 1000003, rfl, rfl, nz3, ?_⟩⟩
        -- if cell >= 10 ** 18
        refine ⟨.int x, rfl, 10, 18, rfl, rfl, ⟨by decide, by decide, by decide⟩, _, _, rfl, rfl, _, rfl, ite2 (fun _ => ?_) (fun _ => ?_)⟩
        · refine ⟨.ref fa, rfl, .inl ⟨rfl, _, SqL.of gf⟩, .int x, rfl, .inl ⟨x, rfl, x, 1000, rfl, rfl, nz1, fa, _, _, rfl, rfl, gf, by rw [List.length_map]; exact small1000 (by omega), ?_⟩⟩
          have gc2 : (upd G fa (.lst (ds.map V.int ++ [V.int (x.fmod 1000)]))) cb = some (.lst (cs'.map V.int)) := by rw [upd_ne fcb.symm]; exact gc
          refine ⟨.int x, rfl, x, 1000, rfl, rfl, ⟨by decide, by decide⟩, .ref cb, rfl, _, rfl, cb, _, _, j, rfl, rfl, gc2, by rw [hJ]; unfold ixN; rw [if_pos (by omega), if_pos (by rw [List.length_map]; omega), Int.toNat_natCast], ?_⟩
          refine ⟨cs'.set j (x.fdiv 1000), ds ++ [x.fmod 1000], _, _, _, _, _, rfl, fun b o e => ?_, ?_, by rw [List.length_set]; exact lc, ?_, by rw [List.length_append, ld]; rfl, mm.1, mm.2⟩
          · rw [upd_ne (ne_of_none e hcb0), upd_ne (ne_of_none e hfa0)]
            exact sG b o e
          · rw [upd_same, List.map_set]
          · rw [upd_ne fcb, upd_same, List.map_append]
            rfl
        · refine ⟨.ref fa, rfl, .inl ⟨rfl, _, SqL.of gf⟩, _, rfl, .inl ⟨_, rfl, _, 1000, rfl, rfl, nz1, fa, _, _, rfl, rfl, gf, by rw [List.length_map]; exact small1000 (by omega), ?_⟩⟩
          obtain ⟨ag, hag⟩ : ∃ ag : Int, ag = (((m * 48271 + x.fmod 1000003 * 69621 + (i : Int) * 7919 + 11).fmod 2147483647 * (m * 48271 + x.fmod 1000003 * 69621 + (i : Int) * 7919 + 11).fmod 2147483647 + 31 * (m * 48271 + x.fmod 1000003 * 69621 + (i : Int) * 7919 + 11).fmod 2147483647 + (i : Int)).fmod 1000003).fmod 1000 := ⟨_, rfl⟩
          refine ⟨cs', ds ++ [ag], _, _, _, _, _, rfl, fun b o e => ?_, ?_, lc, ?_, by rw [List.length_append, ld]; rfl, mm.1, mm.2⟩
          · rw [upd_ne (ne_of_none e hfa0)]
            exact sG b o e
          · rw [upd_ne fcb.symm]
            exact gc
          · rw [upd_same, List.map_append, hag]
            rfl
      · rintro σ G ⟨cs', ds, m, y5, y6, y7, y8, rfl, sG, gc, lc, gf, ld, m0, m1⟩
        refine ⟨.ref fa, rfl, .inl ⟨rfl, _, SqL.of gf⟩, fa, _, rfl, rfl, gf, .ref fa, rfl, ?_⟩
        refine k fa _ (fun b o e => ?_) hfa0 ⟨ds.reverse, by rw [upd_same, List.map_reverse]⟩
        rw [upd_ne (ne_of_none e hfa0)]
        exact sG b o e
/-! ### one draw -/
def spTake : Sp := fun vs H Q _ => ∃ (d : Addr) (lim : Int), vs = [.ref d, .int lim] ∧ Draws H d ∧ 0 < lim ∧ ∀ v H', 0 ≤ v → v < lim → But d H H' → Draws H' d → Q (.int v) H'
theorem ok_law_take {f : Addr} {fd : FuncData} (FF : Fun K "_law_take" "_law_take" s_law_take f fd) (T : Txt K mg C J B) : FnOk P w K mg base CX0 1 f fd a_law_take spTake := by
  refine FF.ok sc_law_take (fun vs H Q E h => ?_) (fun cdv A outer s H vs Q E hr h => ?_)
  · obtain ⟨d, lim, rfl, _⟩ := h
    rfl
  · obtain ⟨d, lim, rfl, ⟨ds, hd⟩, hl, k⟩ := h
    refine ⟨_, (pss_cons (ps_if (pt_cmpR op_eq (pe_callB call_len_seq rfl T.z_len (by decide +kernel) (pa_cons (pv 0) pa_nil)) pe_int (nomark _)) (pss_one (ps_ret pe_int)) pss_nil)
      (pss_one (ps_ret (pe_op op_modN (pe_callTy call_int1 rfl T.z_int (by decide +kernel) (pa_cons (pe_bm0 PySem.F.plainAttrs_list PySem.F.slot_list_pop PySem.F.type_list_pop mt_pop (pv 0)) pa_nil)) (pv 1))))), ?_⟩
    refine ⟨.ref d, rfl, d, _, rfl, .inl (SqL.of hd), rfl, _, rfl, ite2 (fun c => ?_) (fun c => ?_)⟩
    · exact k 0 H (Int.le_refl 0) hl (But.refl _ _) ⟨ds, hd⟩
    · have ne : ds ≠ [] := fun e => c (decide_eq_true (by rw [e]; rfl))
      obtain ⟨l, x, rfl⟩ : ∃ l x, ds = l ++ [x] := ⟨ds.dropLast, ds.getLast ne, (List.dropLast_concat_getLast ne).symm⟩
      refine ⟨.ref d, rfl, .inl ⟨rfl, _, SqL.of hd⟩, d, _, .int x, rfl, rfl, hd, by simp, .inl ⟨x, rfl, ?_⟩⟩
      have := fmod_in (a := x) hl
      refine ⟨.int lim, rfl, x, lim, rfl, rfl, by omega, ?_⟩
      refine k _ _ this.1 this.2 (fun b o nb e => by rw [upd_ne nb]; exact e) ⟨l, ?_⟩
      rw [upd_same]
      simp
/-! ### the statements in one -/
def spInner (K : PySem.W.Frag) : Sp := fun vs H Q _ => ∃ (v : V) (t : F), vs = [v] ∧ IsF K H v t ∧ ∀ l ks H', Same H H' → H' l = some (.lst ks) → AllF K H' ks t.kids → Q (.ref l) H'
theorem cut_one (xs : List V) : cutV xs (some 1) none = xs.drop 1 := by
  unfold cutV
  rw [show HT.sIx xs.length 0 (some 1) = min 1 xs.length from HT.sIx_nat _ _ 1, HT.sIx_none]
  rcases Nat.le_total 1 xs.length with h | h
  · rw [Nat.min_eq_left h, List.take_of_length_le (by rw [List.length_drop]; exact Nat.le_refl _)]
  · rw [Nat.min_eq_right h, List.drop_length, List.drop_eq_nil_of_le h]
    simp
end
end Fw

set_option maxRecDepth 100000
set_option maxHeartbeats 2000000
namespace Fw
open PySem PySem.Spec PyProof.Rows L2
theorem iteF_out {A B : Prop} (h : if false = true then A else B) : B := by
  rw [if_neg Bool.false_ne_true] at h
  exact h
theorem iteT_out {A B : Prop} (h : if true = true then A else B) : A := by
  rw [if_pos rfl] at h
  exact h
theorem Draws.but {d : Addr} {H H' : Hp} (s : ∀ o, H d = some o → H' d = some o) (h : Draws H d) : Draws H' d := by
  obtain ⟨ds, e⟩ := h
  exact ⟨ds, s _ e⟩
theorem Draws.same {d : Addr} {H H' : Hp} (s : Same H H') (h : Draws H d) : Draws H' d := h.but fun o e => s d o e
theorem SqL.but {K : PySem.W.Frag} {H H' : Hp} {a d : Addr} {xs : List V} (n : a ≠ d) (s : But d H H') (h : SqL K H a xs) : SqL K H' a xs := SqL.keepAt (fun o e => s a o n e) h
theorem Draws.ne {H : Hp} {d q : Addr} (h : Draws H d) (hq : H q = none) : q ≠ d := fun e => by
  obtain ⟨ds, z⟩ := h
  rw [← e, hq] at z
  cases z
def ofB (b : Bool) : Int := if b = true then 1 else 0
abbrev IL (H : Hp) (a : Addr) (xs : List Int) : Prop := H a = some (.lst (xs.map V.int))
end Fw

set_option maxRecDepth 100000
set_option maxHeartbeats 4000000
namespace Fw
open PySem PySem.Spec PyProof.Rows L2
theorem isB_hdJ (s : F) : isBH s.hd = isB s := by cases s <;> rfl
theorem nv_N : ∀ b : Bool, V.str (wN b) ≠ V.str "var"
  | true => by decide +kernel
  | false => by decide +kernel
theorem nv_T : ∀ b : Bool, V.str (wT b) ≠ V.str "var"
  | true => by decide +kernel
  | false => by decide +kernel
theorem nv_O : ∀ k : One, V.str (wO k) ≠ V.str "var"
  | .some => by decide +kernel
  | .all => by decide +kernel
  | .least => by decide +kernel
  | .most => by decide +kernel
theorem nv_has : V.str (wL .has) ≠ V.str "var" := by decide +kernel
theorem nv_lacks : V.str (wL .lacks) ≠ V.str "var" := by decide +kernel
theorem two_at {α : Type} {x y : α} {v : Int} (h0 : 0 ≤ v) (h2 : v < 2) : ∃ b : Bool, atI [x, y] v = some (if b = true then x else y) := by
  have : v = 0 ∨ v = 1 := by omega
  rcases this with rfl | rfl
  · exact ⟨true, rfl⟩
  · exact ⟨false, rfl⟩
theorem in_ints (x : Int) : ∀ bs : List Int, inV (.int x) (bs.map V.int) = decide (x ∈ bs)
  | [] => by simp [inV]
  | b :: bs => by
    have ih := in_ints x bs
    unfold inV at ih ⊢
    rw [List.map_cons, List.any_cons, ih]
    have e : eqV (V.int b) (V.int x) = decide (x = b) := by
      show _ = _
      by_cases c : x = b
      · subst c
        simp [eqV]
      · simp [eqV, c]
        exact fun q => c q.symm
    rw [e]
    simp
theorem flat_ints (bs : List Int) : (bs.map V.int).all flatV = true := by
  induction bs with
  | nil => rfl
  | cons b bs ih => simpa [flatV] using ih
theorem kid_small {t f : F} (h : f ∈ t.kids) : f.depth + 1 ≤ t.depth ∧ f.size + 1 ≤ t.size := by
  cases t with
  | nul b => cases h
  | leaf k n => cases h
  | two b x y =>
    simp only [F.kids, List.mem_cons, List.not_mem_nil, or_false] at h
    simp only [F.depth, F.size]
    rcases h with rfl | rfl <;> omega
  | one k n x =>
    simp only [F.kids, List.mem_cons, List.not_mem_nil, or_false] at h
    subst h
    simp [F.depth, F.size]
section
variable {P : Program} {w : World} {K : PySem.W.Frag} {mg : Str → Option Value} {base : Heap} {C J B NC FE : Addr}
theorem noneOk {f : Addr} {fd : FuncData} {k : Nat} {ps : List Str} : FnOk P w K mg base CX0 k f fd ps (fun _ _ _ _ => False) :=
  ⟨fun _ _ _ _ h => h.elim, fun _ _ _ _ _ _ _ _ _ _ _ _ _ h => h.elim⟩
end
end Fw

set_option maxRecDepth 100000
set_option maxHeartbeats 4000000
namespace Fw
open PySem PySem.Spec PyProof.Rows L2
/-! ### statements as data -/
def dV : V → PyData
  | .str z => .str z
  | .int i => .int i
  | _ => .none
def dF : F → PyData
  | .nul b => .tuple ((hv (.nul b)).map dV)
  | .leaf k n => .tuple ((hv (.leaf k n)).map dV)
  | .two b f g => .tuple ((hv (.two b)).map dV ++ [dF f, dF g])
  | .one k n f => .tuple ((hv (.one k n)).map dV ++ [dF f])
theorem dp_F {K : PySem.W.Frag} {H : Hp} {v : V} {t : F} (h : IsF K H v t) : Dp K H v (dF t) := by
  induction h with
  | nul h => exact .tup h (.cons (.str _) .nil)
  | leaf h => exact .tup h (.cons (.str _) (.cons (.int _) .nil))
  | two h _ _ f g => exact .tup h (.cons (.str _) (.cons f (.cons g .nil)))
  | one h _ f => exact .tup h (.cons (.str _) (.cons (.int _) (.cons f .nil)))
theorem ok_hw (h : Hd) : PyData.strOk (hw h) = true := by
  cases h with
  | nul b => cases b <;> decide +kernel
  | leaf k n =>
    show PyData.strOk (wL k) = true
    cases k <;> decide +kernel
  | two b => cases b <;> decide +kernel
  | one k n =>
    show PyData.strOk (wO k) = true
    cases k <;> decide +kernel
theorem dF_lay : ∀ t : F, (dF t).canLay0 = true
  | .nul b => by
    have := ok_hw (.nul b)
    simp only [hw] at this
    simp [dF, hv, dV, PyData.canLay0, PyData.canLayAll0, this]
  | .leaf k n => by
    have := ok_hw (.leaf k n)
    simp only [hw] at this
    simp [dF, hv, dV, PyData.canLay0, PyData.canLayAll0, this]
  | .two b f g => by
    have := ok_hw (.two b)
    simp only [hw] at this
    simp [dF, hv, dV, PyData.canLay0, PyData.canLayAll0, this, dF_lay f, dF_lay g]
  | .one k n f => by
    have := ok_hw (.one k n)
    simp only [hw] at this
    simp [dF, hv, dV, PyData.canLay0, PyData.canLayAll0, this, dF_lay f]
theorem dF_depth : ∀ t : F, (dF t).depth ≤ t.depth
  | .nul b => by simp [dF, hv, dV, PyData.depth, PyData.depthAll, F.depth]
  | .leaf k n => by simp [dF, hv, dV, PyData.depth, PyData.depthAll, F.depth]
  | .two b f g => by
    have := dF_depth f
    have := dF_depth g
    simp [dF, hv, dV, PyData.depth, PyData.depthAll, F.depth]
    omega
  | .one k n f => by
    have := dF_depth f
    simp [dF, hv, dV, PyData.depth, PyData.depthAll, F.depth]
    omega
theorem dF_shaped {t : F} (h : t.depth ≤ 64) : SeqAt.shaped (dF t) = true := by
  unfold SeqAt.shaped
  rw [dF_lay, decide_eq_true (Nat.le_trans (dF_depth t) h)]
  rfl
theorem dF_same (t : F) : PyData.eqv (dF t) (dF t) = true := SeqAt.eqv_refl _ (dF_lay t)
theorem dp_ints {K : PySem.W.Frag} {H : Hp} : ∀ ns : List Int, DpAll K H (ns.map V.int) (ns.map PyData.int)
  | [] => .nil
  | n :: ns => .cons (.int n) (dp_ints ns)
theorem ints_lay : ∀ ns : List Int, PyData.canLayAll0 (ns.map PyData.int) = true
  | [] => by simp [PyData.canLayAll0]
  | n :: ns => by simp [PyData.canLayAll0, PyData.canLay0, ints_lay ns]
theorem ints_depth : ∀ ns : List Int, PyData.depthAll (ns.map PyData.int) = 0
  | [] => by simp [PyData.depthAll]
  | n :: ns => by simp [PyData.depthAll, PyData.depth, ints_depth ns]
theorem ints_shaped (ns : List Int) : SeqAt.shaped (.list (ns.map PyData.int)) = true := by
  unfold SeqAt.shaped
  simp [PyData.canLay0, PyData.depth, ints_lay, ints_depth]
theorem ints_same (ns : List Int) : PyData.eqv (.list (ns.map PyData.int)) (.list (ns.map PyData.int)) = true := SeqAt.eqv_refl _ (by simp [PyData.canLay0, ints_lay])
/-- two rising lists of the same members are one -/
theorem rising_one : ∀ {a b : List Int}, a.Pairwise (· < ·) → b.Pairwise (· < ·) → (∀ x, x ∈ a ↔ x ∈ b) → a = b
  | [], [], _, _, _ => rfl
  | [], y :: b, _, _, h => by have := (h y).mpr List.mem_cons_self; cases this
  | x :: a, [], _, _, h => by have := (h x).mp List.mem_cons_self; cases this
  | x :: a, y :: b, ha, hb, h => by
    have ha' := List.pairwise_cons.mp ha
    have hb' := List.pairwise_cons.mp hb
    have e : x = y := by
      rcases List.mem_cons.mp ((h x).mp List.mem_cons_self) with q | q
      · exact q
      · rcases List.mem_cons.mp ((h y).mpr List.mem_cons_self) with r | r
        · exact r.symm
        · have := ha'.1 y r
          have := hb'.1 x q
          omega
    subst e
    congr 1
    refine rising_one ha'.2 hb'.2 fun z => ?_
    constructor
    · intro hz
      rcases List.mem_cons.mp ((h z).mp (List.mem_cons_of_mem _ hz)) with q | q
      · have := ha'.1 z hz
        omega
      · exact q
    · intro hz
      rcases List.mem_cons.mp ((h z).mpr (List.mem_cons_of_mem _ hz)) with q | q
      · have := hb'.1 z hz
        omega
      · exact q
def isOneH : Hd → Bool
  | .one _ _ => true
  | _ => false
theorem in_four (h : Hd) : inV (.str (hw h)) [.str "least", .str "most", .str "some", .str "all"] = isOneH h := by
  cases h with
  | nul b => cases b <;> rfl
  | leaf k n => cases k <;> rfl
  | two b => cases b <;> rfl
  | one k n => cases k <;> rfl
section
variable {P : Program} {w : World} {K : PySem.W.Frag} {mg : Str → Option Value} {base : Heap} {C J B NC FE : Addr}
end
end Fw

namespace Fw
/-! ### opposites -/
def Leaf.opp : Leaf → Leaf
  | .has => .lacks
  | .lacks => .has
  | .var => .var
def One.opp : One → One
  | .some => .all
  | .all => .some
  | .least => .most
  | .most => .least
def opp : F → F
  | .nul b => .nul !b
  | .leaf k n => .leaf k.opp n
  | .two b f g => .two (!b) (opp f) (opp g)
  | .one k n f => .one k.opp n (opp f)
def oppH : Hd → Hd
  | .nul b => .nul !b
  | .leaf k n => .leaf k.opp n
  | .two b => .two !b
  | .one k n => .one k.opp n
theorem opp_hd (t : F) : (opp t).hd = oppH t.hd := by cases t <;> rfl
theorem opp_skel : ∀ t : F, skel (opp t) = skel t
  | .nul _ => rfl
  | .leaf _ _ => rfl
  | .two _ f g => by simp [opp, skel, opp_skel f, opp_skel g]
  | .one _ _ f => by simp [opp, skel, opp_skel f]
theorem opp_size (t : F) : (opp t).size = t.size := same_size (opp_skel t)
theorem opp_depth (t : F) : (opp t).depth = t.depth := by rw [← skel_depth, opp_skel, skel_depth]
theorem opp_opp : ∀ t : F, opp (opp t) = t
  | .nul b => by simp [opp]
  | .leaf k n => by cases k <;> rfl
  | .two b f g => by simp [opp, opp_opp f, opp_opp g]
  | .one k n f => by cases k <;> simp [opp, One.opp, opp_opp f]
theorem bind_opp (k : One) : k.opp.bind = k.bind := by cases k <;> rfl
theorem opp_fv : ∀ t : F, fv (opp t) = fv t
  | .nul _ => rfl
  | .leaf k n => by cases k <;> rfl
  | .two b f g => by simp [opp, fv, opp_fv f, opp_fv g]
  | .one k n f => by simp only [opp, fv, bind_opp, opp_fv f]
theorem opp_closed {t : F} (h : Closed t) : Closed (opp t) := by
  rw [← closed_fv] at h ⊢
  rw [opp_fv, h]
theorem opp_heads : ∀ (t : F) (a : Int) (i : Nat) (st st' : Stk), ((info (opp t) a i st').map fun r => r.sub.hd) = (info t a i st).map fun r => oppH r.sub.hd
  | .nul _, _, _, _, _ => rfl
  | .leaf _ _, _, _, _, _ => rfl
  | .two b f g, a, i, st, st' => by
    simp only [opp, info, List.map_cons, List.map_append, opp_heads f i (i + 1) st st', opp_size, opp_heads g i (i + 1 + f.size) st st']
    rfl
  | .one k n f, a, i, st, st' => by
    simp only [opp, info, List.map_cons, opp_heads f i (i + 1) (if k.bind = true then (n, i) :: st else st)]
    rfl
end Fw

/-! Worlds as the laws draw them, and what is true in them: pure mathematics. -/
namespace Fw
structure Wd where
  facts : List (List Int)
  steps : List (Int × Int × Int)
def Wd.n (W : Wd) : Nat := W.facts.length
def rng (n : Nat) : List Int := (List.range n).map Int.ofNat
theorem rng_get {n i : Nat} (h : i < n) : (rng n)[i]? = some (i : Int) := by
  unfold rng
  rw [List.getElem?_map, List.getElem?_range h]
  rfl
theorem rng_len (n : Nat) : (rng n).length = n := by unfold rng; rw [List.length_map, List.length_range]
theorem rng_mem {n : Nat} {x : Int} : x ∈ rng n ↔ 0 ≤ x ∧ x < n := by
  unfold rng
  rw [List.mem_map]
  constructor
  · rintro ⟨a, h, rfl⟩
    have := List.mem_range.mp h
    exact ⟨Int.natCast_nonneg a, Int.ofNat_lt.mpr this⟩
  · rintro ⟨h1, h2⟩
    exact ⟨x.toNat, List.mem_range.mpr (by omega), Int.toNat_of_nonneg h1⟩
theorem rng_succ (n : Nat) : rng (n + 1) = rng n ++ [(n : Int)] := by
  unfold rng
  rw [List.range_succ, List.map_append]
  rfl
theorem rng_take {n i : Nat} (h : i ≤ n) : (rng n).take i = rng i := by
  unfold rng
  rw [← List.map_take, List.take_range, Nat.min_eq_left h]
/-- the facts of a state -/
def Wd.at (W : Wd) (s : Int) : List Int := (W.facts[s.toNat]?).getD []
def Wd.beh (W : Wd) (s l : Int) : List Int := (W.steps.filter fun p => decide (p.1 = s) && decide (p.2.1 = l)).map fun p => p.2.2
/-- each step leads to a state -/
def Wd.Good (W : Wd) : Prop := ∀ p ∈ W.steps, 0 ≤ p.2.2 ∧ p.2.2 < W.n
def sIn (X : List Int) (s : Int) : Bool := decide (s ∈ X)
def flt (n : Nat) (p : Int → Bool) : List Int := (rng n).filter p
def setE (e : Int → List Int) (x : Int) (X : List Int) : Int → List Int := fun y => if y = x then X else e y
def iter (f : List Int → List Int) : Nat → List Int → List Int
  | 0, X => X
  | k + 1, X => f (iter f k X)
def val (W : Wd) : F → (Int → List Int) → List Int
  | .nul b, _ => if b = true then rng W.n else []
  | .leaf .has n, _ => flt W.n fun s => sIn (W.at s) n
  | .leaf .lacks n, _ => flt W.n fun s => !sIn (W.at s) n
  | .leaf .var x, e => e x
  | .two b f g, e => if b = true then flt W.n (fun s => sIn (val W g e) s && sIn (val W f e) s) else flt W.n (fun s => sIn (val W g e) s || sIn (val W f e) s)
  | .one .some l f, e => flt W.n fun s => decide (0 < (((W.beh s l).filter (sIn (val W f e))).length : Int))
  | .one .all l f, e => flt W.n fun s => decide ((((W.beh s l).filter (fun k => !sIn (val W f e) k)).length : Int) = 0)
  | .one .least x f, e => iter (fun X => val W f (setE e x X)) (W.n + 1) []
  | .one .most x f, e => iter (fun X => val W f (setE e x X)) (W.n + 1) (rng W.n)
/-- the others -/
def co (n : Nat) (X : List Int) : List Int := flt n fun s => !sIn X s
theorem flt_congr {n : Nat} {p q : Int → Bool} (h : ∀ s : Int, 0 ≤ s → s < (n : Int) → p s = q s) : flt n p = flt n q :=
  List.filter_congr fun s hs => h s (rng_mem.mp hs).1 (rng_mem.mp hs).2
theorem sIn_flt {n : Nat} {p : Int → Bool} {s : Int} (h0 : 0 ≤ s) (h1 : s < (n : Int)) : sIn (flt n p) s = p s := by
  unfold sIn flt
  cases e : p s with
  | true => exact decide_eq_true (List.mem_filter.mpr ⟨rng_mem.mpr ⟨h0, h1⟩, e⟩)
  | false => exact decide_eq_false fun h => by rw [(List.mem_filter.mp h).2] at e; cases e
theorem co_flt {n : Nat} {p : Int → Bool} : co n (flt n p) = flt n fun s => !p s := flt_congr fun s h0 h1 => by rw [sIn_flt h0 h1]
theorem sIn_co {n : Nat} {X : List Int} {s : Int} (h0 : 0 ≤ s) (h1 : s < (n : Int)) : sIn (co n X) s = !sIn X s := sIn_flt h0 h1
theorem rng_flt (n : Nat) : rng n = flt n fun _ => true := (List.filter_eq_self.mpr fun _ _ => rfl).symm
theorem co_rng (n : Nat) : co n (rng n) = [] := by
  rw [rng_flt, co_flt]
  exact List.filter_eq_nil_iff.mpr fun _ _ h => by cases h
theorem co_nil (n : Nat) : co n [] = rng n := by
  unfold co
  rw [rng_flt]
  exact flt_congr fun s _ _ => rfl
theorem setE_co {n : Nat} {e : Int → List Int} {x : Int} {X : List Int} : setE (fun y => co n (e y)) x (co n X) = fun y => co n (setE e x X y) := by
  funext y
  unfold setE
  by_cases h : y = x
  · rw [if_pos h, if_pos h]
  · rw [if_neg h, if_neg h]
theorem iter_co {n : Nat} {f g : List Int → List Int} (h : ∀ X, g (co n X) = co n (f X)) : ∀ (k : Nat) (X : List Int), iter g k (co n X) = co n (iter f k X)
  | 0, X => rfl
  | k + 1, X => by
    show g (iter g k (co n X)) = co n (f (iter f k X))
    rw [iter_co h k X, h]
theorem val_opp {W : Wd} (G : W.Good) : ∀ (t : F) (e : Int → List Int), val W (opp t) (fun y => co W.n (e y)) = co W.n (val W t e)
  | .nul b, e => by
    cases b
    · show (if true = true then rng W.n else []) = co W.n (if false = true then rng W.n else [])
      rw [if_pos rfl, if_neg Bool.false_ne_true, co_nil]
    · show (if false = true then rng W.n else []) = co W.n (if true = true then rng W.n else [])
      rw [if_pos rfl, if_neg Bool.false_ne_true, co_rng]
  | .leaf .has n, e => by
    show flt W.n _ = co W.n (flt W.n _)
    rw [co_flt]
  | .leaf .lacks n, e => by
    show flt W.n _ = co W.n (flt W.n _)
    rw [co_flt]
    exact flt_congr fun s _ _ => (Bool.not_not _).symm
  | .leaf .var x, e => rfl
  | .two b f g, e => by
    cases b
    · show (if true = true then _ else _) = co W.n (if false = true then _ else _)
      rw [if_pos rfl, if_neg Bool.false_ne_true, co_flt, val_opp G f e, val_opp G g e]
      exact flt_congr fun s h0 h1 => by rw [sIn_co h0 h1, sIn_co h0 h1, Bool.not_or]
    · show (if false = true then _ else _) = co W.n (if true = true then _ else _)
      rw [if_pos rfl, if_neg Bool.false_ne_true, co_flt, val_opp G f e, val_opp G g e]
      exact flt_congr fun s h0 h1 => by rw [sIn_co h0 h1, sIn_co h0 h1, Bool.not_and]
  | .one .some l f, e => by
    show flt W.n _ = co W.n (flt W.n _)
    rw [co_flt, val_opp G f e]
    refine flt_congr fun s h0 h1 => ?_
    have : (W.beh s l).filter (fun k => !sIn (co W.n (val W f e)) k) = (W.beh s l).filter (sIn (val W f e)) := by
      refine List.filter_congr fun k hk => ?_
      obtain ⟨p, hp, rfl⟩ := List.mem_map.mp hk
      have := G p (List.mem_filter.mp hp).1
      rw [sIn_co this.1 this.2, Bool.not_not]
    rw [this, ← decide_not]
    exact decide_eq_decide.mpr ⟨fun h => by omega, fun h => by omega⟩
  | .one .all l f, e => by
    show flt W.n _ = co W.n (flt W.n _)
    rw [co_flt, val_opp G f e]
    refine flt_congr fun s h0 h1 => ?_
    have : (W.beh s l).filter (sIn (co W.n (val W f e))) = (W.beh s l).filter (fun k => !sIn (val W f e) k) := by
      refine List.filter_congr fun k hk => ?_
      obtain ⟨p, hp, rfl⟩ := List.mem_map.mp hk
      have := G p (List.mem_filter.mp hp).1
      rw [sIn_co this.1 this.2]
    rw [this, ← decide_not]
    exact decide_eq_decide.mpr ⟨fun h => by omega, fun h => by omega⟩
  | .one .least x f, e => by
    show iter (fun X => val W (opp f) (setE (fun y => co W.n (e y)) x X)) (W.n + 1) (rng W.n) = co W.n (iter (fun X => val W f (setE e x X)) (W.n + 1) [])
    rw [← co_nil, iter_co (f := fun X => val W f (setE e x X))]
    exact fun X => by rw [setE_co, val_opp G f]
  | .one .most x f, e => by
    show iter (fun X => val W (opp f) (setE (fun y => co W.n (e y)) x X)) (W.n + 1) [] = co W.n (iter (fun X => val W f (setE e x X)) (W.n + 1) (rng W.n))
    rw [← co_rng W.n, iter_co (f := fun X => val W f (setE e x X))]
    exact fun X => by rw [setE_co, val_opp G f]
/-- all values are ranks of states -/
theorem val_in {W : Wd} : ∀ (t : F) (e : Int → List Int), (∀ x ∈ fv t, (e x).length ≤ W.n) → (val W t e).length ≤ W.n
  | .nul b, e, h => by
    show (if b = true then rng W.n else []).length ≤ _
    split
    · rw [rng_len]; exact Nat.le_refl _
    · exact Nat.zero_le _
  | .leaf .has n, e, h => Nat.le_trans (List.length_filter_le _ _) (by rw [rng_len]; exact Nat.le_refl _)
  | .leaf .lacks n, e, h => Nat.le_trans (List.length_filter_le _ _) (by rw [rng_len]; exact Nat.le_refl _)
  | .leaf .var x, e, h => h x (List.mem_singleton.mpr rfl)
  | .two b f g, e, h => by
    show (if b = true then flt _ _ else flt _ _).length ≤ _
    split <;> exact Nat.le_trans (List.length_filter_le _ _) (by rw [rng_len]; exact Nat.le_refl _)
  | .one .some l f, e, h => Nat.le_trans (List.length_filter_le _ _) (by rw [rng_len]; exact Nat.le_refl _)
  | .one .all l f, e, h => Nat.le_trans (List.length_filter_le _ _) (by rw [rng_len]; exact Nat.le_refl _)
  | .one .least x f, e, h => iter_in (fun X hX => val_in f _ fun y hy => setE_in (fv_one rfl) h hX y hy) _ _ (Nat.zero_le _)
  | .one .most x f, e, h => iter_in (fun X hX => val_in f _ fun y hy => setE_in (fv_one rfl) h hX y hy) _ _ (by rw [rng_len]; exact Nat.le_refl _)
where
  iter_in {n : Nat} {f : List Int → List Int} (hf : ∀ X, X.length ≤ n → (f X).length ≤ n) : ∀ (k : Nat) (X : List Int), X.length ≤ n → (iter f k X).length ≤ n
    | 0, X, h => h
    | k + 1, X, h => hf _ (iter_in hf k X h)
  fv_one {k : One} {x : Int} {f : F} (hk : k.bind = true) : ∀ y ∈ fv f, y ≠ x → y ∈ fv (.one k x f) := fun y hy hn => by
    simp only [fv, if_pos hk, List.mem_filter, decide_eq_true_eq]
    exact ⟨hy, hn⟩
  setE_in {n : Nat} {e : Int → List Int} {x : Int} {X : List Int} {A B : List Int} (hs : ∀ y ∈ A, y ≠ x → y ∈ B) (h : ∀ y ∈ B, (e y).length ≤ n) (hX : X.length ≤ n) : ∀ y ∈ A, (setE e x X y).length ≤ n := fun y hy => by
    unfold setE
    by_cases c : y = x
    · rw [if_pos c]; exact hX
    · rw [if_neg c]; exact h y (hs y hy c)
end Fw

set_option maxRecDepth 100000
set_option maxHeartbeats 4000000
/-! all of a generator expression over zip of two lists or two tuples. -/
namespace Fw
open PySem PySem.Spec PyProof.Rows L2 GxR
theorem walksU_zipL {prog : Program} {w : World} {A : Around} (hh : A.handled = none) {z TI TO i1 i2 l1 l2 : Addr} (D : ZipApart z TI TO i1 i2 l1 l2) (xs ys : Array Value) :
    WalksU prog w A z [z, TI, TO, i1, i2, l1, l2] [z, TO, i1, i2] (min xs.size ys.size)
      (fun i vals => ∃ x y, xs[i]? = some x ∧ ys[i]? = some y ∧ vals = #[x, y])
      (fun i h => IsZip h z TI TO .none ∧ IsPair h TI (.ref i1) (.ref i2) ∧ (∃ a b, IsPair h TO a b) ∧ h.IsListIter i1 l1 i ∧ h.IsListIter i2 l2 i ∧ h.IsList l1 xs ∧ h.IsList l2 ys)
      (fun i T h => IsZip h z TI TO (rawInt T) ∧ IsPair h TI (.ref i1) (.ref i2) ∧ (∃ a b, IsPair h TO a b) ∧ h.IsListIter i1 l1 (i + 1) ∧ h.IsListIter i2 l2 (i + 1) ∧ h.IsList l1 xs ∧ h.IsList l2 ys ∧
        T ≠ z ∧ T ≠ TO ∧ T ≠ i1 ∧ T ≠ i2) := (WalksT.zip2 hh z TI TO i1 i2 l1 l2 D xs ys).toU
theorem isTuple_at {h h' : Heap} {a : Addr} {xs : Array Value} (x : h.IsTuple a xs) (k : ∀ o, h.get? a = some o → h'.get? a = some o) : h'.IsTuple a xs := let ⟨o, e, r⟩ := x; ⟨o, k o e, r⟩
theorem walksU_zipT {prog : Program} {w : World} {A : Around} (hh : A.handled = none) {z TI TO i1 i2 l1 l2 : Addr} (D : ZipApart z TI TO i1 i2 l1 l2) (xs ys : Array Value) :
    WalksU prog w A z [z, TI, TO, i1, i2, l1, l2] [z, TO, i1, i2] (min xs.size ys.size)
      (fun i vals => ∃ x y, xs[i]? = some x ∧ ys[i]? = some y ∧ vals = #[x, y])
      (fun i h => IsZip h z TI TO .none ∧ IsPair h TI (.ref i1) (.ref i2) ∧ (∃ a b, IsPair h TO a b) ∧ h.IsTupleIter i1 l1 i ∧ h.IsTupleIter i2 l2 i ∧ h.IsTuple l1 xs ∧ h.IsTuple l2 ys)
      (fun i T h => IsZip h z TI TO (rawInt T) ∧ IsPair h TI (.ref i1) (.ref i2) ∧ (∃ a b, IsPair h TO a b) ∧ h.IsTupleIter i1 l1 (i + 1) ∧ h.IsTupleIter i2 l2 (i + 1) ∧ h.IsTuple l1 xs ∧ h.IsTuple l2 ys ∧
        T ≠ z ∧ T ≠ TO ∧ T ≠ i1 ∧ T ≠ i2) where
  sub := fun c hc => by simp at hc ⊢; rcases hc with rfl | rfl | rfl | rfl <;> simp
  frame := fun i h h' hst hk => by
    obtain ⟨hz, hTI, ⟨a, b, hTO⟩, h1, h2, hl1, hl2⟩ := hst
    exact ⟨hk z (by simp) _ hz, hk TI (by simp) _ hTI, ⟨a, b, hk TO (by simp) _ hTO⟩, h1.at fun o e => hk i1 (by simp) o e, h2.at fun o e => hk i2 (by simp) o e,
      isTuple_at hl1 fun o e => hk l1 (by simp) o e, isTuple_at hl2 fun o e => hk l2 (by simp) o e⟩
  item := fun i s Q E hi hst hQ => by
    obtain ⟨hz, hTI, ⟨a, b, hTO⟩, h1, h2, hl1, hl2⟩ := hst
    have hix : i < xs.size := Nat.lt_of_lt_of_le hi (Nat.min_le_left ..)
    have hiy : i < ys.size := Nat.lt_of_lt_of_le hi (Nat.min_le_right ..)
    refine RZ.pyNext_zipT_item D hz hTI hTO h1 h2 hl1 hl2 (Array.getElem?_eq_getElem hix) (Array.getElem?_eq_getElem hiy) fun h' a1 a2 a3 a4 a5 a6 hk => ?_
    have lt : ∀ {c o}, s.heap.get? c = some o → s.heap.objs.size ≠ c := fun e => Nat.ne_of_gt (Heap.lt_size e)
    exact hQ s.heap.objs.size #[xs[i], ys[i]] h' s.toks ⟨_, _, Array.getElem?_eq_getElem hix, Array.getElem?_eq_getElem hiy, rfl⟩ ⟨_, a5, rfl, _, rfl⟩
      ⟨a1, hk _ _ D.TIz D.TITO D.TIi1 D.TIi2 hTI, ⟨_, _, a2⟩, a3, a4, isTuple_at hl1 fun o e => hk _ o D.l1z D.l1TO D.l1i1 D.l1i2 e, isTuple_at hl2 fun o e => hk _ o D.l2z D.l2TO D.l2i1 D.l2i2 e,
        lt hz, lt hTO, (by obtain ⟨_, e, _⟩ := h1; exact lt e), (by obtain ⟨_, e, _⟩ := h2; exact lt e)⟩
      fun c o hc e => hk c o (fun x => hc (by simp [x])) (fun x => hc (by simp [x])) (fun x => hc (by simp [x])) (fun x => hc (by simp [x])) e
  go := fun elts k pos i T s Q E hm hQ => by
    obtain ⟨hz, hTI, ⟨a, b, hTO⟩, h1, h2, hl1, hl2, _⟩ := hm
    refine wpAny_letOwnedTupleGo_zip hz fun h' hz' hs' => hQ h' ⟨hz', hs'.extBut _ _ D.TIz hTI, ⟨a, b, hs'.extBut _ _ D.TOz hTO⟩, h1.at fun o e => hs'.extBut _ _ D.i1z e, h2.at fun o e => hs'.extBut _ _ D.i2z e,
      isTuple_at hl1 fun o e => hs'.extBut _ _ D.l1z e, isTuple_at hl2 fun o e => hs'.extBut _ _ D.l2z e⟩ fun c o hc e => hs'.extBut _ _ (fun x => hc (by simp [x])) e
  apart := fun i T h hm hT => by
    obtain ⟨_, _, _, _, _, _, _, t1, t2, t3, t4⟩ := hm
    simp at hT
    rcases hT with rfl | rfl | rfl | rfl
    · exact t1 rfl
    · exact t2 rfl
    · exact t3 rfl
    · exact t4 rfl
  done := fun s Q E hst hQ => by
    obtain ⟨hz, hTI, ⟨a, b, hTO⟩, h1, h2, hl1, hl2⟩ := hst
    have hend : xs[min xs.size ys.size]? = none ∨ ys[min xs.size ys.size]? = none := by
      rcases Nat.le_total xs.size ys.size with h | h
      · exact .inl (by rw [Nat.min_eq_left h]; exact Array.getElem?_eq_none (Nat.le_refl _))
      · exact .inr (by rw [Nat.min_eq_right h]; exact Array.getElem?_eq_none (Nat.le_refl _))
    exact RZ.pyNext_zipT_end hh D hz hTI hTO h1 h2 hl1 hl2 hend fun h' hk => hQ h' s.toks fun c o hc e =>
      hk c o (fun x => hc (by simp [x])) (fun x => hc (by simp [x])) (fun x => hc (by simp [x])) (fun x => hc (by simp [x])) e
  self := fun i s Q E hst hQ => wpAny_pyIter_zip hst.1 hQ
theorem vals_get : ∀ {xs : List V} {us : List Value} {j : Nat} {u : Value}, Vals xs us → us[j]? = some u → ∃ x, xs[j]? = some x ∧ RelV x u
  | _, _, 0, _, .cons r _, e => by
    simp at e
    subst e
    exact ⟨_, rfl, r⟩
  | _, _, j + 1, _, .cons _ rr, e => by
    simp at e
    obtain ⟨x, hx, r⟩ := vals_get rr e
    exact ⟨x, by simpa using hx, r⟩
/-- the generator expression's own scope, two names -/
structure GenS2 (env : Env) (scope : Scope) (xa xb : Str) : Prop where
  kind : scope.kind = .function
  co : scope.isCoroutine = false
  cell : ∀ y ∈ scope.names, y.2 ≠ .cell
  dot : scope.names.lookup (".0" : Str) = some NameKind.local
  la : scope.names.lookup xa = some .local
  lb : scope.names.lookup xb = some .local
  free : ∀ y ∈ scope.names, y.2 = .free → ∃ c, env.cells.lookup y.1 = some c
/-- the element at two values: a test whose outcome is r -/
def EltZ (prog : Program) (w : World) (scope : Scope) (xa xb : Str) (elt : Expr) (U : Nat) (hb : Heap) (P : Addr) (x y : V) (r : Bool) : Prop :=
  ∀ (cenv : Env) (A' : Around) (E' : Value → Shared → Prop) (va vb : Value) (s₂ : Shared) (m₂ : Str → Option Value), cenv.scope = scope → A'.units ≤ U → s₂.heap.Ns cenv.locals m₂ → m₂ xa = some va → m₂ xb = some vb → RelV x va → RelV y vb →
    (∀ b o, b ≠ P → hb.get? b = some o → s₂.heap.get? b = some o) → wpAny (model prog w) A' (eval elt cenv) (fun v s₃ => v = .bool r ∧ Keeps s₂ s₃) E' s₂
def ReadyZ (X : Cx) (pins : List (Addr × Obj)) (σ : L2.St) (H1 : Hp) (P : Addr) (rs : List Bool) (g : Addr) (s5 : Shared) : Prop :=
  ∃ (fp wr : List Addr) (G : Array GenState → Array GenState → Prop) (n : Nat) (F : Nat → Value → Prop) (St : Nat → Shared → Prop),
    n = rs.length ∧ WalksS X.prog X.w X.A.in1 g fp wr G n F St ∧ St 0 s5 ∧
    TruthOf X.prog X.w X.A.in1 F (fun j => (rs[j]?).getD false) ∧
    ∀ s', Moved wr G s5 s' → ∃ H2, Tabbed P H1 H2 ∧ Inv X pins σ H2 s'
section
variable {X : Cx} {pins : List (Addr × Obj)} {σ : L2.St} {H : Hp} {s : Shared}
/-- what the test does at each pair, in any heap like H1 -/
def EltsZ (X : Cx) (scope : Scope) (xa xb : Str) (elt : Expr) (P : Addr) (H1 : Hp) (xs ys : List V) (rs : List Bool) : Prop :=
  rs.length = min xs.length ys.length ∧ ∀ (s : Shared) (pins : List (Addr × Obj)) (σ : L2.St), Inv X pins σ H1 s → ∀ (i : Nat) (x y : V) (r : Bool), xs[i]? = some x → ys[i]? = some y → rs[i]? = some r → EltZ X.prog X.w scope xa xb elt (X.A.units + 8) s.heap P x y r
theorem gen_zip {c P : Addr} {elt e e2 : Expr} {xa xb : Str} {pa pb pt pz cpos gpos : Pos} {kt : Nat} {scope : Scope} {ta : TA} {k : Nat} {Q' : Value → Shared → Prop} {R : List Bool → Hp → Prop}
    (hr : Room k X.A) (TB : TabB X.base X.mg c P) (hcode : X.env.code = .ref c) (S : GenS2 X.env scope xa xb) (hab : xa ≠ xb) (hg : Gl X "zip") (hm : X.mg "zip" = none) (ha : PA X [e, e2] ta)
    (hse : starEach [e, e2] X.env = (false, eval e X.env) :: starEach [e2] X.env) (hpl : (backTo cpos (starEach [e2] X.env)).any (·.1) = false)
    (hs : ∀ v, genFold (.Call (.Name "zip" pz) [e, e2] [] cpos) X.env v = pure v) (I : Inv X pins σ H s)
    (h : ta σ H fun vs H1 => ∃ a b xs ys rs, vs = [.ref a, .ref b] ∧ ((SqL X.K H1 a xs ∧ SqL X.K H1 b ys) ∨ (SqT X.K H1 a xs ∧ SqT X.K H1 b ys)) ∧ TabG H1 P ∧ EltsZ X scope xa xb elt P H1 xs ys rs ∧ R rs H1)
    (hQ : ∀ rs H1 g s5, R rs H1 → ReadyZ X pins σ H1 P rs g s5 → Q' (.ref g) s5) :
    wpAny (model X.prog X.w) X.A (eval (.GeneratorExp elt [⟨.Tuple [.Name xa pa, .Name xb pb] kt pt, .Call (.Name "zip" pz) [e, e2] [] cpos, [], 0⟩] scope gpos) X.env) Q' X.xe s := by
  refine wpAny_GeneratorExp_walksQTD hr.hd S.co (closure_ok S.free) S.cell S.dot S.la S.lb hab S.kind (by have := hr.dp; omega) ?_ hs
  refine Call_ (ld_blt I hg hm PyProof.Rows.boot_zip (PyProof.Rows.callWith_type1 (thn (ha.run cpos pins s σ H _ I h) fun us s1 ⟨vs, H1, I1, r1, q1⟩ => ?_) hse hpl))
  obtain ⟨a, b, xs, ys, rs, ex, hab2, ⟨ps, hP, ht⟩, ⟨hlen, hel⟩, q1⟩ := q1
  subst ex
  cases r1 with
  | cons r rr =>
  cases rr with
  | cons r' rr =>
  cases rr
  cases r
  cases r'
  have hPs : s1.heap.get? P = some { cls := .none, data := .fields ps } := I1.hok P _ hP
  have hPlt : P < s1.heap.objs.size := Heap.lt_size hPs
  -- from the zip object on, over lists or over tuples
  have go : ∀ (h' : Heap) (its its2 : List Value) (St₀ : Nat → Heap → Prop) (Mid : Nat → Addr → Heap → Prop), Vals xs its → Vals ys its2 → (∀ c o, s1.heap.get? c = some o → h'.get? c = some o) → h'.objs.size = s1.heap.objs.size + 5 →
      a < s1.heap.objs.size → b < s1.heap.objs.size → a ≠ P → b ≠ P →
      (∀ A' : Around, A'.handled = none → WalksU X.prog X.w A' (s1.heap.objs.size + 4) [s1.heap.objs.size + 4, s1.heap.objs.size + 2, s1.heap.objs.size + 3, s1.heap.objs.size, s1.heap.objs.size + 1, a, b] [s1.heap.objs.size + 4, s1.heap.objs.size + 3, s1.heap.objs.size, s1.heap.objs.size + 1] (min its.toArray.size its2.toArray.size)
        (fun i vals => ∃ x y, its.toArray[i]? = some x ∧ its2.toArray[i]? = some y ∧ vals = #[x, y]) St₀ Mid) → St₀ 0 h' →
      { s1 with heap := h' }.heap.NoLimit ∧
      wpAny (model X.prog X.w) X.A (genexprCode X.env gpos (X.env.qual ++ "<genexpr>") scope) (fun code s₃ => wpAny (model X.prog X.w) X.A (builtinsFor X.env.globals X.env.builtins) (fun bi s₄ =>
        ∃ Ia fp wr n₀ Pt St₀ Mid pz F, Value.ref (s1.heap.objs.size + 4) = .ref Ia ∧ (∀ A' : Around, A'.handled = none → WalksU X.prog X.w A' Ia fp wr n₀ Pt St₀ Mid) ∧ (∀ i vals, Pt i vals → ∃ va vb, vals = #[va, vb]) ∧ St₀ 0 s₄.heap ∧ (∀ b ∈ fp, b < s₄.heap.objs.size) ∧ s₄.heap.NoLimit ∧ cStatics ∉ wr ∧
          (∀ href : Heap, (∀ b o, s₄.heap.get? b = some o → href.get? b = some o) →
            QuietGenTD X.prog X.w (genEnv scope (cloFrom X.env.cells scope.names []) s₄.heap.objs.size code bi X.env) xa xb [] elt (List.range s₄.heap.objs.size) wr Pt pz F href (X.A.depth + 1) (X.A.units + 8)) ∧
          (∀ a h₅ tk gs, gs.bare = true → s₄.heap.objs.size < a → h₅.objs.size = a + 1 → (∀ b o, s₄.heap.get? b = some o → h₅.get? b = some o) →
            WalksS X.prog X.w X.A.in4 a (a :: s₄.heap.objs.size :: List.range s₄.heap.objs.size) (s₄.heap.objs.size :: wr) (GenOnlyQ s₄.gens.size) (passing pz n₀ 0).length
              (fun j y => ∃ i, (passing pz n₀ 0)[j]? = some i ∧ F i y) (GenAt X.prog X.w X.A.in4 a s₄.gens.size s₄.heap.objs.size (List.range s₄.heap.objs.size) wr pz n₀ F) →
            GenAt X.prog X.w X.A.in4 a s₄.gens.size s₄.heap.objs.size (List.range s₄.heap.objs.size) wr pz n₀ F 0 { s₄ with gens := s₄.gens.push gs, toks := tk, heap := h₅ } →
            Q' (.ref a) { s₄ with gens := s₄.gens.push gs, toks := tk, heap := h₅ })) X.xe s₃) X.xe { s1 with heap := h' } := by
    intro h' its its2 St Mid rv rv2 hk hsz' la lb aP bP W hst
    have l1 := rv.length
    have l2 := rv2.length
    have hP2 : h'.get? P = some { cls := .none, data := .fields ps } := hk _ _ hPs
    have cd : PySem.W.CodeHd h' c P := TB.code.keeps fun b u e => hk _ _ (I1.bk b u e)
    have lim2 : h'.NoLimit := I1.nolimit.keeps hk
    have cont : ∀ (code : Value) (h3 : Heap) (tk : Nat) (ps' : Array Value), Heap.ExtBut P h' h3 → h'.objs.size ≤ h3.objs.size → h3.get? P = some { cls := .none, data := .fields ps' } → (∃ more, ps' = ps ++ more) → TriplesOk ps'.toList →
        wpAny (model X.prog X.w) X.A (builtinsFor X.env.globals X.env.builtins) (fun bi s₄ =>
          ∃ Ia fp wr n₀ Pt St₀ Mid pz F, Value.ref (s1.heap.objs.size + 4) = .ref Ia ∧ (∀ A' : Around, A'.handled = none → WalksU X.prog X.w A' Ia fp wr n₀ Pt St₀ Mid) ∧ (∀ i vals, Pt i vals → ∃ va vb, vals = #[va, vb]) ∧ St₀ 0 s₄.heap ∧ (∀ b ∈ fp, b < s₄.heap.objs.size) ∧ s₄.heap.NoLimit ∧ cStatics ∉ wr ∧
          (∀ href : Heap, (∀ b o, s₄.heap.get? b = some o → href.get? b = some o) →
            QuietGenTD X.prog X.w (genEnv scope (cloFrom X.env.cells scope.names []) s₄.heap.objs.size code bi X.env) xa xb [] elt (List.range s₄.heap.objs.size) wr Pt pz F href (X.A.depth + 1) (X.A.units + 8)) ∧
          (∀ a h₅ tk gs, gs.bare = true → s₄.heap.objs.size < a → h₅.objs.size = a + 1 → (∀ b o, s₄.heap.get? b = some o → h₅.get? b = some o) →
            WalksS X.prog X.w X.A.in4 a (a :: s₄.heap.objs.size :: List.range s₄.heap.objs.size) (s₄.heap.objs.size :: wr) (GenOnlyQ s₄.gens.size) (passing pz n₀ 0).length
              (fun j y => ∃ i, (passing pz n₀ 0)[j]? = some i ∧ F i y) (GenAt X.prog X.w X.A.in4 a s₄.gens.size s₄.heap.objs.size (List.range s₄.heap.objs.size) wr pz n₀ F) →
            GenAt X.prog X.w X.A.in4 a s₄.gens.size s₄.heap.objs.size (List.range s₄.heap.objs.size) wr pz n₀ F 0 { s₄ with gens := s₄.gens.push gs, toks := tk, heap := h₅ } →
            Q' (.ref a) { s₄ with gens := s₄.gens.push gs, toks := tk, heap := h₅ })) X.xe { s1 with heap := h3, toks := tk } := by
      intro code h3 tk ps' hx hsz hP3 hmore ht3
      obtain ⟨bm, ob, e1, e2, e3, e4, e5, e6, e7, e8⟩ := TB.bm
      have hcP : cStatics ≠ P := fun e => by
        obtain ⟨_, hns, _⟩ := I1.nolimit
        obtain ⟨o', es, ep, ho, hd, _⟩ := hns
        rw [e, hPs] at ho
        cases ho
        cases hd
      have hcl : cStatics < s1.heap.objs.size := let ⟨_, hns, _⟩ := I1.nolimit; hns.lt
      have keep3 : ∀ b u, b ≠ P → s1.heap.get? b = some u → h3.get? b = some u := fun b u hb e => hx b u hb (hk _ _ e)
      refine wpAny_builtinsFor (m := X.mg) (by rw [I1.ok.glob]; exact ((I1.mod.glob.keeps I1.bk).keeps hk).extBut hx TB.gP) e1 e2 (keep3 _ _ e4 (I1.bk _ _ e5)) e6 e7 e8 ?_
      refine ⟨s1.heap.objs.size + 4, _, _, _, _, St, Mid, (fun _ => true), (fun i y => ∃ r, rs[i]? = some r ∧ y = .bool r), rfl, W, ?_, ?_, ?_, lim2.extBut hx hcP, ?_, ?_, ?_⟩
      · rintro i vals ⟨x, y, _, _, e⟩
        exact ⟨x, y, e⟩
      · refine (W X.A hr.hd).frame _ _ _ hst fun b' hb u e => hx b' u (fun z => ?_) e
        have : b' = s1.heap.objs.size + 4 ∨ b' = s1.heap.objs.size + 2 ∨ b' = s1.heap.objs.size + 3 ∨ b' = s1.heap.objs.size ∨ b' = s1.heap.objs.size + 1 ∨ b' = a ∨ b' = b := by simpa using hb
        rw [z] at this
        rcases this with q | q | q | q | q | q | q
        · exact absurd hPlt (by rw [q]; exact Nat.not_lt.mpr (Nat.le_add_right _ _))
        · exact absurd hPlt (by rw [q]; exact Nat.not_lt.mpr (Nat.le_add_right _ _))
        · exact absurd hPlt (by rw [q]; exact Nat.not_lt.mpr (Nat.le_add_right _ _))
        · exact absurd hPlt (by rw [q]; exact Nat.lt_irrefl _)
        · exact absurd hPlt (by rw [q]; exact Nat.not_lt.mpr (Nat.le_add_right _ _))
        · exact aP q.symm
        · exact bP q.symm
      · intro b' hb
        show b' < h3.objs.size
        have : b' = s1.heap.objs.size + 4 ∨ b' = s1.heap.objs.size + 2 ∨ b' = s1.heap.objs.size + 3 ∨ b' = s1.heap.objs.size ∨ b' = s1.heap.objs.size + 1 ∨ b' = a ∨ b' = b := by simpa using hb
        refine Nat.lt_of_lt_of_le ?_ (Nat.le_trans (Nat.le_of_eq hsz'.symm) hsz)
        rcases this with q | q | q | q | q | q | q
        · rw [q]; exact Nat.add_lt_add_left (by decide) _
        · rw [q]; exact Nat.add_lt_add_left (by decide) _
        · rw [q]; exact Nat.add_lt_add_left (by decide) _
        · rw [q]; exact Nat.lt_add_of_pos_right (by decide)
        · rw [q]; exact Nat.add_lt_add_left (by decide) _
        · rw [q]; exact Nat.lt_of_lt_of_le la (Nat.le_add_right _ _)
        · rw [q]; exact Nat.lt_of_lt_of_le lb (Nat.le_add_right _ _)
      · intro z
        have : cStatics = s1.heap.objs.size + 4 ∨ cStatics = s1.heap.objs.size + 3 ∨ cStatics = s1.heap.objs.size ∨ cStatics = s1.heap.objs.size + 1 := by simpa using z
        rcases this with q | q | q | q
        · exact absurd hcl (by rw [q]; exact Nat.not_lt.mpr (Nat.le_add_right _ _))
        · exact absurd hcl (by rw [q]; exact Nat.not_lt.mpr (Nat.le_add_right _ _))
        · exact absurd hcl (by rw [q]; exact Nat.lt_irrefl _)
        · exact absurd hcl (by rw [q]; exact Nat.not_lt.mpr (Nat.le_add_right _ _))
      · intro href hhref
        refine ⟨fun A' E' i va vb s₂ m₂ hA _ _ hPv hn hma hmb hkk => ?_, fun A' E' i va vb s₂ m₂ hA _ hu hPv hp hn hma hmb hkk => ?_⟩
        · simp only [List.forIn_nil]
          exact wpAny_pure ⟨rfl, keeps_refl _⟩
        · obtain ⟨x, y, hx', hy', ee⟩ := hPv
          have ea : va = x := by have := congrArg (fun z => z[0]?) ee; simpa using this
          have eb : vb = y := by have := congrArg (fun z => z[1]?) ee; simpa using this
          subst ea eb
          have hx2 : its[i]? = some va := by simpa using hx'
          have hy2 : its2[i]? = some vb := by simpa using hy'
          obtain ⟨x, hxx, rx⟩ := vals_get rv hx2
          obtain ⟨y, hyy, ry⟩ := vals_get rv2 hy2
          have hi : i < rs.length := by
            have h1 := (List.getElem?_eq_some_iff.mp hxx).1
            have h2 := (List.getElem?_eq_some_iff.mp hyy).1
            omega
          have hrr : rs[i]? = some rs[i] := List.getElem?_eq_getElem hi
          refine wpAny_mono (hel s1 pins σ I1 i x y _ hxx hyy hrr _ A' E' va vb s₂ m₂ rfl hu hn hma hmb rx ry fun b' o hb' e => ?_) (fun v s3 r => ⟨⟨_, hrr, r.1⟩, r.2⟩) fun _ _ e => e
          have e3 := keep3 b' o hb' e
          have lt := Heap.lt_size e
          refine hkk b' (List.mem_range.mpr (Nat.lt_of_lt_of_le lt (Nat.le_trans (by rw [hsz']; exact Nat.le_add_right _ _) hsz))) (fun hw => ?_) o (hhref _ _ e3)
          have : b' = s1.heap.objs.size + 4 ∨ b' = s1.heap.objs.size + 3 ∨ b' = s1.heap.objs.size ∨ b' = s1.heap.objs.size + 1 := by simpa using hw
          rcases this with q | q | q | q
          · exact absurd lt (by rw [q]; exact Nat.not_lt.mpr (Nat.le_add_right _ _))
          · exact absurd lt (by rw [q]; exact Nat.not_lt.mpr (Nat.le_add_right _ _))
          · exact absurd lt (by rw [q]; exact Nat.lt_irrefl _)
          · exact absurd lt (by rw [q]; exact Nat.not_lt.mpr (Nat.le_add_right _ _))
      · intro g h5 tk5 gs hgb hag hsz5 hk5 W5 hat
        simp only [GxR.passing_true, List.length_range] at W5
        have en : min its.toArray.size its2.toArray.size = rs.length := by rw [List.size_toArray, List.size_toArray, hlen, ← l1, ← l2]
        refine hQ rs H1 g _ q1 ⟨_, _, _, _, _, _, en, W5.in4_1, hat, ?_, fun s' hm => ?_⟩
        · intro j y sj Qj Ej hy hQj
          obtain ⟨i, hij, r, hrr, rfl⟩ := hy
          obtain ⟨hj, ej⟩ := List.getElem?_eq_some_iff.mp hij
          rw [List.getElem_range] at ej
          subst ej
          have hQ2 : Qj ((rs[j]?).getD false) sj := hQj
          rw [hrr] at hQ2
          exact wpAny_truthy_bool hQ2
        · obtain ⟨more, em⟩ := hmore
          have nwr : ∀ b' u, s1.heap.get? b' = some u → b' ∉ h3.objs.size :: [s1.heap.objs.size + 4, s1.heap.objs.size + 3, s1.heap.objs.size, s1.heap.objs.size + 1] := fun b' u e hb => by
            have hl := Heap.lt_size e
            have : b' = h3.objs.size ∨ b' = s1.heap.objs.size + 4 ∨ b' = s1.heap.objs.size + 3 ∨ b' = s1.heap.objs.size ∨ b' = s1.heap.objs.size + 1 := by simpa using hb
            rcases this with q | q | q | q | q
            · exact absurd hl (by rw [q]; exact Nat.not_lt.mpr (Nat.le_trans (by rw [hsz']; exact Nat.le_add_right _ _) hsz))
            · exact absurd hl (by rw [q]; exact Nat.not_lt.mpr (Nat.le_add_right _ _))
            · exact absurd hl (by rw [q]; exact Nat.not_lt.mpr (Nat.le_add_right _ _))
            · exact absurd hl (by rw [q]; exact Nat.lt_irrefl _)
            · exact absurd hl (by rw [q]; exact Nat.not_lt.mpr (Nat.le_add_right _ _))
          have J := inv_tab (more := more) (h' := s'.heap) (g' := s'.gens) (d' := s'.drawn) (t' := s'.toks) I1 hP (fun b' u hb e => hm.heap b' u (nwr b' u e) (hk5 b' u (keep3 b' u hb e)))
            (by rw [← em]; exact hm.heap P _ (nwr P _ hPs) (hk5 P _ hP3)) (AllBare.movedS (I1.bare.push hgb) hm)
          rw [sh_eta s1 s' hm.os] at J
          exact ⟨upd H1 P (.tbl (ps ++ more)), ⟨⟨ps ++ more, upd_same, by rw [← em]; exact ht3⟩, fun b hb => upd_ne hb⟩, J⟩
    refine ⟨lim2, ?_⟩
    cases hf : codeAmong gpos ps.toList with
    | none =>
      refine wpAny_genexprCodeX hcode (cd.code hP2 ht) (cd.tab hP2) hf fun c' h'' tk hx hge hlt hco' _ htab' _ => ?_
      obtain ⟨o1, vs, f1, tf, fl, tg, inF, tx, tt, op, _, _, _, _, _, _, _, _, _, htr, _⟩ := hco'
      exact cont _ h'' tk _ hx (Nat.le_trans hge (Nat.le_of_lt hlt)) htab'.2 ⟨_, rfl⟩ htr
    | some cv =>
      refine wpAny_genexprCode_hit hcode (cd.code hP2 ht) hf ?_
      exact cont cv h' s1.toks ps (Heap.ExtBut.refl _ _) (Nat.le_refl _) hP2 ⟨#[], by simp⟩ ht
  rcases hab2 with ⟨hqx, hqy⟩ | ⟨hqx, hqy⟩
  · obtain ⟨its, rv, p1, _⟩ := I1.list hqx
    obtain ⟨its2, rv2, p2, _⟩ := I1.list hqy
    refine call_zip_2 p1.isList p2.isList fun h' hz hTI hTO h1 h2 hsz hk => wpAny_pyIter_zip hz ?_
    refine go h' its its2 _ _ rv rv2 hk hsz p1.lt p2.lt ?_ ?_ (fun A' hA => walksU_zipL hA (zipApart_new p1.lt p2.lt) _ _) ⟨hz, hTI, ⟨_, _, hTO⟩, h1, h2, Heap.IsList.at p1.isList (fun o e => hk _ o e), Heap.IsList.at p2.isList (fun o e => hk _ o e)⟩
    · intro e; subst e
      obtain ⟨o, ho, hc, _⟩ := p1.isList
      rw [hPs] at ho; cases ho; cases hc
    · intro e; subst e
      obtain ⟨o, ho, hc, _⟩ := p2.isList
      rw [hPs] at ho; cases ho; cases hc
  · obtain ⟨its, rv, p1, _⟩ := I1.tuple hqx
    obtain ⟨its2, rv2, p2, _⟩ := I1.tuple hqy
    obtain ⟨o1, ho1, hc1, _⟩ := id p1
    obtain ⟨o2, ho2, hc2, _⟩ := id p2
    refine RZ.call_zipT (show s1.heap.IsTuple a its.toArray from p1) (show s1.heap.IsTuple b its2.toArray from p2) fun h' hz hTI hTO h1 h2 hsz hk => wpAny_pyIter_zip hz ?_
    refine go h' its its2 _ _ rv rv2 hk hsz (Heap.lt_size ho1) (Heap.lt_size ho2) ?_ ?_ (fun A' hA => walksU_zipT hA (zipApart_new (Heap.lt_size ho1) (Heap.lt_size ho2)) _ _) ⟨hz, hTI, ⟨_, _, hTO⟩, h1, h2, isTuple_at p1 (fun o e => hk _ o e), isTuple_at p2 (fun o e => hk _ o e)⟩
    · intro e; subst e
      rw [hPs] at ho1; cases ho1; cases hc1
    · intro e; subst e
      rw [hPs] at ho2; cases ho2; cases hc2
theorem all_getD (rs : List Bool) : (List.range rs.length).all (fun j => (rs[j]?).getD false) = rs.all id := by
  rw [Bool.eq_iff_iff, List.all_eq_true, List.all_eq_true]
  constructor
  · intro h b hb
    obtain ⟨j, hj, e⟩ := List.getElem_of_mem hb
    have q := h j (List.mem_range.mpr hj)
    rw [List.getElem?_eq_getElem hj, e] at q
    exact q
  · intro h j hj
    have hj' := List.mem_range.mp hj
    rw [List.getElem?_eq_getElem hj']
    exact h _ (List.getElem_mem hj')
/-- all(test for a, b in zip(x, y)), x and y two lists or two tuples; behind it the def's table may have grown -/
def tAllZ (X : Cx) (scope : Scope) (xa xb : Str) (elt : Expr) (P : Addr) (ta : TA) : TE := fun σ H Q => ta σ H fun vs H1 => ∃ a b xs ys rs, vs = [.ref a, .ref b] ∧ ((SqL X.K H1 a xs ∧ SqL X.K H1 b ys) ∨ (SqT X.K H1 a xs ∧ SqT X.K H1 b ys)) ∧ TabG H1 P ∧
  EltsZ X scope xa xb elt P H1 xs ys rs ∧ ∀ H2, Tabbed P H1 H2 → Q (.bl (rs.all id)) H2
theorem pe_allZ {c P : Addr} {elt e e2 : Expr} {xa xb : Str} {pa pb pt pz p pos cpos gpos : Pos} {kt : Nat} {scope : Scope} {ta : TA} {k : Nat}
    (hr : Room k X.A) (TB : TabB X.base X.mg c P) (hcode : X.env.code = .ref c) (S : GenS2 X.env scope xa xb) (hab : xa ≠ xb) (hg : Gl X "all") (hm : X.mg "all" = none) (hgz : Gl X "zip") (hmz : X.mg "zip" = none) (ha : PA X [e, e2] ta)
    (hb : bootBuiltins "all" = some (.builtin "all") := by decide +kernel)
    (hse : starEach [e, e2] X.env = (false, eval e X.env) :: starEach [e2] X.env := by rfl) (hpl : (backTo cpos (starEach [e2] X.env)).any (·.1) = false := by rfl)
    (hs : ∀ v, genFold (.Call (.Name "zip" pz) [e, e2] [] cpos) X.env v = pure v := by intro _; rfl)
    (he : starEach [.GeneratorExp elt [⟨.Tuple [.Name xa pa, .Name xb pb] kt pt, .Call (.Name "zip" pz) [e, e2] [] cpos, [], 0⟩] scope gpos] X.env = (false, eval (.GeneratorExp elt [⟨.Tuple [.Name xa pa, .Name xb pb] kt pt, .Call (.Name "zip" pz) [e, e2] [] cpos, [], 0⟩] scope gpos) X.env) :: starEach [] X.env := by rfl) :
    PE X (.Call (.Name "all" p) [.GeneratorExp elt [⟨.Tuple [.Name xa pa, .Name xb pb] kt pt, .Call (.Name "zip" pz) [e, e2] [] cpos, [], 0⟩] scope gpos] [] pos) (tAllZ X scope xa xb elt P ta) := by
  refine ⟨fun pins s σ H Q I h => ?_⟩
  refine wpAny_Call_Name_kw (ld_blt I hg hm hb ?_)
  refine PyProof.Rows.callWith_builtin1 ?_ he (by rfl)
  rw [he]
  show wpAny _ _ (spliced ((false, eval (.GeneratorExp elt [⟨.Tuple [.Name xa pa, .Name xb pb] kt pt, .Call (.Name "zip" pz) [e, e2] [] cpos, [], 0⟩] scope gpos) X.env) :: backTo pos (starEach [] X.env))) _ _ s
  refine Calls.spliced_cons (gen_zip (R := fun rs H1 => ∀ H2, Tabbed P H1 H2 → Q (.bl (rs.all id)) H2) hr TB hcode S hab hgz hmz ha hse hpl hs I h fun rs H1 g s5 hR hG => ?_)
  obtain ⟨fp, wr, G, n, F, St, hn, W, hst, htr, hI⟩ := hG
  refine Calls.spliced_nil ?_
  refine call_all_walkS (W.self 0 _ _ _ hst ⟨g, fp, wr, G, _, F, St, _, rfl, W, hst, htr, fun s' hmv => ?_⟩)
  obtain ⟨H2, hT, J⟩ := hI s' hmv
  refine ⟨.bl _, H2, J, rfl, ?_⟩
  rw [hn, all_getD rs]
  exact hR H2 hT
end
end Fw

set_option maxRecDepth 100000
set_option maxHeartbeats 4000000
/-! Sorting of triples of whole numbers, setdefault on tuple keys, tests within a generator. -/
namespace Fw
open PySem PySem.Spec PyProof.Rows L2 GxR
/-! ### triples -/
abbrev T3 := Int × Int × Int
def lex3 (p q : T3) : Bool := if p.1 = q.1 then (if p.2.1 = q.2.1 then decide (p.2.2 < q.2.2) else decide (p.2.1 < q.2.1)) else decide (p.1 < q.1)
def Lt3 (p q : T3) : Prop := p.1 < q.1 ∨ (p.1 = q.1 ∧ (p.2.1 < q.2.1 ∨ (p.2.1 = q.2.1 ∧ p.2.2 < q.2.2)))
theorem lex3_iff {p q : T3} : lex3 p q = true ↔ Lt3 p q := by
  unfold lex3 Lt3
  split
  · split
    · rw [decide_eq_true_eq]; omega
    · rw [decide_eq_true_eq]; omega
  · rw [decide_eq_true_eq]; omega
theorem lex3_no {p q : T3} : lex3 p q = false ↔ ¬ Lt3 p q := by
  rw [← lex3_iff]
  cases lex3 p q <;> simp
theorem swo3 {α : Type} (k : α → T3) : SrtO.Swo fun v u => lex3 (k v) (k u) := by
  refine ⟨fun x y h => ?_, fun x y z h1 h2 => ?_⟩
  · have a := lex3_iff.mp h
    refine lex3_no.mpr ?_
    unfold Lt3 at *
    omega
  · have a := lex3_no.mp h1
    have b := lex3_no.mp h2
    refine lex3_no.mpr ?_
    unfold Lt3 at *
    omega
def IsTrip (h : Heap) (v : Value) (x : T3) : Prop := ∃ a o t u r n, v = .ref a ∧ h.get? a = some o ∧ o.cls = .type "tuple" ∧ o.data = .seq #[.int x.1 t, .int x.2.1 u, .int x.2.2 r] n
theorem IsTrip.keeps {h h' : Heap} {v : Value} {x : T3} (p : IsTrip h v x) (k : ∀ b o, h.get? b = some o → o.cls = .type "tuple" → h'.get? b = some o) : IsTrip h' v x := by
  obtain ⟨a, o, t, u, r, n, e, ho, hc, hd⟩ := p
  exact ⟨a, o, t, u, r, n, e, k a o ho hc, hc, hd⟩
section
variable {prog : Program} {w : World} {A : Around} {E : Value → Shared → Prop} {s : Shared}
theorem trip_cmp {vs : List Value} {k : Value → T3} (hp : ∀ v ∈ vs, IsTrip s.heap v (k v)) : SrtO.Cmp prog w A s (PyProof.Rows.tuples' true) (fun p => p.1 ∈ vs) (SrtO.lt2 fun v u => lex3 (k v) (k u)) := by
  intro p q hm hm'
  have h1 := hp _ hm
  have h2 := hp _ hm'
  show wpAny (model prog w) A (keyLt' (PyProof.Rows.tuples' true) p.1 q.1) (fun r s' => s' = s ∧ r = lex3 (k p.1) (k q.1)) (fun _ _ => False) s
  unfold lex3
  generalize (k p.1) = x at h1 ⊢
  generalize (k q.1) = x' at h2 ⊢
  obtain ⟨x, y, z⟩ := x
  obtain ⟨x', y', z'⟩ := x'
  obtain ⟨a, o, t, u, r, n, e, ho, hc, hd⟩ := h1
  obtain ⟨a', o', t', u', r', n', e', ho', hc', hd'⟩ := h2
  rw [e, e']
  simp only at hd hd' ⊢
  refine PySem.W.kat_lt ho hd ho' hd' ?_
  show PySem.W.KatLex prog w A true (decide (3 < 3)) _ [(.int x t, .int x' t'), (.int y u, .int y' u'), (.int z r, .int z' r')] 0 s
  refine PySem.W.kat_cons (SeqAt.EqAt.int_int x t x' t' prog w _ _ ?_)
  refine PySem.W.kat_go (fun e1 => ?_) (fun e1 => ?_)
  · have ex : x = x' := by simpa using e1
    rw [if_pos ex]
    refine PySem.W.kat_yes (PySem.W.kat_cons (SeqAt.EqAt.int_int y u y' u' prog w _ _ ?_))
    refine PySem.W.kat_go (fun e2 => ?_) (fun e2 => ?_)
    · have ey : y = y' := by simpa using e2
      rw [if_pos ey]
      refine PySem.W.kat_yes (PySem.W.kat_cons (SeqAt.EqAt.int_int z r z' r' prog w _ _ ?_))
      refine PySem.W.kat_go (fun e3 => ?_) (fun e3 => ?_)
      · have ez : z = z' := by simpa using e3
        have e4 : decide (z < z') = false := by rw [ez]; exact decide_eq_false (Int.lt_irrefl _)
        rw [e4]
        exact PySem.W.kat_yes (PySem.W.kat_nil ⟨rfl, rfl⟩)
      · refine PySem.W.kat_no (PySem.W.kat_one _ _ (PyProof.Rows.lt_int ?_))
        exact (show s = s ∧ decide (z < z') = decide (z < z') from ⟨rfl, rfl⟩)
    · have ey : ¬ y = y' := by simpa using e2
      rw [if_neg ey]
      refine PySem.W.kat_no (PySem.W.kat_one _ _ (PyProof.Rows.lt_int ?_))
      exact (show s = s ∧ decide (y < y') = decide (y < y') from ⟨rfl, rfl⟩)
  · have ex : ¬ x = x' := by simpa using e1
    rw [if_neg ex]
    exact PySem.W.kat_no (PyProof.Rows.oneLt_int ⟨rfl, rfl⟩)
theorem firsts3 {h : Heap} {k : Value → T3} : ∀ {vs : List Value}, (∀ v ∈ vs, IsTrip h v (k v)) → ∃ fs : List Value, PySem.W.KatTups h vs fs ∧ fs.length = vs.length ∧ ∀ f ∈ fs, ∃ x t, f = Value.int x t
  | [], _ => ⟨[], PySem.W.KatTups.nil, rfl, fun _ hm => by simp at hm⟩
  | v :: vs, hp => by
    obtain ⟨fs, h1, h2, h3⟩ := firsts3 (vs := vs) fun v' hm => hp v' (List.mem_cons_of_mem _ hm)
    obtain ⟨a, o, t, u, r, n, e, ho, hc, hd⟩ := hp v (List.mem_cons_self ..)
    refine ⟨.int (k v).1 t :: fs, ?_, by rw [List.length_cons, List.length_cons, h2], fun f hm => ?_⟩
    · generalize k v = kv at hd ⊢
      subst e
      exact PySem.W.KatTups.cons ho hc hd rfl h1
    · rcases List.mem_cons.mp hm with rfl | hm
      · exact ⟨_, t, rfl⟩
      · exact h3 f hm
theorem trips_sortableO {a : Addr} {vs : List Value} {k : Value → T3} (h0 : 0 < vs.length) (hp : ∀ v ∈ vs, IsTrip s.heap v (k v)) (ha : ∀ o, s.heap.get? a = some o → o.cls ≠ .type "tuple") : SrtO.SortableO prog w A s a vs fun v u => lex3 (k v) (k u) := by
  intro h' keep
  have hp' : ∀ v ∈ vs, IsTrip h' v (k v) := fun v hm => (hp v hm).keeps fun b o e c => keep b o (fun z => by subst z; exact ha o e c) e
  obtain ⟨fs, h1, h2, h3⟩ := firsts3 hp'
  refine ⟨PyProof.Rows.tuples' true, fun Q E hq => ?_, trip_cmp hp'⟩
  refine PySem.W.kat_kind (T := .type "int") h1 (by omega) (fun f hm => ?_) (by rfl) ?_
  · obtain ⟨x, t, rfl⟩ := h3 f hm
    exact PySem.W.Looks.now
  · have e : (Value.type "int" != Value.type "tuple") = true := by first | decide +kernel | rfl | decide
    rw [e]
    exact hq
theorem sorted_trips {l : Addr} {vs : List Value} {k : Value → T3} {Q : Value → Shared → Prop} (hl : s.heap.IsList l vs.toArray) (hz : vs.length ≤ sizeLine) (hp : ∀ v ∈ vs, IsTrip s.heap v (k v))
    (h : ∀ (h' : Heap) (d : Addr) (out : List Value), SrtO.Srtd (fun v u => lex3 (k v) (k u)) out → SrtO.Stb (fun v u => lex3 (k v) (k u)) out vs → (∀ b o, s.heap.get? b = some o → h'.get? b = some o) → s.heap.objs.size ≤ d → (∃ n, h'.get? d = some (seqObj "list" out.toArray n)) → Q (.ref d) { s with heap := h' }) :
    wpAny (model prog w) A (call (.builtin "sorted") [.ref l]) Q E s := by
  refine SrtO.sorted_ord (swo3 k) hl hz (fun h2 h₁ a ha kk => ?_) fun out hs hb => ?_
  · refine trips_sortableO (s := { s with heap := h₁ }) (by omega) (fun v hm => (hp v hm).keeps fun b o e _ => (kk b o e).2) fun o e => ?_
    have e' : some o = some (seqObj "list" vs.toArray 0) := e.symm.trans ha
    cases e'
    intro c
    exact absurd (Value.type.inj c) (by decide)
  · exact h _ _ out hs hb (fun b o e => sortedAll_old e) (Nat.le_succ _) (sortedAll_at s.heap vs out.toArray)
end
/-- sorted(xs), xs a list of triples of ints (k says which): a new list, sorted, equal ones in their order -/
def rSorted3 (K : PySem.W.Frag) : List V → Hp → VK → Prop := fun vs H Q => ∃ (a : Addr) (xs : List V) (k : V → T3), vs = [V.ref a] ∧ SqL K H a xs ∧ (∀ x ∈ xs, ∃ t, x = V.ref t ∧ H t = some (.tup [.int (k x).1, .int (k x).2.1, .int (k x).2.2])) ∧
  ∀ ys p, SrtO.Srtd (fun x y => lex3 (k x) (k y)) ys → SrtO.Stb (fun x y => lex3 (k x) (k y)) ys xs → H p = none → Q (.ref p) (upd H p (.lst ys))
section
variable {X : Cx}
theorem vals3 {x y z : V} {its : List Value} (r : Vals [x, y, z] its) : ∃ u1 u2 u3, its = [u1, u2, u3] ∧ RelV x u1 ∧ RelV y u2 ∧ RelV z u3 := by
  cases r with
  | cons a r => cases r with
    | cons b r => cases r with
      | cons c r => cases r; exact ⟨_, _, _, rfl, a, b, c⟩
theorem cr_sorted3 : CallR X (.builtin "sorted") (rSorted3 X.K) := by
  intro pins s σ H vs us Q I r h
  obtain ⟨a, xs, k, rfl, hs, hx, q⟩ := h
  obtain ⟨its, rv, hl, hz⟩ := I.list hs
  obtain ⟨u, rfl, ru⟩ := vals1 r
  obtain rfl : u = Value.ref a := ru
  obtain ⟨e1, e2⟩ := refs_back rv fun x m => by
    obtain ⟨t, e, _⟩ := hx x m
    exact ⟨t, e⟩
  refine sorted_trips (k := fun u => k (backV u)) hl.isList (by rw [← rv.length]; exact hz) (fun v hv => ?_) fun h' d out h1 h2 kp hd hn => ?_
  · obtain ⟨t, rfl⟩ := e2 v hv
    have hm : V.ref t ∈ xs := by rw [e1]; exact List.mem_map.mpr ⟨_, hv, rfl⟩
    obtain ⟨t', e, ht⟩ := hx _ hm
    cases e
    obtain ⟨_, its2, r2, o, ho, hc, n, hd⟩ := I.hok _ _ ht
    obtain ⟨u1, u2, u3, rfl, ri, rj, rk⟩ := vals3 r2
    obtain ⟨t1, rfl⟩ := ri
    obtain ⟨t2, rfl⟩ := rj
    obtain ⟨t3, rfl⟩ := rk
    exact ⟨t, o, t1, t2, t3, n, rfl, ho, hc, hd⟩
  · have h3 : ∀ u ∈ out, ∃ a, u = Value.ref a := fun u hu => e2 u (h2.perm.mem_iff.mp hu)
    obtain ⟨n, hn⟩ := hn
    have hb : SrtO.Stb (fun x y => lex3 (k x) (k y)) (out.map backV) xs := by
      rw [e1]
      exact SrtO.Stb.map (swo3 k) backV h2
    refine ⟨.ref d, upd H d (.lst (out.map backV)), I.laid (t' := s.toks) kp hd ⟨?_, out, n, vals_back h3, hn⟩, rfl, q _ d (SrtO.srtd_map h1) hb (I.hok.fresh hd)⟩
    rw [hb.len]
    exact hz
end
/-! ### d.setdefault(k, z), k a tuple -/
section
variable {X : Cx} {pins : List (Addr × Obj)} {σ : L2.St} {H : Hp} {s : Shared} {a b : Addr} {r : Value} {d : V} {k : List Key} {A : Around} {E : Value → Shared → Prop}
theorem d_setdT {kvs : List (List Key × V)} {Q : Value → Shared → Prop} (hu : A.units + 1 < cLine) (I : Inv X pins σ H s) (e : H a = some (.dT kvs)) (eb : H b = some (.tup (k.map kV))) (rd : RelV d r) (hl : kvs.length < sizeLine)
    (h1 : ∀ v, valV kvs k = some v → ∀ (w' : Value) (s' : Shared), Inv X pins σ H s' → RelV v w' → Q w' s') (h2 : valV kvs k = none → ∀ (w' : Value) (s' : Shared), Inv X pins σ (upd H a (.dT (putK kvs k d))) s' → RelV d w' → Q w' s') :
    wpAny (model X.prog X.w) A (call (.builtin "dict.setdefault") [.ref a, .ref b, r]) Q E s := by
  obtain ⟨z, hd, xs, rel, dd⟩ := dt_of I.hok e
  have hz : xs.length ≤ sizeLine := by rw [← Paired.length rel]; exact z
  have hl2 : (putK kvs k d).length ≤ sizeLine := by have := length_putK kvs k d; omega
  refine call_setdefault_heap (hsz := hz) (tupleKind_room_in1 hu) (key_of I.hok eb) hd dd (fun p hp => ?_) fun hn h' dd' hs => ?_
  · have q := rel.val k
    rw [hp] at q
    cases q0 : valV kvs k with
    | none =>
      rw [q0] at q
      exact (show False from q).elim
    | some v0 =>
      rw [q0] at q
      exact h1 v0 q0 _ _ (I.tok _) q
  · have q := rel.val k
    rw [hn] at q
    cases q0 : valV kvs k with
    | some v0 =>
      rw [q0] at q
      exact (show False from q).elim
    | none =>
      obtain ⟨q, es, ep, hq, h2', h3, h4, _, h5⟩ := dd'
      refine h2 q0 _ _ (d_write (t' := s.toks + _) I (by rw [e]; exact True.intro) hs ⟨q, hq⟩ ⟨hl2, hd, _, (rel.put k eb rd).keeps fun c ys ec => ?_, q, es, ep, hq, h2', h3, h4, h5⟩) rd
      rw [upd_ne (ne_of ec e (fun z => nomatch z))]
      exact ec
end
def tDSetdT (td ty tx : TE) : TE := fun σ H Q => td σ H fun x H1 => ∃ a, x = .ref a ∧ IsD H1 a ∧ ty σ H1 fun y H2 => tx σ H2 fun z H3 => ∃ (kvs : List (List Key × V)) (k : List Key) (b : Addr), H3 a = some (.dT kvs) ∧ y = .ref b ∧ H3 b = some (.tup (k.map kV)) ∧ kvs.length < sizeLine ∧
  (∀ v, valV kvs k = some v → Q v H3) ∧ (valV kvs k = none → Q z (upd H3 a (.dT (putK kvs k z))))
section
variable {X : Cx} {o e f : Expr} {td ty tx : TE} {apos cpos : Pos}
theorem pe_dsetdT (hu : X.A.units + 1 < cLine) (ho : PE X o td) (he : PE X e ty) (hf : PE X f tx) (m : M2 X o "setdefault" apos e f cpos) : PE X (.Call (.Attribute o "setdefault" apos) [e, f] [] cpos) (tDSetdT td ty tx) := by
  refine ⟨fun pins s σ H Q I h => ?_⟩
  refine wpAny_Call_method m.base m.few m.line PySem.F.plainAttrs_dict PySem.F.slot_dict_setdefault PySem.F.type_dict_setdefault (thn (ho.run pins s σ H _ I h) fun u s1 ⟨x, H1, I1, rx, a, ex, d, q1⟩ => ?_)
  subst ex
  obtain rfl : u = Value.ref a := rx
  obtain ⟨t1, t2, _⟩ := isD_at I1 d
  refine ⟨t1, t2, ?_⟩
  rw [m.trees]
  refine Calls.callWith_builtin rfl (Calls.evalArgs_plain (Calls.spliced_cons (thn (he.run pins s1 σ H1 _ I1 q1) fun iv s2 ⟨y, H2, I2, ry, q2⟩ =>
    Calls.spliced_cons (thn (hf.run pins s2 σ H2 _ I2 q2) fun fv s3 ⟨z, H3, I3, rz, kvs, k, b, ea, ey, eb, hl, q3, q4⟩ => Calls.spliced_nil ?_))))
  subst ey
  obtain rfl : iv = Value.ref b := ry
  exact d_setdT hu I3 ea eb rz hl (fun v hv w' s4 I4 rw' => ⟨v, _, I4, rw', q3 v hv⟩) fun hn w' s4 I4 rw' => ⟨z, _, I4, rw', q4 hn⟩
end
/-! ### tests within a generator -/
theorem eltZ_lt_int {prog : Program} {w : World} {scope : Scope} {xa xb : Str} {U : Nat} {hb : Heap} {P : Addr} {p1 p2 p3 : Pos} (a b : Int) (hk : scope.kind = .function) (la : scope.names.lookup xa = some .local) (lb : scope.names.lookup xb = some .local)
    (da : (xa == ("__debug__" : Str)) = false := by decide) (db : (xb == ("__debug__" : Str)) = false := by decide) :
    EltZ prog w scope xa xb (.Compare (.Name xa p1) [.Lt] [.Name xb p2] p3) U hb P (.int a) (.int b) (decide (a < b)) := by
  intro cenv A' E' va vb s₂ m₂ hs _ hn hma hmb ra rb _
  obtain ⟨t, rfl⟩ := ra
  obtain ⟨u, rfl⟩ := rb
  refine wpAny_Compare1 ?_
  refine wpAny_Name (wpAny_loadName_local (by rw [hs]; exact hk) (show cenv.scope.names.lookup xa = some .local by rw [hs]; exact la) hn hma ?_) da
  refine wpAny_Name (wpAny_loadName_local (by rw [hs]; exact hk) (show cenv.scope.names.lookup xb = some .local by rw [hs]; exact lb) hn hmb ?_) db
  exact PyProof.Rows.lt_int ⟨rfl, keeps_refl _⟩
theorem lexLt3 (p q : T3) : HT.lexLt [p.1, p.2.1, p.2.2] [q.1, q.2.1, q.2.2] = lex3 p q := by
  unfold lex3
  rw [HT.lexLt_cons, HT.lexLt_cons, HT.lexLt_cons, HT.lexLt_nil_nil]
  by_cases h : p.1 = q.1
  · rw [if_pos h, if_pos h]
    by_cases h2 : p.2.1 = q.2.1
    · rw [if_pos h2, if_pos h2]
      by_cases h3 : p.2.2 = q.2.2
      · rw [if_pos h3, h3]
        exact (decide_eq_false (Int.lt_irrefl _)).symm
      · rw [if_neg h3]
    · rw [if_neg h2, if_neg h2]
  · rw [if_neg h, if_neg h]
theorem eltZ_lt_trip {X : Cx} {pins : List (Addr × Obj)} {σ : L2.St} {H1 : Hp} {s : Shared} {scope : Scope} {xa xb : Str} {U : Nat} {P : Addr} {p1 p2 p3 : Pos} (I : Inv X pins σ H1 s) (hP : TabG H1 P) (hU : U < cLine) {t u : Addr} {p q : T3}
    (ht : H1 t = some (.tup [.int p.1, .int p.2.1, .int p.2.2])) (hu : H1 u = some (.tup [.int q.1, .int q.2.1, .int q.2.2])) (hk : scope.kind = .function) (la : scope.names.lookup xa = some .local) (lb : scope.names.lookup xb = some .local)
    (da : (xa == ("__debug__" : Str)) = false := by decide) (db : (xb == ("__debug__" : Str)) = false := by decide) :
    EltZ X.prog X.w scope xa xb (.Compare (.Name xa p1) [.Lt] [.Name xb p2] p3) U s.heap P (.ref t) (.ref u) (lex3 p q) := by
  intro cenv A' E' va vb s₂ m₂ hs hA hn hma hmb ra rb hkp
  cases ra
  cases rb
  obtain ⟨ps, hP, _⟩ := hP
  have nP : ∀ {b : Addr} {xs : List V}, H1 b = some (.tup xs) → b ≠ P := fun e z => by rw [z, hP] at e; cases e
  have tup : ∀ {b : Addr} {p : T3}, H1 b = some (.tup [.int p.1, .int p.2.1, .int p.2.2]) → ∃ its : Array Value, IsTup s₂.heap b its ∧ IntsAre its.toList [p.1, p.2.1, p.2.2] := fun {b p} e => by
    obtain ⟨_, its2, r2, o, ho, hc, n, hd⟩ := I.hok _ _ e
    obtain ⟨u1, u2, u3, rfl, ri, rj, rk⟩ := vals3 r2
    obtain ⟨t1, rfl⟩ := ri
    obtain ⟨t2, rfl⟩ := rj
    obtain ⟨t3, rfl⟩ := rk
    exact ⟨_, ⟨o, hkp b o (nP e) ho, hc, n, hd⟩, .cons _ _ (.cons _ _ (.cons _ _ .nil))⟩
  obtain ⟨its, T1, i1⟩ := tup ht
  obtain ⟨its2, T2, i2⟩ := tup hu
  refine wpAny_Compare1 ?_
  refine wpAny_Name (wpAny_loadName_local (by rw [hs]; exact hk) (show cenv.scope.names.lookup xa = some .local by rw [hs]; exact la) hn hma ?_) da
  refine wpAny_Name (wpAny_loadName_local (by rw [hs]; exact hk) (show cenv.scope.names.lookup xb = some .local by rw [hs]; exact lb) hn hmb ?_) db
  refine HT.lt_tupInts T1 T2 i1 i2 (Nat.lt_of_le_of_lt hA hU) ?_
  rw [lexLt3]
  exact ⟨rfl, keeps_refl _⟩
end Fw

/-! What a class of worlds asks of numbers, rows and steps: pure mathematics. -/
namespace Fw
def asc {α : Type} (lt : α → α → Bool) : List α → Bool
  | [] => true
  | [_] => true
  | x :: y :: l => lt x y && asc lt (y :: l)
def adj {α : Type} (lt : α → α → Bool) (l : List α) : List Bool := (l.zip l.tail).map fun p => lt p.1 p.2
theorem adj_len {α : Type} (lt : α → α → Bool) (l : List α) : (adj lt l).length = min l.length l.tail.length := by
  unfold adj
  rw [List.length_map, List.length_zip]
theorem adj_get {α : Type} {lt : α → α → Bool} {l : List α} {i : Nat} {r : Bool} (h : (adj lt l)[i]? = some r) : ∃ x y, l[i]? = some x ∧ l.tail[i]? = some y ∧ r = lt x y := by
  unfold adj at h
  rw [List.getElem?_map] at h
  cases e : (l.zip l.tail)[i]? with
  | none => rw [e] at h; cases h
  | some p =>
    rw [e] at h
    have := List.getElem?_zip_eq_some.mp e
    exact ⟨p.1, p.2, this.1, this.2, (Option.some.inj h).symm⟩
theorem adj_asc {α : Type} (lt : α → α → Bool) : ∀ l : List α, (adj lt l).all id = asc lt l
  | [] => rfl
  | [_] => rfl
  | x :: y :: l => by
    have ih := adj_asc lt (y :: l)
    show (id (lt x y) && (adj lt (y :: l)).all id) = (lt x y && asc lt (y :: l))
    rw [ih]
    rfl
theorem asc_pair {α : Type} {lt : α → α → Bool} (tr : ∀ x y z, lt x y = true → lt y z = true → lt x z = true) : ∀ {l : List α}, asc lt l = true ↔ l.Pairwise fun x y => lt x y = true
  | [] => ⟨fun _ => .nil, fun _ => rfl⟩
  | [x] => ⟨fun _ => List.pairwise_singleton _ _, fun _ => rfl⟩
  | x :: y :: l => by
    have ih := asc_pair tr (l := y :: l)
    unfold asc
    rw [Bool.and_eq_true, ih, List.pairwise_cons (a := x)]
    constructor
    · rintro ⟨h1, h2⟩
      refine ⟨fun z hz => ?_, h2⟩
      rcases List.mem_cons.mp hz with rfl | hz
      · exact h1
      · exact tr _ _ _ h1 ((List.pairwise_cons.mp h2).1 z hz)
    · rintro ⟨h1, h2⟩
      exact ⟨h1 y List.mem_cons_self, h2⟩
def ltI (x y : Int) : Bool := decide (x < y)
theorem ltI_tr (x y z : Int) (h1 : ltI x y = true) (h2 : ltI y z = true) : ltI x z = true := by
  unfold ltI at *
  rw [decide_eq_true_eq] at *
  omega
theorem lex3_tr (x y z : T3) (h1 : lex3 x y = true) (h2 : lex3 y z = true) : lex3 x z = true := by
  rw [lex3_iff] at *
  unfold Lt3 at *
  omega
theorem lex3_irr (x : T3) : lex3 x x = false := by
  rw [lex3_no]
  unfold Lt3
  omega
theorem lex3_anti {x y : T3} (h1 : lex3 x y = false) (h2 : lex3 y x = false) : x = y := by
  rw [lex3_no] at *
  unfold Lt3 at *
  obtain ⟨a, b, c⟩ := x
  obtain ⟨a', b', c'⟩ := y
  simp only at *
  have : a = a' ∧ b = b' ∧ c = c' := by omega
  obtain ⟨rfl, rfl, rfl⟩ := this
  rfl
theorem lex3_as {x y : T3} (h : lex3 x y = true) : lex3 y x = false := by
  rw [lex3_no]
  rw [lex3_iff] at h
  unfold Lt3 at *
  omega
/-- one order alone of the same triples, none twice -/
theorem sorted_one : ∀ {a b : List T3}, (a.Pairwise fun x y => lex3 y x = false) → (b.Pairwise fun x y => lex3 x y = true) → a.Perm b → a = b
  | [], b, _, _, h => (List.Perm.nil_eq h)
  | x :: a, [], _, _, h => by have := h.length_eq; cases this
  | x :: a, y :: b, ha, hb, h => by
    have ha' := List.pairwise_cons.mp ha
    have hb' := List.pairwise_cons.mp hb
    have e : x = y := by
      rcases List.mem_cons.mp (h.mem_iff.mp List.mem_cons_self) with q | q
      · exact q
      · rcases List.mem_cons.mp (h.mem_iff.mpr (List.mem_cons_self (a := y) (l := b))) with r | r
        · exact r.symm
        · exact lex3_anti (lex3_as (hb'.1 x q) |> fun z => by
            have z1 := ha'.1 y r
            have z2 := hb'.1 x q
            rw [z1] at z2
            cases z2) (ha'.1 y r)
    subst e
    rw [sorted_one ha'.2 hb'.2 h.cons_inv]
def okNums (l f : Int) : Bool := (decide (1 ≤ l) && decide (l ≤ 3)) && (decide (0 ≤ f) && decide (f ≤ 6))
def okRow (f : Int) (X : List Int) : Bool := X.all (fun x => decide (0 ≤ x) && decide (x ≤ f - 1)) && asc ltI X
def okRows (f : Int) (Xs : List (List Int)) : Bool := (decide (1 ≤ (Xs.length : Int)) && decide ((Xs.length : Int) ≤ 400)) && Xs.all (okRow f)
def okStep (l : Int) (n : Nat) (p : T3) : Bool := (decide (0 ≤ p.2.1) && decide (p.2.1 ≤ l - 1)) && ((decide (0 ≤ p.1) && decide (p.1 ≤ (n : Int) - 1)) && (decide (0 ≤ p.2.2) && decide (p.2.2 ≤ (n : Int) - 1)))
def okSteps (l : Int) (n : Nat) (ss : List T3) : Bool := ss.all (okStep l n) && asc lex3 ss
/-- the ends of the steps from s with l -/
def begS (ss : List T3) (s l : Int) : List Int := (ss.filter fun p => decide (p.1 = s) && decide (p.2.1 = l)).map fun p => p.2.2
theorem begS_snoc (ps : List T3) (p : T3) (s l : Int) : begS (ps ++ [p]) s l = begS ps s l ++ (if (decide (p.1 = s) && decide (p.2.1 = l)) = true then [p.2.2] else []) := by
  unfold begS
  rw [List.filter_append, List.map_append]
  congr 1
  cases c : decide (p.1 = s) && decide (p.2.1 = l)
  · simp [c]
  · simp [c]
theorem beh_begS (W : Wd) (s l : Int) : W.beh s l = begS W.steps s l := rfl
/-- in order they ascend -/
theorem begS_up {ss : List T3} (h : ss.Pairwise fun x y => lex3 x y = true) (s l : Int) : (begS ss s l).Pairwise (· < ·) := by
  unfold begS
  rw [List.pairwise_map]
  have h2 := List.Pairwise.sublist (List.filter_sublist (p := fun p : T3 => decide (p.1 = s) && decide (p.2.1 = l)) (l := ss)) h
  refine h2.imp_of_mem fun {a b} ha hb hab => ?_
  have pa := (List.mem_filter.mp ha).2
  have pb := (List.mem_filter.mp hb).2
  rw [Bool.and_eq_true, decide_eq_true_eq, decide_eq_true_eq] at pa pb
  rw [lex3_iff] at hab
  unfold Lt3 at hab
  omega
end Fw

set_option maxRecDepth 100000
set_option maxHeartbeats 4000000
namespace Fw
open PySem PySem.Spec PyProof.Rows L2 GxR
/-! ### a class whose making may raise -/
def HasCX (P : Program) (w : World) (K : PySem.W.Frag) (mg : Str → Option Value) (base : Heap) (x : Str) (C : Addr) (k : Nat) (ps : List Str) (sp : Sp) : Prop :=
  ∃ f fd, mg x = some (.ref C) ∧ Mk K C f ∧ Binds K fd ps [] ∧ FnOk P w K mg base (L2.CX P w) k f fd ps sp
def tMakeS (C : Addr) (sp : Sp) (E : L2.St → XK) (t : TA) : TE := fun σ H Q => t σ H fun vs H1 => ∀ x dx, H1 x = none → H1 dx = none → dx ≠ x →
  sp (.ref x :: vs) (upd (upd H1 dx (.own x)) x (.ins C dx [])) (fun v H2 => v = .non ∧ Q (.ref x) H2) (E σ)
theorem run_makeS {X : Cx} {CX : CXT} {k : Nat} {f C : Addr} {fd : FuncData} {ps : List Str} {sp : Sp} {E : XK} {pins : List (Addr × Obj)} {σ : L2.St} {H : Hp} {s : Shared} {Q : VK} {us : List Value} {vs : List V} (M : Mk X.K C f) (F : FnOk X.prog X.w X.K X.mg X.base CX k f fd ps sp) (hr : Room (k + 1) X.A) (hb : Binds X.K fd ps [])
    (hx : PassesAt CX X σ E) (I : Inv X pins σ H s) (r : Vals vs us)
    (h : ∀ x dx, H x = none → H dx = none → dx ≠ x → sp (.ref x :: vs) (upd (upd H dx (.own x)) x (.ins C dx [])) (fun v H2 => v = .non ∧ Q (.ref x) H2) E) :
    wpAny (model X.prog X.w) X.A (call (.ref C) us) (EP X pins σ Q) X.xe s := by
  have hq := h (s.heap.objs.size + 1) s.heap.objs.size (I.hok.fresh (Nat.le_succ _)) (I.hok.fresh (Nat.le_refl _)) (Nat.ne_of_lt (Nat.lt_succ_self _))
  have I2 := Inv.made (C := C) I
  have r2 : Vals (V.ref (s.heap.objs.size + 1) :: vs) (Value.ref (s.heap.objs.size + 1) :: us) := .cons rfl r
  have hl : (Value.ref (s.heap.objs.size + 1) :: us ++ []).length = ps.length := by
    have e := r2.length
    rw [F.len _ _ _ _ hq] at e
    rw [List.append_nil]
    exact e.symm
  have b := hb _ (Value.ref (s.heap.objs.size + 1) :: us) I2.kIn hl
  rw [List.append_nil] at b
  refine wpAny_call (make_map (f := f) I.kIn M.makes M.init (beq_iff_eq.mp M.fn) (codeAny_mono (F.run _ X.stack _ _ ⟨Value.ref (s.heap.objs.size + 1) :: us, []⟩ (Value.ref (s.heap.objs.size + 1) :: us) _ _ E (hr.make C us [])
    (I2.env0.make C us []) b r2 hq) fun r s' hq' => ?_))
  cases r with
  | error e => exact hx pins _ _ e s' I2 hq'
  | ok fl =>
    cases fl with
    | ret u =>
      obtain ⟨v, H', I3, rv, ev, q3⟩ := I2.after hq'
      subst ev
      exact ⟨rv, ⟨V.ref (s.heap.objs.size + 1), H', I3, rfl, q3⟩⟩
    | next => exact False.elim hq'
    | brk => exact False.elim hq'
    | cont => exact False.elim hq'
theorem pe_makeX {X : Cx} {W : WX} {x : Str} {C : Addr} {k : Nat} {ps : List Str} {sp : Sp} {e : Expr} {es : List Expr} {t : TA} {p pos : Pos} (h : HasCX X.prog X.w X.K X.mg X.base x C k ps sp) (hr : Room (k + 1) X.A) (tk : Takes X W) (ha : PA X (e :: es) t) (hg : Gl X x := by rfl)
    (hdb : (x == ("__debug__" : Str)) = false := by decide) (he : starEach (e :: es) X.env = (false, eval e X.env) :: starEach es X.env := by rfl) (hpl : (backTo pos (starEach es X.env)).any (·.1) = false := by rfl) :
    PE X (.Call (.Name x p) (e :: es) [] pos) (tMakeS C sp (WE W) t) := by
  obtain ⟨f, fd, m, M, b, G⟩ := h
  refine ⟨fun pins s σ H Q I h => ?_⟩
  refine wpAny_Call_Name_kw (ld_glob I hg m ?_ hdb)
  refine PySem.W.callWith_K (h₀ := X.base) I.ok.mod.kin M.kp (thn (ha.run pos pins s σ H _ I h) fun us s1 ⟨vs, H1, I1, r, q⟩ => ⟨I1.kIn, ?_⟩) he hpl
  exact run_makeS M G hr b (passAt tk σ) I1 r q
/-! ### a def whose code object is told -/
structure FunC (K : PySem.W.Frag) (x qual : Str) (st : Stmt) (f : Addr) (fd : FuncData) (c : Addr) : Prop where
  ex : ∃ (oc : Value) (od : Option Addr) (kV doc pm : Value) (an : Option Addr) (ct : Value) (osl : Array (Option Value)),
    fd = PySem.W.fnOf x qual (defArgs st) (defBody st) (defScope st) .none kV doc pm an (.ref c) ct ∧ K.lookup f = some ⟨oc, od, .func fd, osl⟩ ∧ PySem.W.codeIn K (.ref c) qual = true
theorem FunC.ok {P : Program} {w : World} {K : PySem.W.Frag} {mg : Str → Option Value} {base : Heap} {x qual : Str} {st : Stmt} {f c : Addr} {fd : FuncData} {N ps : List Str} {k : Nat} {sp : Sp} (F : FunC K x qual st f fd c) (S : FnScope N ps (defScope st)) (len : ∀ vs H Q E, sp vs H Q E → vs.length = ps.length)
    (hbody : ∀ (A : Around) (outer : List Env) (s : Shared) (H : Hp) (vs : List V) (Q : VK) (E : XK), Room k (A.deeper (envOfC qual (defScope st) s.heap.objs.size f (.ref c))) → sp vs H Q E →
      ∃ t, PSs (cxOf CX0 P w K mg base N qual (defScope st) f (.ref c) A outer s H E).nox (defBody st) t ∧ t { nx := fun _ H' => Q .non H', rt := Q } (start N vs) H) : FnOk P w K mg base CX0 (k + 1) f fd ps sp := by
  obtain ⟨oc, od, kV, doc, pm, an, ct, osl, rfl, lk, hcd⟩ := F.ex
  refine fn_of lk hcd S len fun A outer s H vs Q E hr hsp => ?_
  obtain ⟨t, h, q⟩ := hbody A outer s H vs Q E hr hsp
  exact ⟨t, h.nox, q⟩
/-- what stood is kept but for the table at P -/
def Tb (P : Addr) (H H' : Hp) : Prop := But P H H' ∧ TabG H' P
theorem Tb.refl {P : Addr} {H : Hp} (h : TabG H P) : Tb P H H := ⟨But.refl P H, h⟩
theorem Tb.trans {P : Addr} {H H1 H2 : Hp} (a : Tb P H H1) (b : Tb P H1 H2) : Tb P H H2 := ⟨a.1.trans b.1, b.2⟩
theorem _root_.GxR.TabG.same {P : Addr} {H H' : Hp} (s : Same H H') (h : TabG H P) : TabG H' P := by
  obtain ⟨ps, e, t⟩ := h
  exact ⟨ps, s _ _ e, t⟩
theorem Tb.same {P : Addr} {H H' : Hp} (s : Same H H') (h : TabG H P) : Tb P H H' := ⟨Same.but s, h.same s⟩
theorem _root_.GxR.TabG.ne {P b : Addr} {H : Hp} {o : HO} (h : TabG H P) (e : H b = some o) (n : ∀ ps, o ≠ .tbl ps) : b ≠ P := by
  obtain ⟨ps, q, _⟩ := h
  rintro rfl
  rw [e] at q
  exact n _ (Option.some.inj q)
theorem SqT.tb {K : PySem.W.Frag} {P : Addr} {H H' : Hp} {a : Addr} {xs : List V} (g : TabG H P) (t : Tb P H H') (h : SqT K H a xs) : SqT K H' a xs := by
  rcases h with h | h
  · rcases h with h | ⟨u, h⟩
    · exact .inl (.inl (t.1 _ _ (g.ne h (by intro _ z; cases z)) h))
    · exact .inl (.inr ⟨u, t.1 _ _ (g.ne h (by intro _ z; cases z)) h⟩)
  · exact .inr h
theorem tabbed_tb {P : Addr} {H H' : Hp} (h : Tabbed P H H') : Tb P H H' := ⟨fun b o n e => by rw [h.2 b n]; exact e, h.1⟩
/-- what it has written of the errors -/
structure TxtEW (K : PySem.W.Frag) (mg : Str → Option Value) (NC : Addr) : Prop where
  gC : mg "InvalidWorld" = some (.ref NC)
  xC : PySem.W.excIn K NC [.type "ValueError", .type "Exception", .type "BaseException", .type "object"] "ValueError.__new__" = true
  kC : PySem.W.keepIn K (.ref NC) = true
  bC : PySem.W.subIn K (.ref NC) (.type "BaseException") = some true
  tC : PySem.W.typeIn K (.ref NC) = some (.type "type")
  eC : PySem.W.exmOne K (.ref NC) (.ref NC) = some true
structure TxtL (mg : Str → Option Value) (t1 t2 t3 : Tok) : Prop where
  m_MOST_LABELS : mg "MOST_LABELS" = some (.int 3 t1)
  m_MOST_FACTS : mg "MOST_FACTS" = some (.int 6 t2)
  m_MOST_STATES : mg "MOST_STATES" = some (.int 400 t3)
section
variable {P : Program} {w : World} {K : PySem.W.Frag} {mg : Str → Option Value} {base : Heap} {C J B NC WC cA tA : Addr} {t1 t2 t3 : Tok}
def spNum : Sp := fun vs H Q _ => ∃ n lo hi : Int, vs = [.int n, .int lo, .int hi] ∧ Q (.bl (decide (lo ≤ n) && decide (n ≤ hi))) H
theorem ok_is_number {f : Addr} {fd : FuncData} (FF : Fun K "is_number" "is_number" s_is_number f fd) (T : Txt K mg C J B) : FnOk P w K mg base CX0 1 f fd a_is_number spNum := by
  refine FF.ok sc_is_number (fun vs H Q E h => ?_) (fun cdv A outer s H vs Q E hr h => ?_)
  · obtain ⟨n, lo, hi, rfl, _⟩ := h
    rfl
  · obtain ⟨n, lo, hi, rfl, k⟩ := h
    refine ⟨_, (pss_one (ps_ret (pe_and (pe_callB call_isi rfl T.z_isinstance (by decide +kernel) (pa_cons (pv 0) (pa_cons (pe_bltn (v := .ty "int") (u := .type "int") rfl T.z_int (by decide +kernel) rfl) pa_nil))) (pe_and (pe_not (pe_callB call_isi rfl T.z_isinstance (by decide +kernel) (pa_cons (pv 0) (pa_cons (pe_bltn (v := .ty "bool") (u := .type "bool") rfl T.z_bool (by decide +kernel) rfl) pa_nil)))) (pe_one (pe_chain op_le op_le (pv 1) (pv 0) (pv 2))))))), ?_⟩
    refine ⟨.int n, rfl, .int n, .ty "int", .type "int", .type "int", true, rfl, .ty "int", .base (.int n), kit_ty (by decide +kernel), true, rfl, iteT ?_⟩
    refine ⟨.int n, rfl, .int n, .ty "bool", .type "int", .type "bool", false, rfl, .ty "bool", .base (.int n), kit_ty (by decide +kernel), false, rfl, true, rfl, iteT ?_⟩
    refine ⟨.int lo, rfl, .int n, rfl, lo, n, rfl, rfl, _, rfl, ?_⟩
    by_cases c : lo ≤ n
    · refine (if_pos (decide_eq_true c)).mpr ⟨.int hi, rfl, n, hi, rfl, rfl, ?_⟩
      rw [decide_eq_true c, Bool.true_and] at k
      exact k
    · refine (if_neg (by rw [decide_eq_false c]; exact Bool.false_ne_true)).mpr ?_
      rw [decide_eq_false c, Bool.false_and] at k
      exact k
end
end Fw

set_option maxRecDepth 100000
set_option maxHeartbeats 4000000
namespace Fw
open PySem PySem.Spec PyProof.Rows L2
def FAt (H : Hp) (as : List Addr) (Xs : List (List Int)) : Prop := as.length = Xs.length ∧ ∀ (i : Nat) (a : Addr) (X : List Int), as[i]? = some a → Xs[i]? = some X → IL H a X
def PAt (H : Hp) (as : List Addr) (ps : List (Int × Int × Int)) : Prop := as.length = ps.length ∧ ∀ (i : Nat) (a : Addr) (p : Int × Int × Int), as[i]? = some a → ps[i]? = some p → H a = some (.tup [.int p.1, .int p.2.1, .int p.2.2])
structure WAx (H : Hp) (wa sa pa : Addr) (fas pas : List Addr) (W : Wd) : Prop where
  w : H wa = some (.tup [.ref sa, .ref pa])
  s : H sa = some (.lst (fas.map V.ref))
  p : H pa = some (.lst (pas.map V.ref))
  f : FAt H fas W.facts
  t : PAt H pas W.steps
def WAt (H : Hp) (v : V) (W : Wd) : Prop := ∃ (wa sa pa : Addr) (fas pas : List Addr), v = .ref wa ∧ WAx H wa sa pa fas pas W
theorem WAx.same {H H' : Hp} {wa sa pa : Addr} {fas pas : List Addr} {W : Wd} (z : Same H H') (h : WAx H wa sa pa fas pas W) : WAx H' wa sa pa fas pas W :=
  ⟨z _ _ h.w, z _ _ h.s, z _ _ h.p, ⟨h.f.1, fun i a X e1 e2 => z _ _ (h.f.2 i a X e1 e2)⟩, ⟨h.t.1, fun i a X e1 e2 => z _ _ (h.t.2 i a X e1 e2)⟩⟩
theorem WAt.same {H H' : Hp} {v : V} {W : Wd} (z : Same H H') (h : WAt H v W) : WAt H' v W := by
  obtain ⟨wa, sa, pa, fas, pas, e, x⟩ := h
  exact ⟨wa, sa, pa, fas, pas, e, x.same z⟩
/-- the world's size fits -/
structure Wd.Fit (W : Wd) : Prop where
  good : W.Good
  one : 1 ≤ W.n
  n8 : W.n ≤ 8
  st : W.steps.length ≤ 200
  fc : ∀ X ∈ W.facts, X.length ≤ 8
theorem FAt.nil (H : Hp) : FAt H [] [] := ⟨rfl, fun i a X e _ => by cases e⟩
theorem PAt.nil (H : Hp) : PAt H [] [] := ⟨rfl, fun i a X e _ => by cases e⟩
theorem FAt.map {H H' : Hp} {as : List Addr} {Xs : List (List Int)} (h : FAt H as Xs) (z : ∀ a o, a ∈ as → H a = some o → H' a = some o) : FAt H' as Xs :=
  ⟨h.1, fun i a X e1 e2 => z _ _ (List.mem_of_getElem? e1) (h.2 i a X e1 e2)⟩
theorem PAt.map {H H' : Hp} {as : List Addr} {Xs : List (Int × Int × Int)} (h : PAt H as Xs) (z : ∀ a o, a ∈ as → H a = some o → H' a = some o) : PAt H' as Xs :=
  ⟨h.1, fun i a X e1 e2 => z _ _ (List.mem_of_getElem? e1) (h.2 i a X e1 e2)⟩
theorem get_snoc {α : Type} {l : List α} {x : α} {i : Nat} {y : α} (h : (l ++ [x])[i]? = some y) : l[i]? = some y ∨ (i = l.length ∧ x = y) := by
  by_cases lt : i < l.length
  · rw [List.getElem?_append_left lt] at h
    exact .inl h
  · have e : i = l.length := by
      have := (List.getElem?_eq_some_iff.mp h).1
      rw [List.length_append, List.length_singleton] at this
      omega
    subst e
    rw [List.getElem?_append_right (Nat.le_refl _), Nat.sub_self] at h
    exact .inr ⟨rfl, Option.some.inj h⟩
theorem get_len {α : Type} {l : List α} {i : Nat} {y : α} (h : l[i]? = some y) : i < l.length := (List.getElem?_eq_some_iff.mp h).1
theorem FAt.snoc {H : Hp} {as : List Addr} {Xs : List (List Int)} {a : Addr} {X : List Int} (h : FAt H as Xs) (z : IL H a X) : FAt H (as ++ [a]) (Xs ++ [X]) :=
  ⟨by rw [List.length_append, List.length_append, h.1]; rfl, fun i b Y e1 e2 => by
    rcases get_snoc e1 with e1' | ⟨q, rfl⟩
    · rcases get_snoc e2 with e2' | ⟨q, rfl⟩
      · exact h.2 i b Y e1' e2'
      · have := get_len e1'; rw [h.1] at this; omega
    · rcases get_snoc e2 with e2' | ⟨q2, rfl⟩
      · have := get_len e2'; rw [← h.1] at this; omega
      · exact z⟩
theorem PAt.snoc {H : Hp} {as : List Addr} {Xs : List (Int × Int × Int)} {a : Addr} {p : Int × Int × Int} (h : PAt H as Xs) (z : H a = some (.tup [.int p.1, .int p.2.1, .int p.2.2])) : PAt H (as ++ [a]) (Xs ++ [p]) :=
  ⟨by rw [List.length_append, List.length_append, h.1]; rfl, fun i b Y e1 e2 => by
    rcases get_snoc e1 with e1' | ⟨q, rfl⟩
    · rcases get_snoc e2 with e2' | ⟨q, rfl⟩
      · exact h.2 i b Y e1' e2'
      · have := get_len e1'; rw [h.1] at this; omega
    · rcases get_snoc e2 with e2' | ⟨q2, rfl⟩
      · have := get_len e2'; rw [← h.1] at this; omega
      · exact z⟩
section
variable {P : Program} {w : World} {K : PySem.W.Frag} {mg : Str → Option Value} {base : Heap} {C J B NC FE OD : Addr}
def RowUp (f : Int) (X : List Int) : Prop := X.Pairwise (· < ·) ∧ ∀ x ∈ X, 0 ≤ x ∧ x < f
def StUp (n : Nat) (q p : T3) : Prop := 0 ≤ p.1 ∧ p.1 < (n : Int) ∧ 0 ≤ p.2.1 ∧ p.2.1 < 2 ∧ 0 ≤ p.2.2 ∧ p.2.2 < (n : Int) ∧ lex3 p q = true
theorem StUp.up {n : Nat} {q q' p : T3} (h : StUp n q p) (z : Lt3 p q → Lt3 p q') : StUp n q' p := by
  obtain ⟨a, b, c, d, e, f, g⟩ := h
  exact ⟨a, b, c, d, e, f, lex3_iff.mpr (z (lex3_iff.mp g))⟩
/-- its rows ascend, and its steps -/
structure Wd.Up (W : Wd) (f : Int) : Prop where
  rows : ∀ X ∈ W.facts, RowUp f X
  steps : W.steps.Pairwise fun x y => lex3 x y = true
  in_ : ∀ p ∈ W.steps, StUp W.n (W.n, 0, 0) p
def spWorld : Sp := fun vs H Q _ => ∃ (d : Addr) (mo fc : Int), vs = [.ref d, .int mo, .int fc] ∧ Draws H d ∧ 1 ≤ mo ∧ mo ≤ 8 ∧ 0 ≤ fc ∧ fc ≤ 8 ∧
  ∀ (wa sa pa : Addr) (fas pas : List Addr) W H', But d H H' → Draws H' d → WAx H' wa sa pa fas pas W → sa ≠ d → pa ≠ d → (∀ a ∈ fas, a ≠ d) → W.Fit → W.Up fc → (W.n : Int) ≤ mo → Q (.ref wa) H'
theorem ok_law_world {f : Addr} {fd : FuncData} (FF : Fun K "_law_world" "_law_world" s_law_world f fd) (T : Txt K mg C J B) (h_law_take : Has P w K mg base "_law_take" 1 a_law_take spTake) : FnOk P w K mg base CX0 2 f fd a_law_world spWorld := by
  refine FF.ok sc_law_world (fun vs H Q E h => ?_) (fun cdv A outer s H vs Q E hr h => ?_)
  · obtain ⟨d, mo, fc, rfl, _⟩ := h
    rfl
  · obtain ⟨d, mo, fc, rfl, hd, m1, m8, f0, f8, k⟩ := h
    refine ⟨_, (pss_cons (ps_set (i := 3) sc_law_world.nd rfl (.inl rfl) (pe_op op_add pe_int (pe_callH h_law_take (hr.mono (by omega)) (pa_cons (pv 0) (pa_cons (pv 1) pa_nil)))))
      (pss_cons (ps_setLc (i := 5) (own := [("state", 4)]) (g := gName 4) rfl sc_law_world.nd rfl rfl (sw_true rfl rfl rfl (by decide +kernel)) (pi_range1 rfl T.z_range (pa_cons (pv 3) pa_nil)) (blkOk_by (own := [("state", 4)]) (N := n_law_world) (sc := defScope s_law_world) (by decide +kernel)) (fun _ _ _ _ _ => (pg_name (i := 4) sc_law_world.nd rfl (.inl rfl))) (fun _ _ _ _ _ => pts_nil) (fun _ _ _ _ _ => (pe_lc (own := [("fact", 9)]) (g := gName 9) rfl sc_law_world.nd (pi_range1 rfl T.z_range (pa_cons (pv 2) pa_nil)) (blkOk_by (own := [("fact", 9)]) (N := n_law_world) (sc := { kind := PySem.ScopeKind.function, names := [ (PySem.Str.ofString ".0", PySem.NameKind.local), (PySem.Str.ofString "state", PySem.NameKind.local), (PySem.Str.ofString "range", PySem.NameKind.globalImplicit), (PySem.Str.ofString "draws", PySem.NameKind.cell), (PySem.Str.ofString "facts", PySem.NameKind.cell)], isGenerator := false, isCoroutine := false, more := [] : PySem.Scope }) (by decide +kernel)) (fun _ _ _ _ _ => (pg_name (i := 9) sc_law_world.nd rfl (.inl rfl))) (fun _ _ _ _ _ => (pts_one (pt_cmpR op_eq (pe_callH h_law_take (hr.mono (by omega)) (pa_cons (pv 0) (pa_cons pe_int pa_nil))) pe_int (nomark _)))) (fun _ _ _ _ _ => (pv 9)))))
      (pss_cons (ps_set (i := 6) sc_law_world.nd rfl (.inl rfl) (pe_lst pa_nil))
      (pss_cons (ps_for PassesOwn.never rfl (pi_range1 rfl T.z_range (pa_cons (pv 3) pa_nil)) (pg_name (i := 4) sc_law_world.nd rfl (.inl rfl)) (pss_one (ps_for PassesOwn.never rfl (pi_range1 rfl T.z_range (pa_cons pe_int pa_nil)) (pg_name (i := 7) sc_law_world.nd rfl (.inl rfl)) (pss_one (ps_for PassesOwn.never rfl (pi_range1 rfl T.z_range (pa_cons (pv 3) pa_nil)) (pg_name (i := 8) sc_law_world.nd rfl (.inl rfl)) (pss_one (ps_if (pt_cmpR op_lt (pe_callH h_law_take (hr.mono (by omega)) (pa_cons (pv 0) (pa_cons (pe_op op_add pe_int (pv 3)) pa_nil))) pe_int (nomark _)) (pss_one (ps_expr (pe_bm PySem.F.plainAttrs_list PySem.F.slot_list_append PySem.F.type_list_append mt_append (pv 6) (pa_cons (pe_tup (pa_cons (pv 4) (pa_cons (pv 7) (pa_cons (pv 8) pa_nil)))) pa_nil)))) pss_nil)))))))
      (pss_one (ps_ret (pe_tup (pa_cons (pv 5) (pa_cons (pv 6) pa_nil))))))))), ?_⟩
    refine ⟨.ref d, rfl, .int mo, rfl, d, mo, rfl, hd, by omega, fun v1 H1 v10 v1m b1 d1 => ⟨1, v1, rfl, rfl, ?_⟩⟩
    obtain ⟨n, hn⟩ : ∃ n : Nat, 1 + v1 = (n : Int) := ⟨(1 + v1).toNat, by omega⟩
    show gName 3 (V.int (1 + v1)) _ _ _
    rw [hn]
    have n1 : 1 ≤ n := by omega
    have n8 : n ≤ 8 := by omega
    refine ⟨.int (n : Nat), rfl, (n : Nat), rfl, by omega, by omega, fun D hD => ?_⟩
    have dD : D ≠ d := d1.ne hD
    refine lc_range (lo := 0) (n := ((n : Int)).toNat) (fun i G => But d H1 G ∧ Draws G d ∧ ∃ (fas : List Addr) (Xs : List (List Int)), G D = some (.lst (fas.map V.ref)) ∧ fas.length = i ∧ FAt G fas Xs ∧ (∀ a ∈ fas, a ≠ d ∧ a ≠ D) ∧ ∀ X ∈ Xs, X.length ≤ 8 ∧ RowUp fc X)
      ⟨Same.but (Same.new hD), d1.same (Same.new hD), [], [], upd_same, rfl, FAt.nil _, fun a h => (by cases h), fun X h => (by cases h)⟩ ?_ ?_
    · rintro i G hi ⟨bG, dG, fas, Xs, gD, li, fa, ne, x8⟩
      rw [Int.toNat_natCast] at hi
      refine ⟨rfl, ?_⟩
      refine ⟨.int fc, rfl, fc, rfl, by omega, by omega, fun D2 hD2 => ?_⟩
      have dD2 : D2 ≠ d := dG.ne hD2
      have dDD : D2 ≠ D := fun e => by rw [e, gD] at hD2; cases hD2
      refine lc_range (lo := 0) (n := fc.toNat) (fun j G2 => But d G G2 ∧ Draws G2 d ∧ ∃ X : List Int, IL G2 D2 X ∧ X.length ≤ j ∧ RowUp j X)
        ⟨Same.but (Same.new hD2), dG.same (Same.new hD2), [], upd_same, Nat.le_refl 0, List.Pairwise.nil, fun x hx => (by cases hx)⟩ ?_ ?_
      · rintro j G2 hj ⟨bG2, dG2, X, gD2, lX, rX⟩
        refine ⟨rfl, ?_⟩
        refine ⟨.ref d, rfl, d, 2, rfl, dG2, by decide, fun v2 H2 v20 v22 b2 d2 => ⟨rfl, _, rfl, ?_⟩⟩
        have gD2' := b2 _ _ dD2 gD2
        refine ite2 (fun c => ?_) (fun c => ?_)
        · refine ⟨_, rfl, _, gD2', by rw [List.length_map]; exact small1000 (by omega), fun b o nb e => ?_, ?_, X ++ [0 + (j : Int)], ?_, by rw [List.length_append]; exact Nat.succ_le_succ lX, ?_⟩
          · rw [upd_ne (ne_of_none e hD2)]
            exact b2 _ _ nb (bG2 _ _ nb e)
          · obtain ⟨ds, e⟩ := d2
            exact ⟨ds, by rw [upd_ne dD2.symm]; exact e⟩
          · show _ = _
            rw [upd_same, List.map_append]
            rfl
          · refine ⟨List.pairwise_append.mpr ⟨rX.1, List.pairwise_singleton _ _, fun a ha b hb => ?_⟩, fun x hx => ?_⟩
            · rw [List.mem_singleton.mp hb]
              have := (rX.2 a ha).2
              omega
            · rcases List.mem_append.mp hx with hx | hx
              · have := rX.2 x hx
                omega
              · rw [List.mem_singleton.mp hx]
                omega
        · exact ⟨bG2.trans b2, d2, X, gD2', Nat.le_succ_of_le lX, rX.1, fun x hx => by have := rX.2 x hx; omega⟩
      · rintro G2 ⟨bG2, dG2, X, gD2, lX, rX⟩
        have gD' := bG2 _ _ dD gD
        refine ⟨_, gD', by rw [List.length_map]; exact small1000 (by omega), fun b o nb e => ?_, ?_, fas ++ [D2], Xs ++ [X], by rw [upd_same, List.map_append]; rfl, by rw [List.length_append, li]; rfl, FAt.snoc (fa.map fun a o ha e => ?_) ?_, fun a ha => ?_, fun Y hY => ?_⟩
        · rw [upd_ne (ne_of_none e hD)]
          exact bG2 _ _ nb (bG _ _ nb e)
        · obtain ⟨ds, e⟩ := dG2
          exact ⟨ds, by rw [upd_ne dD.symm]; exact e⟩
        · rw [upd_ne (ne a ha).2]
          exact bG2 _ _ (ne a ha).1 e
        · show _ = _
          rw [upd_ne dDD]
          exact gD2
        · rcases List.mem_append.mp ha with ha | ha
          · exact ne a ha
          · rw [List.mem_singleton.mp ha]
            exact ⟨dD2, dDD⟩
        · rcases List.mem_append.mp hY with hY | hY
          · exact x8 Y hY
          · rw [List.mem_singleton.mp hY]
            refine ⟨by omega, rX.1, fun x hx => ?_⟩
            have := rX.2 x hx
            omega
    · rintro G0 ⟨bG0, dG0, fas, Xs, gD, li, fa, ne, x8⟩
      rw [Int.toNat_natCast] at li
      refine ⟨Nat.zero_le _, fun L hL => ?_⟩
      have s2 := Same.new (o := .lst []) hL
      have dL : L ≠ d := dG0.ne hL
      have bH := bG0.trans (Same.but s2)
      refine ⟨.int (n : Nat), rfl, (n : Nat), rfl, by omega, by omega, ?_⟩
      refine for_range (lo := 0) (n := ((n : Int)).toNat) (fun i σ G => ∃ (y4 y7 y8 y9 : Option V) (pas : List Addr) (ps : List (Int × Int × Int)), σ = [some (.ref d), some (.int mo), some (.int fc), some (.int (n : Nat)), y4, some (.ref D), some (.ref L), y7, y8, y9] ∧
          But d G0 G ∧ Draws G d ∧ G L = some (.lst (pas.map V.ref)) ∧ PAt G pas ps ∧ (∀ a ∈ pas, a ≠ d ∧ a ≠ L) ∧ ps.length ≤ i * 16 ∧ ps.Pairwise (fun x y => lex3 x y = true) ∧ ∀ p ∈ ps, StUp n ((i : Int), 0, 0) p)
        ⟨_, _, _, _, [], [], rfl, Same.but s2, dG0.same s2, upd_same, PAt.nil _, fun a h => (by cases h), Nat.zero_le _, List.Pairwise.nil, fun p h => (by cases h)⟩ ?_ ?_
      · rintro i σ G hi ⟨y4, y7, y8, y9, pas, ps, rfl, bG, dG, gL, pAt, ne2, pl, pw, pg⟩
        rw [Int.toNat_natCast] at hi
        refine ⟨2, rfl, by omega, by omega, ?_⟩
        refine for_range (lo := 0) (n := 2) (fun j σ G => ∃ (y7 y8 y9 : Option V) (pas : List Addr) (ps : List (Int × Int × Int)), σ = [some (.ref d), some (.int mo), some (.int fc), some (.int (n : Nat)), some (.int (0 + (i : Int))), some (.ref D), some (.ref L), y7, y8, y9] ∧
            But d G0 G ∧ Draws G d ∧ G L = some (.lst (pas.map V.ref)) ∧ PAt G pas ps ∧ (∀ a ∈ pas, a ≠ d ∧ a ≠ L) ∧ ps.length ≤ i * 16 + j * 8 ∧ ps.Pairwise (fun x y => lex3 x y = true) ∧ ∀ p ∈ ps, StUp n ((i : Int), (j : Int), 0) p)
          ⟨_, _, _, pas, ps, rfl, bG, dG, gL, pAt, ne2, pl, pw, pg⟩ ?_ ?_
        · clear bG dG gL pAt ne2 pl pw pg
          rintro j σ G hj ⟨y7, y8, y9, pas, ps, rfl, bG, dG, gL, pAt, ne2, pl, pw, pg⟩
          refine ⟨.int (n : Nat), rfl, (n : Nat), rfl, by omega, by omega, ?_⟩
          refine for_range (lo := 0) (n := ((n : Int)).toNat) (fun o σ G => ∃ (y8 y9 : Option V) (pas : List Addr) (ps : List (Int × Int × Int)), σ = [some (.ref d), some (.int mo), some (.int fc), some (.int (n : Nat)), some (.int (0 + (i : Int))), some (.ref D), some (.ref L), some (.int (0 + (j : Int))), y8, y9] ∧
              But d G0 G ∧ Draws G d ∧ G L = some (.lst (pas.map V.ref)) ∧ PAt G pas ps ∧ (∀ a ∈ pas, a ≠ d ∧ a ≠ L) ∧ ps.length ≤ i * 16 + j * 8 + o ∧ ps.Pairwise (fun x y => lex3 x y = true) ∧ ∀ p ∈ ps, StUp n ((i : Int), (j : Int), (o : Int)) p)
            ⟨_, _, pas, ps, rfl, bG, dG, gL, pAt, ne2, pl, pw, pg⟩ ?_ ?_
          · clear bG dG gL pAt ne2 pl pw pg
            rintro o σ G ho ⟨y8, y9, pas, ps, rfl, bG, dG, gL, pAt, ne2, pl, pw, pg⟩
            rw [Int.toNat_natCast] at ho
            refine ⟨.ref d, rfl, .int (n : Nat), rfl, 2, _, rfl, rfl, d, _, rfl, dG, by omega, fun v3 H3 v30 v3m b3 d3 => ⟨_, _, rfl, rfl, _, rfl, ?_⟩⟩
            have gL3 := b3 _ _ dL gL
            refine ite2 (fun c => ?_) (fun c => ?_)
            · refine ⟨.ref L, rfl, .inl ⟨rfl, _, SqL.of gL3⟩, _, rfl, _, rfl, _, rfl, by show 3 ≤ sizeLine; decide, fun p hp => ?_⟩
              have s4 := Same.new (o := .tup [.int (0 + (i : Int)), .int (0 + (j : Int)), .int (0 + (o : Int))]) hp
              have gL4 := s4 _ _ gL3
              have pd : p ≠ d := d3.ne hp
              have pL : p ≠ L := fun e => by rw [e, gL3] at hp; cases hp
              refine ⟨L, _, _, rfl, rfl, gL4, by rw [List.length_map, pAt.1]; exact small1000 (by omega), ?_⟩
              refine ⟨_, _, pas ++ [p], ps ++ [(0 + (i : Int), 0 + (j : Int), 0 + (o : Int))], rfl, fun b u nb e => ?_, ?_, by rw [upd_same, List.map_append]; rfl, PAt.snoc (pAt.map fun a u ha e => ?_) ?_, fun a ha => ?_, by rw [List.length_append, List.length_singleton]; omega, ?_, fun q hq => ?_⟩
              · rw [upd_ne (ne_of_none e hL)]
                exact s4 _ _ (b3 _ _ nb (bG _ _ nb e))
              · obtain ⟨ds, e⟩ := d3.same s4
                exact ⟨ds, by rw [upd_ne dL.symm]; exact e⟩
              · rw [upd_ne (ne2 a ha).2]
                exact s4 _ _ (b3 _ _ (ne2 a ha).1 e)
              · rw [upd_ne pL]
                exact upd_same
              · rcases List.mem_append.mp ha with ha | ha
                · exact ne2 a ha
                · rw [List.mem_singleton.mp ha]
                  exact ⟨pd, pL⟩
              · refine List.pairwise_append.mpr ⟨pw, List.pairwise_singleton _ _, fun a ha b hb => ?_⟩
                rw [List.mem_singleton.mp hb, Int.zero_add, Int.zero_add, Int.zero_add]
                exact (pg a ha).2.2.2.2.2.2
              · rcases List.mem_append.mp hq with hq | hq
                · exact (pg q hq).up fun z => by unfold Lt3 at *; simp only at *; omega
                · rw [List.mem_singleton.mp hq, Int.zero_add, Int.zero_add, Int.zero_add]
                  refine ⟨by simp only; omega, by simp only; omega, by simp only; omega, by simp only; omega, by simp only; omega, by simp only; omega, lex3_iff.mpr ?_⟩
                  exact .inr ⟨rfl, .inr ⟨rfl, by show (o : Int) < ((o + 1 : Nat) : Int); omega⟩⟩
            · exact ⟨_, _, pas, ps, rfl, bG.trans b3, d3, gL3, pAt.map fun a u ha e => b3 _ _ (ne2 a ha).1 e, ne2, by omega, pw, fun q hq => (pg q hq).up fun z => by unfold Lt3 at *; simp only at *; omega⟩
          · rintro σ G ⟨y8, y9, pas, ps, rfl, bG, dG, gL, pAt, ne2, pl, pw, pg⟩
            rw [Int.toNat_natCast] at pl pg
            exact ⟨_, _, _, pas, ps, rfl, bG, dG, gL, pAt, ne2, by omega, pw, fun q hq => (pg q hq).up fun z => by unfold Lt3 at *; simp only at *; omega⟩
        · rintro σ G ⟨y7, y8, y9, pas, ps, rfl, bG, dG, gL, pAt, ne2, pl, pw, pg⟩
          exact ⟨_, _, _, _, pas, ps, rfl, bG, dG, gL, pAt, ne2, by omega, pw, fun q hq => (pg q hq).up fun z => by have := (pg q hq).2.2.2.1; unfold Lt3 at *; simp only at *; omega⟩
      · rintro σ G ⟨y4, y7, y8, y9, pas, ps, rfl, bG, dG, gL, pAt, ne2, pl, pw, pg⟩
        rw [Int.toNat_natCast] at pl pg
        refine ⟨_, rfl, _, rfl, by show 2 ≤ sizeLine; decide, fun p hp => ?_⟩
        have s5 := Same.new (o := .tup [.ref D, .ref L]) hp
        have eL : Xs.length = n := by rw [← fa.1]; exact li
        refine k p D L fas pas ⟨Xs, ps⟩ _ (b1.trans ((bG0.trans bG).trans (Same.but s5))) (dG.same s5) ⟨upd_same, s5 _ _ (bG _ _ dD gD), s5 _ _ gL, fa.map fun a u ha e => s5 _ _ (bG _ _ (ne a ha).1 e), pAt.map fun a u _ e => s5 _ _ e⟩ dD dL (fun a ha => (ne a ha).1) ⟨?_, ?_, ?_, ?_, fun X hX => (x8 X hX).1⟩ ⟨fun X hX => (x8 X hX).2, pw, fun q hq => ?_⟩ (by show ((Xs.length : Nat) : Int) ≤ mo; omega)
        · intro q hq
          show 0 ≤ q.2.2 ∧ q.2.2 < ((Xs.length : Nat) : Int)
          rw [eL]
          have := pg q hq
          exact ⟨this.2.2.2.2.1, this.2.2.2.2.2.1⟩
        · show 1 ≤ Xs.length
          omega
        · show Xs.length ≤ 8
          omega
        · show ps.length ≤ 200
          omega
        · show StUp Xs.length (((Xs.length : Nat) : Int), 0, 0) q
          rw [eL]
          exact pg q hq
/-! ### where the steps lead -/
/-- lists or tuples -/
abbrev Sq (K : PySem.W.Frag) (H : Hp) (a : Addr) (xs : List V) : Prop := SqL K H a xs ∨ SqT K H a xs
theorem Sq.same {K : PySem.W.Frag} {H H' : Hp} {a : Addr} {xs : List V} (z : Same H H') (h : Sq K H a xs) : Sq K H' a xs := h.imp (SqL.keepAt fun o e => z a o e) (SqT.same z)
structure WSx (K : PySem.W.Frag) (H : Hp) (wa sa pa : Addr) (fas pas : List Addr) (W : Wd) : Prop where
  w : H wa = some (.tup [.ref sa, .ref pa])
  s : Sq K H sa (fas.map V.ref)
  p : Sq K H pa (pas.map V.ref)
  f : fas.length = W.facts.length ∧ ∀ (i : Nat) (a : Addr) (X : List Int), fas[i]? = some a → W.facts[i]? = some X → Sq K H a (X.map V.int)
  t : PAt H pas W.steps
def WSt (K : PySem.W.Frag) (H : Hp) (v : V) (W : Wd) : Prop := ∃ (wa sa pa : Addr) (fas pas : List Addr), v = .ref wa ∧ WSx K H wa sa pa fas pas W
theorem WSx.same {K : PySem.W.Frag} {H H' : Hp} {wa sa pa : Addr} {fas pas : List Addr} {W : Wd} (z : Same H H') (h : WSx K H wa sa pa fas pas W) : WSx K H' wa sa pa fas pas W :=
  ⟨z _ _ h.w, h.s.same z, h.p.same z, ⟨h.f.1, fun i a X e1 e2 => (h.f.2 i a X e1 e2).same z⟩, ⟨h.t.1, fun i a X e1 e2 => z _ _ (h.t.2 i a X e1 e2)⟩⟩
theorem WSt.same {K : PySem.W.Frag} {H H' : Hp} {v : V} {W : Wd} (z : Same H H') (h : WSt K H v W) : WSt K H' v W := by
  obtain ⟨wa, sa, pa, fas, pas, e, x⟩ := h
  exact ⟨wa, sa, pa, fas, pas, e, x.same z⟩
theorem WAx.gen {K : PySem.W.Frag} {H : Hp} {wa sa pa : Addr} {fas pas : List Addr} {W : Wd} (h : WAx H wa sa pa fas pas W) : WSx K H wa sa pa fas pas W :=
  ⟨h.w, .inl (SqL.of h.s), .inl (SqL.of h.p), ⟨h.f.1, fun i a X e1 e2 => .inl (SqL.of (h.f.2 i a X e1 e2))⟩, h.t⟩
/-- the size of a world that is walked -/
structure Wd.Fix (W : Wd) : Prop where
  n16 : W.n ≤ 16
  st : W.steps.length ≤ 400
theorem pe_alt {X : Cx} {e : Expr} {t1 t2 : TE} (h1 : PE X e t1) (h2 : PE X e t2) : PE X e (fun σ H Q => t1 σ H Q ∨ t2 σ H Q) :=
  ⟨fun pins s σ H Q I h => h.elim (h1.run pins s σ H Q I) (h2.run pins s σ H Q I)⟩
def spBehind (K : PySem.W.Frag) : Sp := fun vs H Q _ => ∃ (v : V) (W : Wd) (s l : Int), vs = [v, .int s, .int l] ∧ WSt K H v W ∧ W.steps.length ≤ 400 ∧
  ∀ (b : Addr) H', Same H H' → H b = none → IL H' b (W.beh s l) → Q (.ref b) H'
theorem beh_snoc (ps : List (Int × Int × Int)) (p : Int × Int × Int) (s l : Int) :
    ((ps ++ [p]).filter fun p => decide (p.1 = s) && decide (p.2.1 = l)).map (fun p => p.2.2) = (ps.filter fun p => decide (p.1 = s) && decide (p.2.1 = l)).map (fun p => p.2.2) ++ (if (decide (p.1 = s) && decide (p.2.1 = l)) = true then [p.2.2] else []) := by
  rw [List.filter_append, List.map_append]
  congr 1
  cases c : decide (p.1 = s) && decide (p.2.1 = l)
  · simp [c]
  · simp [c]
theorem ok_law_behind {f : Addr} {fd : FuncData} (FF : Fun K "_law_behind" "_law_behind" s_law_behind f fd) (T : Txt K mg C J B) : FnOk P w K mg base CX0 1 f fd a_law_behind (spBehind K) := by
  refine FF.ok sc_law_behind (fun vs H Q E h => ?_) (fun cdv A outer s H vs Q E hr h => ?_)
  · obtain ⟨v, W, s, l, rfl, _⟩ := h
    rfl
  · obtain ⟨v, W, x, l, rfl, hW, hs, k⟩ := h
    refine ⟨_, (pss_one (ps_ret (pe_alt (pe_lc (own := [("step", 3)]) (g := gName 3) rfl sc_law_behind.nd (pi_list (pe_ix ix_tup (pv 0) pe_int (fun _ _ => rfl))) (blkOk_by (own := [("step", 3)]) (N := n_law_behind) (sc := defScope s_law_behind) (by decide +kernel)) (fun _ _ _ _ _ => (pg_name (i := 3) sc_law_behind.nd rfl (.inl rfl))) (fun _ _ _ _ _ => (pts_one (PW.pt (pw_and (pt_cmpR op_eq (pe_ix (@id (IxR _ (rIxT K)) ix_tup) (pv 3) pe_int (fun _ _ => rfl)) (pv 1) (nomark _)) (pw_and1 (pt_cmpR op_eq (pe_ix (@id (IxR _ (rIxT K)) ix_tup) (pv 3) pe_int (fun _ _ => rfl)) (pv 2) (nomark _))))))) (fun _ _ _ _ _ => (pe_ix (@id (IxR _ (rIxT K)) ix_tup) (pv 3) pe_int (fun _ _ => rfl)))) (pe_lc (own := [("step", 3)]) (g := gName 3) rfl sc_law_behind.nd (pi_tup (pe_ix ix_tup (pv 0) pe_int (fun _ _ => rfl))) (blkOk_by (own := [("step", 3)]) (N := n_law_behind) (sc := defScope s_law_behind) (by decide +kernel)) (fun _ _ _ _ _ => (pg_name (i := 3) sc_law_behind.nd rfl (.inl rfl))) (fun _ _ _ _ _ => (pts_one (PW.pt (pw_and (pt_cmpR op_eq (pe_ix (@id (IxR _ (rIxT K)) ix_tup) (pv 3) pe_int (fun _ _ => rfl)) (pv 1) (nomark _)) (pw_and1 (pt_cmpR op_eq (pe_ix (@id (IxR _ (rIxT K)) ix_tup) (pv 3) pe_int (fun _ _ => rfl)) (pv 2) (nomark _))))))) (fun _ _ _ _ _ => (pe_ix (@id (IxR _ (rIxT K)) ix_tup) (pv 3) pe_int (fun _ _ => rfl))))))), ?_⟩
    obtain ⟨wa, sa, pa, fas, pas, rfl, X⟩ := hW
    rcases X.p with hp | hp
    · refine .inl ⟨.ref wa, rfl, wa, _, _, .ref pa, rfl, rfl, SqT.of X.w, rfl, pa, rfl, ⟨_, hp⟩, fun D hD => ?_⟩
      refine lc_list (xs := pas.map V.ref) (fun i G => Same H G ∧ IL G D (((W.steps.take i).filter fun p => decide (p.1 = x) && decide (p.2.1 = l)).map fun p => p.2.2)) ⟨Same.new hD, upd_same⟩ (fun i G _ q => SqL.keepAt (fun o e => q.1 _ o e) hp) ?_ ?_
      · rintro i y G hy ⟨sG, gD⟩
        have XG := X.same sG
        obtain ⟨a, ha, rfl⟩ : ∃ a, pas[i]? = some a ∧ V.ref a = y := by
          rw [List.getElem?_map] at hy
          cases e : pas[i]? with
          | none => rw [e] at hy; cases hy
          | some a => rw [e] at hy; exact ⟨a, rfl, Option.some.inj hy⟩
        have il : i < W.steps.length := by rw [← X.t.1]; exact get_len ha
        obtain ⟨p, hp⟩ : ∃ p, W.steps[i]? = some p := ⟨W.steps[i], by simp [il]⟩
        have at_ := XG.t.2 i a p ha hp
        have nx : (W.steps.take (i + 1)) = W.steps.take i ++ [p] := by rw [List.take_add_one, hp]; rfl
        have sz : (((W.steps.take i).filter fun p => decide (p.1 = x) && decide (p.2.1 = l)).map fun p => p.2.2).length ≤ 400 := by
          rw [List.length_map]
          refine Nat.le_trans (List.length_filter_le _ _) ?_
          rw [List.length_take]
          omega
        rw [nx, beh_snoc]
        refine ⟨rfl, ?_⟩
        refine ⟨.ref a, rfl, a, _, _, _, rfl, rfl, SqT.of at_, rfl, .int x, rfl, rfl, _, rfl, ?_⟩
        by_cases c1 : p.1 = x
        · refine (if_pos (decide_eq_true (congrArg V.int c1))).mpr ?_
          refine ⟨.ref a, rfl, a, _, _, _, rfl, rfl, SqT.of at_, rfl, .int l, rfl, rfl, _, rfl, ?_⟩
          by_cases c2 : p.2.1 = l
          · refine (if_pos (decide_eq_true (congrArg V.int c2))).mpr ?_
            refine ⟨.ref a, rfl, a, _, _, _, rfl, rfl, SqT.of at_, rfl, _, gD, by rw [List.length_map]; exact small1000 (by omega), fun b o e => by rw [upd_ne (ne_of_none e hD)]; exact sG b o e, ?_⟩
            show _ = _
            rw [upd_same, decide_eq_true c1, decide_eq_true c2, List.map_append]
            rfl
          · refine (if_neg (by rw [decide_eq_false (fun e : V.int p.2.1 = V.int l => c2 (by injection e))]; exact Bool.false_ne_true)).mpr ?_
            refine ⟨sG, ?_⟩
            rw [decide_eq_false c2, Bool.and_false, if_neg Bool.false_ne_true, List.append_nil]
            exact gD
        · refine (if_neg (by rw [decide_eq_false (fun e : V.int p.1 = V.int x => c1 (by injection e))]; exact Bool.false_ne_true)).mpr ?_
          refine ⟨sG, ?_⟩
          rw [decide_eq_false c1, Bool.false_and, if_neg Bool.false_ne_true, List.append_nil]
          exact gD
      · rintro G ⟨sG, gD⟩
        rw [List.length_map, X.t.1, List.take_length] at gD
        exact k D G sG hD gD
    · refine .inr ⟨.ref wa, rfl, wa, _, _, .ref pa, rfl, rfl, SqT.of X.w, rfl, pa, rfl, ⟨_, hp⟩, fun D hD => ?_⟩
      refine lc_tup (xs := pas.map V.ref) (fun i G => Same H G ∧ IL G D (((W.steps.take i).filter fun p => decide (p.1 = x) && decide (p.2.1 = l)).map fun p => p.2.2)) ⟨Same.new hD, upd_same⟩ (fun i G _ q => SqT.same q.1 hp) ?_ ?_
      · rintro i y G hy ⟨sG, gD⟩
        have XG := X.same sG
        obtain ⟨a, ha, rfl⟩ : ∃ a, pas[i]? = some a ∧ V.ref a = y := by
          rw [List.getElem?_map] at hy
          cases e : pas[i]? with
          | none => rw [e] at hy; cases hy
          | some a => rw [e] at hy; exact ⟨a, rfl, Option.some.inj hy⟩
        have il : i < W.steps.length := by rw [← X.t.1]; exact get_len ha
        obtain ⟨p, hp⟩ : ∃ p, W.steps[i]? = some p := ⟨W.steps[i], by simp [il]⟩
        have at_ := XG.t.2 i a p ha hp
        have nx : (W.steps.take (i + 1)) = W.steps.take i ++ [p] := by rw [List.take_add_one, hp]; rfl
        have sz : (((W.steps.take i).filter fun p => decide (p.1 = x) && decide (p.2.1 = l)).map fun p => p.2.2).length ≤ 400 := by
          rw [List.length_map]
          refine Nat.le_trans (List.length_filter_le _ _) ?_
          rw [List.length_take]
          omega
        rw [nx, beh_snoc]
        refine ⟨rfl, ?_⟩
        refine ⟨.ref a, rfl, a, _, _, _, rfl, rfl, SqT.of at_, rfl, .int x, rfl, rfl, _, rfl, ?_⟩
        by_cases c1 : p.1 = x
        · refine (if_pos (decide_eq_true (congrArg V.int c1))).mpr ?_
          refine ⟨.ref a, rfl, a, _, _, _, rfl, rfl, SqT.of at_, rfl, .int l, rfl, rfl, _, rfl, ?_⟩
          by_cases c2 : p.2.1 = l
          · refine (if_pos (decide_eq_true (congrArg V.int c2))).mpr ?_
            refine ⟨.ref a, rfl, a, _, _, _, rfl, rfl, SqT.of at_, rfl, _, gD, by rw [List.length_map]; exact small1000 (by omega), fun b o e => by rw [upd_ne (ne_of_none e hD)]; exact sG b o e, ?_⟩
            show _ = _
            rw [upd_same, decide_eq_true c1, decide_eq_true c2, List.map_append]
            rfl
          · refine (if_neg (by rw [decide_eq_false (fun e : V.int p.2.1 = V.int l => c2 (by injection e))]; exact Bool.false_ne_true)).mpr ?_
            refine ⟨sG, ?_⟩
            rw [decide_eq_false c2, Bool.and_false, if_neg Bool.false_ne_true, List.append_nil]
            exact gD
        · refine (if_neg (by rw [decide_eq_false (fun e : V.int p.1 = V.int x => c1 (by injection e))]; exact Bool.false_ne_true)).mpr ?_
          refine ⟨sG, ?_⟩
          rw [decide_eq_false c1, Bool.false_and, if_neg Bool.false_ne_true, List.append_nil]
          exact gD
      · rintro G ⟨sG, gD⟩
        rw [List.length_map, X.t.1, List.take_length] at gD
        exact k D G sG hD gD
end
end Fw

set_option maxRecDepth 100000
set_option maxHeartbeats 8000000
namespace Fw
open PySem PySem.Spec PyProof.Rows L2
abbrev rLenS (K : PySem.W.Frag) : List V → Hp → VK → Prop := fun xs H Q => ∃ p ys, xs = [.ref p] ∧ (SqL K H p ys ∨ SqT K H p ys) ∧ Q (.int ys.length) H
theorem nd_putW {kvs : List (Key × V)} {k : Key} {v : V} (h : (kvs.map (·.1)).Nodup) : ((putK kvs k v).map (·.1)).Nodup := by
  cases e : valV kvs k with
  | none => exact nd_putK v h e
  | some u =>
    have : (putK kvs k v).map (·.1) = kvs.map (·.1) := by
      unfold putK
      rw [valV_any, e]
      simp only [Option.isSome_some, if_true, List.map_map]
      refine List.map_congr_left fun x _ => ?_
      simp only [Function.comp]
      split <;> rfl
    rw [this]
    exact h
theorem valV_atW : ∀ {kvs : List (Key × V)} {i : Nat} {k : Key} {v : V}, (kvs.map (·.1)).Nodup → kvs[i]? = some (k, v) → valV kvs k = some v ∧ valV (kvs.take i) k = none
  | [], i, k, v, _, h => by simp at h
  | p :: r, 0, k, v, _, h => by
    cases h
    exact ⟨valV_pos rfl, rfl⟩
  | p :: r, i + 1, k, v, nd, h => by
    have nd' := List.nodup_cons.mp (show (p.1 :: r.map (·.1)).Nodup from nd)
    have ih := valV_atW nd'.2 (show r[i]? = some (k, v) from h)
    have ne : ¬ p.1 = k := fun e => nd'.1 (by rw [e]; exact List.mem_map.mpr ⟨(k, v), List.mem_of_getElem? (show r[i]? = some (k, v) from h), rfl⟩)
    exact ⟨by rw [valV_neg ne]; exact ih.1, by rw [List.take_succ_cons, valV_neg ne]; exact ih.2⟩
theorem rgV_rng (n : Nat) : rgV 0 (n : Int) = (rng n).map V.int := by
  unfold rgV rng
  rw [Int.sub_zero, Int.toNat_natCast, List.map_map]
  refine List.map_congr_left fun i _ => ?_
  show V.int (0 + (i : Int)) = V.int (i : Int)
  rw [Int.zero_add]
theorem kF {a b : Str} {A B : Prop} (n : a ≠ b) (h : B) : if decide (V.str a = V.str b) = true then A else B :=
  (if_neg (by rw [decide_eq_false (fun e : V.str a = V.str b => n (by injection e))]; exact Bool.false_ne_true)).mpr h
theorem kT {a : Str} {A B : Prop} (h : A) : if decide (V.str a = V.str a) = true then A else B := (if_pos (decide_eq_true rfl)).mpr h
/-- a list of those items of a list of numbers that a test takes -/
theorem lc_fil {K : PySem.W.Frag} {la : Addr} {X : List Int} {g : TG} {tt : TT} {te : TE} {vs : List Nat} {σ : L2.St} {H0 : Hp} {D : Addr} {Qd : Hp → Prop} (p : Int → Bool)
    (hl : IL H0 la X) (hD : H0 D = none) (hX : X.length ≤ 400)
    (hs : ∀ x ∈ X, ∀ (G : Hp) (Y : VK) (N : Hp → Prop), Same H0 G → (p x = true → ∀ G', Same G G' → Y (.int x) G') → (p x = false → ∀ G', Same G G' → N G') →
      g (.int x) (wipe σ vs) G fun σ2 H2 => wipe σ2 vs = wipe σ vs ∧ tt σ2 H2 fun b H3 => if b = true then te σ2 H3 Y else N H3)
    (hd : ∀ G, Same H0 G → IL G D (X.filter p) → Qd G) :
    ∃ Wm : Nat → Nat → Hp → Prop, (∃ k, Wm 0 k (upd H0 D (.lst []))) ∧ ∀ i k G, Wm i k G →
      ((Itl K la).stop i G ∧ Qd G) ∨
      ((Itl K la).go i G ∧ ∃ Nn : Hp → Prop, (∀ G', Nn G' → ∃ k', k' < k ∧ Wm (i + 1) k' G') ∧ ∀ x G', (Itl K la).yld i G x G' →
        g x (wipe σ vs) G' fun σ2 G2 => wipe σ2 vs = wipe σ vs ∧ tt σ2 G2 fun b G3 =>
          if b = true then te σ2 G3 fun y G4 => ∃ ys, G4 D = some (.lst ys) ∧ ys.length < sizeLine ∧ Nn (upd G4 D (.lst (ys ++ [y])))
          else Nn G3) := by
  refine lc_list (xs := X.map V.int) (fun i G => Same H0 G ∧ IL G D ((X.take i).filter p)) ⟨Same.new hD, upd_same⟩ (fun i G _ q => SqL.of (q.1 _ _ hl)) ?_ ?_
  · rintro i y G hy ⟨sG, gD⟩
    obtain ⟨x, hx, rfl⟩ : ∃ x, X[i]? = some x ∧ V.int x = y := by
      rw [List.getElem?_map] at hy
      cases e : X[i]? with
      | none => rw [e] at hy; cases hy
      | some x => rw [e] at hy; exact ⟨x, rfl, Option.some.inj hy⟩
    have nx : X.take (i + 1) = X.take i ++ [x] := by rw [List.take_add_one, hx]; rfl
    have sz : ((X.take i).filter p).length ≤ 400 := by
      refine Nat.le_trans (List.length_filter_le _ _) ?_
      rw [List.length_take]
      omega
    refine hs x (List.mem_of_getElem? hx) G _ _ sG (fun c G' s' => ⟨_, s' _ _ gD, by rw [List.length_map]; exact small1000 (by omega), fun b o e => by rw [upd_ne (ne_of_none e hD)]; exact s' _ _ (sG b o e), ?_⟩) (fun c G' s' => ⟨sG.trans s', ?_⟩)
    · show _ = _
      rw [upd_same, nx, List.filter_append, List.map_append, List.filter_cons_of_pos c]
      rfl
    · rw [nx, List.filter_append, List.filter_cons_of_neg (by rw [c]; exact Bool.false_ne_true)]
      rw [show List.filter p [] = [] from rfl, List.append_nil]
      exact s' _ _ gD
  · rintro G ⟨sG, gD⟩
    rw [List.length_map, List.take_length] at gD
    exact hd G sG gD
theorem ix_sq {K : PySem.W.Frag} {H : Hp} {a : Addr} {xs : List V} {j : Int} {v : V} {Q : VK} (h : Sq K H a xs) (e : atI xs j = some v) (q : Q v H) : rIx K (.ref a) (.int j) H Q :=
  h.elim (fun h => .inl ⟨a, xs, j, v, rfl, rfl, h, e, q⟩) (fun h => .inr (.inl ⟨a, xs, j, v, rfl, rfl, h, e, q⟩))
def spVal (K : PySem.W.Frag) : Nat → Sp
  | 0 => fun _ _ _ _ => False
  | n + 1 => fun vs H Q _ => ∃ (v sv : V) (W : Wd) (t : F) (na : Addr) (kvs : List (Key × V)) (e : Int → List Int), vs = [v, sv, .ref na] ∧ WSt K H v W ∧ W.Fix ∧ IsF K H sv t ∧ t.depth ≤ n + 1 ∧ H na = some (.dK kvs) ∧ kvs.length + n ≤ 100 ∧ (kvs.map (·.1)).Nodup ∧
      (∀ x ∈ fv t, ∃ a, valV kvs (Sum.inl x) = some (.ref a) ∧ IL H a (e x)) ∧
      ∀ (a : Addr) H', Same H H' → IL H' a (val W t e) → Q (.ref a) H'
section
variable {P : Program} {w : World} {K : PySem.W.Frag} {mg : Str → Option Value} {base : Heap} {C J B NC FE OD : Addr}
theorem ok_law_value {f : Addr} {fd : FuncData} (n : Nat) (FF : Fun K "_law_value" "_law_value" s_law_value f fd) (T : Txt K mg C J B) (h_law_behind : Has P w K mg base "_law_behind" 1 a_law_behind (spBehind K))
    (h_law_value : Has P w K mg base "_law_value" (n + 2) a_law_value (spVal K n)) : FnOk P w K mg base CX0 (n + 3) f fd a_law_value (spVal K (n + 1)) := by
  refine FF.ok sc_law_value (fun vs H Q E h => ?_) (fun cdv A outer s H vs Q E hr h => ?_)
  · obtain ⟨v, sv, W, t, na, kvs, e, rfl, _⟩ := h
    rfl
  · obtain ⟨v, sv, W, t, na, kvs, e, rfl, hW, fit, ht, hdep, hN, hkl, hnd, henv, k⟩ := h
    have hu := hu_of hr
    refine ⟨_, (pss_cons (ps_set (i := 3) sc_law_value.nd rfl (.inl rfl) (pe_listRg rfl rfl T.z_list (prg_1 rfl T.z_range (pe_callB call_len_seq rfl T.z_len (by decide +kernel) (pa_cons (pe_ix ix_tup (pv 0) pe_int (fun _ _ => rfl)) pa_nil)))))
      (pss_cons (ps_set (i := 4) sc_law_value.nd rfl (.inl rfl) (pe_ix ix_tup (pv 1) pe_int (fun _ _ => rfl)))
      (pss_cons (ps_if (pt_cmpR op_eq (pv 4) pe_str (nomark _)) (pss_one (ps_ret (pv 3))) pss_nil)
      (pss_cons (ps_if (pt_cmpR op_eq (pv 4) pe_str (nomark _)) (pss_one (ps_ret (pe_lst pa_nil))) pss_nil)
      (pss_cons (ps_if (pt_cmpR op_eq (pv 4) pe_str (nomark _)) (pss_one (ps_ret (pe_lc (own := [("state", 11)]) (g := gName 11) rfl sc_law_value.nd (pi_list (pv 3)) (blkOk_by (own := [("state", 11)]) (N := n_law_value) (sc := defScope s_law_value) (by decide +kernel)) (fun _ _ _ _ _ => (pg_name (i := 11) sc_law_value.nd rfl (.inl rfl))) (fun _ _ _ _ _ => (pts_one (pt_cmpR (@id (OpR _ _ (rIn K false)) op_in_seq) (pe_ix (@id (IxR _ (rIxT K)) ix_tup) (pv 1) pe_int (fun _ _ => rfl)) (pe_ix (@id (IxR _ (rIx K)) ix_seq) (pe_ix (@id (IxR _ (rIxT K)) ix_tup) (pv 0) pe_int (fun _ _ => rfl)) (pv 11) (fun _ _ => rfl)) (by rfl)))) (fun _ _ _ _ _ => (pv 11))))) pss_nil)
      (pss_cons (ps_if (pt_cmpR op_eq (pv 4) pe_str (nomark _)) (pss_one (ps_ret (pe_lc (own := [("state", 11)]) (g := gName 11) rfl sc_law_value.nd (pi_list (pv 3)) (blkOk_by (own := [("state", 11)]) (N := n_law_value) (sc := defScope s_law_value) (by decide +kernel)) (fun _ _ _ _ _ => (pg_name (i := 11) sc_law_value.nd rfl (.inl rfl))) (fun _ _ _ _ _ => (pts_one (pt_cmpR (@id (OpR _ _ (rIn K true)) op_notIn_seq) (pe_ix (@id (IxR _ (rIxT K)) ix_tup) (pv 1) pe_int (fun _ _ => rfl)) (pe_ix (@id (IxR _ (rIx K)) ix_seq) (pe_ix (@id (IxR _ (rIxT K)) ix_tup) (pv 0) pe_int (fun _ _ => rfl)) (pv 11) (fun _ _ => rfl)) (by rfl)))) (fun _ _ _ _ _ => (pv 11))))) pss_nil)
      (pss_cons (ps_if (pt_cmpR op_eq (pv 4) pe_str (nomark _)) (pss_one (ps_ret (pe_dget hu (pv 2) (pe_ix ix_tup (pv 1) pe_int (fun _ _ => rfl)) (fun _ _ => rfl)))) pss_nil)
      (pss_cons (ps_if (pt_cmpR op_in_seq (pv 4) (pe_tup (pa_cons pe_str (pa_cons pe_str pa_nil))) (by rfl)) (pss_cons (ps_set (i := 5) sc_law_value.nd rfl (.inl rfl) (pe_lst pa_nil))
      (pss_cons (ps_if (pt_cmpR op_eq (pv 4) pe_str (nomark _)) (pss_one (ps_set (i := 5) sc_law_value.nd rfl (.inl rfl) (pe_callTy call_list_of rfl T.z_list (by decide +kernel) (pa_cons (pv 3) pa_nil)))) pss_nil)
      (pss_cons (ps_for PassesOwn.never rfl (pi_range1 rfl T.z_range (pa_cons (pe_op op_add (pe_callB call_len_seq rfl T.z_len (by decide +kernel) (pa_cons (pe_ix ix_tup (pv 0) pe_int (fun _ _ => rfl)) pa_nil)) pe_int) pa_nil)) (pg_name (i := 6) sc_law_value.nd rfl (.inl rfl)) (pss_cons (ps_set (i := 7) sc_law_value.nd rfl (.inl rfl) pe_dnewK)
      (pss_cons (ps_lock (ps_for PassesOwn.never rfl (pi_keys (pv 2)) (pg_name (i := 8) sc_law_value.nd rfl (.inl rfl)) (pss_one (ps_dput hu (pv 7) (pv 8) (pe_dget hu (pv 2) (pv 8) (fun _ _ => rfl)) rfl))))
      (pss_cons (ps_dput hu (pv 7) (pe_ix ix_tup (pv 1) pe_int (fun _ _ => rfl)) (pv 5) rfl)
      (pss_one (ps_set (i := 5) sc_law_value.nd rfl (.inl rfl) (pe_callH h_law_value (hr.mono (by omega)) (pa_cons (pv 0) (pa_cons (pe_ix ix_tup (pv 1) pe_int (fun _ _ => rfl)) (pa_cons (pv 7) pa_nil))))))))))
      (pss_one (ps_ret (pv 5)))))) pss_nil)
      (pss_cons (ps_set (i := 9) sc_law_value.nd rfl (.inr rfl) (pe_callH h_law_value (hr.mono (by omega)) (pa_cons (pv 0) (pa_cons (pe_ix ix_tup (pv 1) (pe_op op_sub (pe_callB call_len_seq rfl T.z_len (by decide +kernel) (pa_cons (pv 1) pa_nil)) pe_int) (fun _ _ => rfl)) (pa_cons (pv 2) pa_nil)))))
      (pss_cons (ps_if (pt_cmpR op_eq (pv 4) pe_str (nomark _)) (pss_one (ps_ret (pe_lc (own := [("state", 11)]) (g := gName 11) rfl sc_law_value.nd (pi_list (pv 3)) (blkOk_by (own := [("state", 11)]) (N := n_law_value) (sc := defScope s_law_value) (by decide +kernel)) (fun _ _ _ _ _ => (pg_name (i := 11) sc_law_value.nd rfl (.inl rfl))) (fun _ _ _ _ _ => (pts_one (pt_cmpR op_gt (pe_callB (@id (CallR _ _ (rLenS K)) call_len_seq) rfl T.z_len (by decide +kernel) (pa_cons (pe_lc (own := [("k", 12)]) (g := gName 12) rfl sc_law_value.nd (@id (PI _ _ _ (iList K _)) (pi_list (pe_callH h_law_behind (hr.mono (by omega)) (pa_cons (pv 0) (pa_cons (pv 11) (pa_cons (pe_ix (@id (IxR _ (rIxT K)) ix_tup) (pv 1) pe_int (fun _ _ => rfl)) pa_nil)))))) (blkOk_by (own := [("k", 12)]) (N := n_law_value) (sc := { kind := PySem.ScopeKind.function, names := [ (PySem.Str.ofString ".0", PySem.NameKind.local), (PySem.Str.ofString "state", PySem.NameKind.local), (PySem.Str.ofString "len", PySem.NameKind.globalImplicit), (PySem.Str.ofString "_law_behind", PySem.NameKind.globalImplicit), (PySem.Str.ofString "first", PySem.NameKind.cell), (PySem.Str.ofString "statement", PySem.NameKind.cell), (PySem.Str.ofString "world", PySem.NameKind.cell)], isGenerator := false, isCoroutine := false, more := [] : PySem.Scope }) (by decide +kernel)) (fun _ _ _ _ _ => (pg_name (i := 12) sc_law_value.nd rfl (.inl rfl))) (fun _ _ _ _ _ => (pts_one (pt_cmpR (@id (OpR _ _ (rIn K false)) op_in_seq) (pv 12) (pv 9) (by rfl)))) (fun _ _ _ _ _ => (pv 12))) pa_nil)) pe_int (nomark _)))) (fun _ _ _ _ _ => (pv 11))))) pss_nil)
      (pss_cons (ps_if (pt_cmpR op_eq (pv 4) pe_str (nomark _)) (pss_one (ps_ret (pe_lc (own := [("state", 11)]) (g := gName 11) rfl sc_law_value.nd (pi_list (pv 3)) (blkOk_by (own := [("state", 11)]) (N := n_law_value) (sc := defScope s_law_value) (by decide +kernel)) (fun _ _ _ _ _ => (pg_name (i := 11) sc_law_value.nd rfl (.inl rfl))) (fun _ _ _ _ _ => (pts_one (pt_cmpR op_eq (pe_callB (@id (CallR _ _ (rLenS K)) call_len_seq) rfl T.z_len (by decide +kernel) (pa_cons (pe_lc (own := [("k", 12)]) (g := gName 12) rfl sc_law_value.nd (@id (PI _ _ _ (iList K _)) (pi_list (pe_callH h_law_behind (hr.mono (by omega)) (pa_cons (pv 0) (pa_cons (pv 11) (pa_cons (pe_ix (@id (IxR _ (rIxT K)) ix_tup) (pv 1) pe_int (fun _ _ => rfl)) pa_nil)))))) (blkOk_by (own := [("k", 12)]) (N := n_law_value) (sc := { kind := PySem.ScopeKind.function, names := [ (PySem.Str.ofString ".0", PySem.NameKind.local), (PySem.Str.ofString "state", PySem.NameKind.local), (PySem.Str.ofString "len", PySem.NameKind.globalImplicit), (PySem.Str.ofString "_law_behind", PySem.NameKind.globalImplicit), (PySem.Str.ofString "first", PySem.NameKind.cell), (PySem.Str.ofString "statement", PySem.NameKind.cell), (PySem.Str.ofString "world", PySem.NameKind.cell)], isGenerator := false, isCoroutine := false, more := [] : PySem.Scope }) (by decide +kernel)) (fun _ _ _ _ _ => (pg_name (i := 12) sc_law_value.nd rfl (.inl rfl))) (fun _ _ _ _ _ => (pts_one (pt_cmpR (@id (OpR _ _ (rIn K true)) op_notIn_seq) (pv 12) (pv 9) (by rfl)))) (fun _ _ _ _ _ => (pv 12))) pa_nil)) pe_int (nomark _)))) (fun _ _ _ _ _ => (pv 11))))) pss_nil)
      (pss_cons (ps_set (i := 10) sc_law_value.nd rfl (.inr rfl) (pe_callH h_law_value (hr.mono (by omega)) (pa_cons (pv 0) (pa_cons (pe_ix ix_tup (pv 1) pe_int (fun _ _ => rfl)) (pa_cons (pv 2) pa_nil)))))
      (pss_cons (ps_if (pt_cmpR op_eq (pv 4) pe_str (nomark _)) (pss_one (ps_ret (pe_lc (own := [("state", 11)]) (g := gName 11) rfl sc_law_value.nd (pi_list (pv 3)) (blkOk_by (own := [("state", 11)]) (N := n_law_value) (sc := defScope s_law_value) (by decide +kernel)) (fun _ _ _ _ _ => (pg_name (i := 11) sc_law_value.nd rfl (.inl rfl))) (fun _ _ _ _ _ => (pts_one (PW.pt (pw_and (pt_cmpR (@id (OpR _ _ (rIn K false)) op_in_seq) (pv 11) (pv 9) (by rfl)) (pw_and1 (pt_cmpR (@id (OpR _ _ (rIn K false)) op_in_seq) (pv 11) (pv 10) (by rfl))))))) (fun _ _ _ _ _ => (pv 11))))) pss_nil)
      (pss_one (ps_ret (pe_lc (own := [("state", 11)]) (g := gName 11) rfl sc_law_value.nd (pi_list (pv 3)) (blkOk_by (own := [("state", 11)]) (N := n_law_value) (sc := defScope s_law_value) (by decide +kernel)) (fun _ _ _ _ _ => (pg_name (i := 11) sc_law_value.nd rfl (.inl rfl))) (fun _ _ _ _ _ => (pts_one (PW.pt (pw_or (pt_cmpR (@id (OpR _ _ (rIn K false)) op_in_seq) (pv 11) (pv 9) (by rfl)) (pw_or1 (pt_cmpR (@id (OpR _ _ (rIn K false)) op_in_seq) (pv 11) (pv 10) (by rfl))))))) (fun _ _ _ _ _ => (pv 11)))))))))))))))))), ?_⟩
    obtain ⟨a, ks, rfl, sq, ak⟩ := ht.open
    have at0 : atI (hv t.hd ++ ks) 0 = some (.str (hw t.hd)) := atI_nat (j := 0) (by rw [List.getElem?_append_left (by rcases hv_len t.hd with e | e <;> omega)]; exact hv_head _)
    obtain ⟨wa, sa, pa, fas, pas, rfl, X⟩ := hW
    have nW : ((fas.map V.ref).length : Int) = (W.n : Int) := by rw [List.length_map, X.f.1]; rfl
    refine ⟨.ref wa, rfl, wa, _, _, .ref sa, rfl, rfl, SqT.of X.w, rfl, sa, _, rfl, X.s, _, rfl, ?_⟩
    rw [nW]
    refine ⟨.of_le (Int.le_refl 0) (by have := fit.n16; omega) (by omega) (by omega), fun la hla => ?_⟩
    rw [rgV_rng]
    have s1 := Same.new (o := .lst ((rng W.n).map V.int)) hla
    have gl1 : IL (upd H la (.lst ((rng W.n).map V.int))) la (rng W.n) := upd_same
    generalize upd H la (.lst ((rng W.n).map V.int)) = H1 at s1 gl1
    have X1 := X.same s1
    have sq1 := SqT.same s1 sq
    have ak1 := ak.lk (LKp.same s1)
    have hN1 := s1 _ _ hN
    have henv1 : ∀ x ∈ fv t, ∃ a, valV kvs (Sum.inl x) = some (.ref a) ∧ IL H1 a (e x) := fun x hx => by
      obtain ⟨b, b1, b2⟩ := henv x hx
      exact ⟨b, b1, s1 _ _ b2⟩
    have k1 : ∀ (a : Addr) H', Same H1 H' → IL H' a (val W t e) → Q (.ref a) H' := fun b H' s' g => k b H' (s1.trans s') g
    clear k henv hN sq X s1 hla ht ak
    refine ⟨.ref a, rfl, a, _, _, _, rfl, rfl, sq1, at0, ?_⟩
    cases t with
    | nul b =>
      cases b with
      | true =>
        refine ⟨.str "true", rfl, rfl, _, rfl, kT ?_⟩
        exact ⟨.ref la, rfl, k1 la _ (Same.refl _) gl1⟩
      | false =>
        refine ⟨.str "false", rfl, rfl, _, rfl, kF (by decide) ?_⟩
        refine ⟨.str "false", rfl, rfl, _, rfl, kT ?_⟩
        exact ⟨Nat.zero_le _, fun p hp => k1 p _ (Same.new hp) upd_same⟩
    | leaf kd x =>
      cases ak1
      have at1 : atI (hv (F.leaf kd x).hd ++ []) 1 = some (.int x) := atI_nat (j := 1) rfl
      cases kd with
      | has =>
        refine ⟨.str "has", rfl, rfl, _, rfl, kF (by decide) ?_⟩
        refine ⟨.str "has", rfl, rfl, _, rfl, kF (by decide) ?_⟩
        refine ⟨.str "has", rfl, rfl, _, rfl, kT ?_⟩
        refine ⟨.ref la, rfl, la, rfl, ⟨_, SqL.of gl1⟩, fun D hD => ?_⟩
        refine lc_fil (fun s => sIn (W.at s) x) gl1 hD (by rw [rng_len]; have := fit.n16; omega) (fun s hs G Y N sG hY hN' => ?_) (fun G sG g => k1 D G sG g)
        obtain ⟨j, hj, rfl⟩ : ∃ j : Nat, j < W.n ∧ s = (j : Int) := by
          have := rng_mem.mp hs
          exact ⟨s.toNat, by omega, by omega⟩
        obtain ⟨fa, hfa, hfx⟩ : ∃ fa, fas[j]? = some fa ∧ Sq K H1 fa ((W.at (j : Int)).map V.int) := by
          have jl : j < fas.length := by rw [X1.f.1]; exact hj
          refine ⟨fas[j], by simp [jl], ?_⟩
          refine X1.f.2 j _ _ (by simp [jl]) ?_
          unfold Wd.at
          rw [Int.toNat_natCast, List.getElem?_eq_getElem (by exact hj)]
          rfl
        refine ⟨rfl, .ref a, rfl, a, _, _, .int x, rfl, rfl, SqT.same sG sq1, at1, .ref wa, rfl, wa, _, _, .ref sa, rfl, rfl, SqT.of (sG _ _ X1.w), rfl, .int (j : Nat), rfl, ix_sq (X1.s.same sG) (atI_nat (j := j) (by rw [List.getElem?_map, hfa]; rfl)) ⟨fa, _, rfl, hfx.same sG, rfl, flat_ints _, _, rfl, ?_⟩⟩
        rw [if_neg Bool.false_ne_true, in_ints]
        cases c : sIn (W.at (j : Int)) x with
        | true =>
          refine (if_pos c).mpr ?_
          exact ⟨_, rfl, hY c _ (Same.refl _)⟩
        | false =>
          refine (if_neg (by rw [show decide (x ∈ W.at (j : Int)) = false from c]; exact Bool.false_ne_true)).mpr ?_
          exact hN' c _ (Same.refl _)
      | lacks =>
        refine ⟨.str "lacks", rfl, rfl, _, rfl, kF (by decide) ?_⟩
        refine ⟨.str "lacks", rfl, rfl, _, rfl, kF (by decide) ?_⟩
        refine ⟨.str "lacks", rfl, rfl, _, rfl, kF (by decide) ?_⟩
        refine ⟨.str "lacks", rfl, rfl, _, rfl, kT ?_⟩
        refine ⟨.ref la, rfl, la, rfl, ⟨_, SqL.of gl1⟩, fun D hD => ?_⟩
        refine lc_fil (fun s => !sIn (W.at s) x) gl1 hD (by rw [rng_len]; have := fit.n16; omega) (fun s hs G Y N sG hY hN' => ?_) (fun G sG g => k1 D G sG g)
        obtain ⟨j, hj, rfl⟩ : ∃ j : Nat, j < W.n ∧ s = (j : Int) := by
          have := rng_mem.mp hs
          exact ⟨s.toNat, by omega, by omega⟩
        obtain ⟨fa, hfa, hfx⟩ : ∃ fa, fas[j]? = some fa ∧ Sq K H1 fa ((W.at (j : Int)).map V.int) := by
          have jl : j < fas.length := by rw [X1.f.1]; exact hj
          refine ⟨fas[j], by simp [jl], ?_⟩
          refine X1.f.2 j _ _ (by simp [jl]) ?_
          unfold Wd.at
          rw [Int.toNat_natCast, List.getElem?_eq_getElem (by exact hj)]
          rfl
        refine ⟨rfl, .ref a, rfl, a, _, _, .int x, rfl, rfl, SqT.same sG sq1, at1, .ref wa, rfl, wa, _, _, .ref sa, rfl, rfl, SqT.of (sG _ _ X1.w), rfl, .int (j : Nat), rfl, ix_sq (X1.s.same sG) (atI_nat (j := j) (by rw [List.getElem?_map, hfa]; rfl)) ⟨fa, _, rfl, hfx.same sG, rfl, flat_ints _, _, rfl, ?_⟩⟩
        rw [if_pos rfl, in_ints]
        show if (!sIn (W.at (j : Int)) x) = true then _ else _
        cases c : !sIn (W.at (j : Int)) x with
        | true => exact iteT ⟨_, rfl, hY c _ (Same.refl _)⟩
        | false => exact iteF (hN' c _ (Same.refl _))
      | var =>
        refine ⟨.str "var", rfl, rfl, _, rfl, kF (by decide) ?_⟩
        refine ⟨.str "var", rfl, rfl, _, rfl, kF (by decide) ?_⟩
        refine ⟨.str "var", rfl, rfl, _, rfl, kF (by decide) ?_⟩
        refine ⟨.str "var", rfl, rfl, _, rfl, kF (by decide) ?_⟩
        refine ⟨.str "var", rfl, rfl, _, rfl, kT ?_⟩
        obtain ⟨b, hb, hx⟩ := henv1 x (List.mem_singleton.mpr rfl)
        have hget := DGet.k (k := Sum.inl x) hN1
        rw [hb] at hget
        exact ⟨.ref na, rfl, .ref a, rfl, a, _, 1, .int x, rfl, rfl, sq1, at1, na, _, rfl, hget, k1 b _ (Same.refl _) hx⟩
    | two b f g =>
      cases ak1 with
      | cons hf hn =>
      cases hn with
      | cons hg hn =>
      cases hn
      rename_i vf vg
      obtain ⟨m, rfl⟩ : ∃ m, n = m + 1 := by
        cases n with
        | zero => exact absurd hdep (by have : 0 < f.depth := (by cases f <;> simp [F.depth]); simp only [F.depth]; omega)
        | succ m => exact ⟨m, rfl⟩
      simp only [F.depth] at hdep
      cases b with
      | true =>
        refine ⟨.str "and", rfl, rfl, _, rfl, kF (by decide) ?_⟩
        refine ⟨.str "and", rfl, rfl, _, rfl, kF (by decide) ?_⟩
        refine ⟨.str "and", rfl, rfl, _, rfl, kF (by decide) ?_⟩
        refine ⟨.str "and", rfl, rfl, _, rfl, kF (by decide) ?_⟩
        refine ⟨.str "and", rfl, rfl, _, rfl, kF (by decide) ?_⟩
        refine ⟨.str "and", rfl, by show 2 ≤ sizeLine; decide, fun p hp => ⟨p, _, rfl, .inr (SqT.of upd_same), rfl, rfl, _, rfl, ?_⟩⟩
        have s2 := Same.new (o := .tup [.str "least", .str "most"]) hp
        generalize upd H1 p (.tup [.str "least", .str "most"]) = H2 at s2
        have X2 := X1.same s2
        have sq2 := SqT.same s2 sq1
        have hN2 := s2 _ _ hN1
        refine iteF ?_
        have at1 : atI (hv (F.two true f g).hd ++ [vf, vg]) 1 = some vf := atI_nat (j := 1) rfl
        have at2 : atI (hv (F.two true f g).hd ++ [vf, vg]) ((((hv (F.two true f g).hd ++ [vf, vg]).length : Nat) : Int) - 1) = some vg := atI_nat (j := 2) rfl
        refine ⟨.ref wa, rfl, .ref a, rfl, .ref a, rfl, a, _, rfl, .inr sq2, _, 1, rfl, rfl, a, _, _, vg, rfl, rfl, sq2, at2, .ref na, rfl, .ref wa, vg, W, g, na, kvs, e, rfl, ⟨wa, sa, pa, fas, pas, rfl, X2⟩, fit, hg.same s2, by omega, hN2, by omega, hnd, fun x hx => ?_, fun ra H3 s3 hra => ?_⟩
        · obtain ⟨b, b1, b2⟩ := henv1 x (List.mem_append_right _ hx)
          exact ⟨b, b1, s2 _ _ b2⟩
        refine ⟨.str "and", rfl, rfl, _, rfl, kF (by decide) ?_⟩
        refine ⟨.str "and", rfl, rfl, _, rfl, kF (by decide) ?_⟩
        have X3 := X2.same s3
        have sq3 := SqT.same s3 sq2
        have hN3 := s3 _ _ hN2
        refine ⟨.ref wa, rfl, .ref a, rfl, a, _, 1, vf, rfl, rfl, sq3, at1, .ref na, rfl, .ref wa, vf, W, f, na, kvs, e, rfl, ⟨wa, sa, pa, fas, pas, rfl, X3⟩, fit, (hf.same s2).same s3, by omega, hN3, by omega, hnd, fun x hx => ?_, fun rb H4 s4 hrb4 => ?_⟩
        · obtain ⟨b, b1, b2⟩ := henv1 x (List.mem_append_left _ hx)
          exact ⟨b, b1, s3 _ _ (s2 _ _ b2)⟩
        have hra4 := s4 _ _ hra
        have gl5 : IL H4 la (rng W.n) := s4 _ _ (s3 _ _ (s2 _ _ gl1))
        refine ⟨.str "and", rfl, rfl, _, rfl, kT ?_⟩
        refine ⟨.ref la, rfl, la, rfl, ⟨_, SqL.of gl5⟩, fun D hD => ?_⟩
        refine lc_fil (fun s => sIn (val W g e) s && sIn (val W f e) s) gl5 hD (by rw [rng_len]; have := fit.n16; omega) (fun s hs G Y N sG hY hN' => ?_) (fun G sG gg => k1 D G ((s2.trans (s3.trans s4)).trans sG) gg)
        refine ⟨rfl, .int s, rfl, .ref ra, rfl, ra, _, rfl, .inl (SqL.of (sG _ _ hra4)), rfl, flat_ints _, _, rfl, ?_⟩
        rw [if_neg Bool.false_ne_true, in_ints]
        show if sIn (val W g e) s = true then _ else _
        cases c1 : sIn (val W g e) s with
        | false => exact iteF (hN' (by rw [c1]; rfl) _ (Same.refl _))
        | true =>
          refine iteT ⟨.int s, rfl, .ref rb, rfl, rb, _, rfl, .inl (SqL.of (sG _ _ hrb4)), rfl, flat_ints _, _, rfl, ?_⟩
          rw [if_neg Bool.false_ne_true, in_ints]
          show if sIn (val W f e) s = true then _ else _
          cases c2 : sIn (val W f e) s with
          | false => exact iteF (hN' (by rw [c1, c2]; rfl) _ (Same.refl _))
          | true => exact iteT ⟨_, rfl, hY (by rw [c1, c2]; rfl) _ (Same.refl _)⟩
      | false =>
        refine ⟨.str "or", rfl, rfl, _, rfl, kF (by decide) ?_⟩
        refine ⟨.str "or", rfl, rfl, _, rfl, kF (by decide) ?_⟩
        refine ⟨.str "or", rfl, rfl, _, rfl, kF (by decide) ?_⟩
        refine ⟨.str "or", rfl, rfl, _, rfl, kF (by decide) ?_⟩
        refine ⟨.str "or", rfl, rfl, _, rfl, kF (by decide) ?_⟩
        refine ⟨.str "or", rfl, by show 2 ≤ sizeLine; decide, fun p hp => ⟨p, _, rfl, .inr (SqT.of upd_same), rfl, rfl, _, rfl, ?_⟩⟩
        have s2 := Same.new (o := .tup [.str "least", .str "most"]) hp
        generalize upd H1 p (.tup [.str "least", .str "most"]) = H2 at s2
        have X2 := X1.same s2
        have sq2 := SqT.same s2 sq1
        have hN2 := s2 _ _ hN1
        refine iteF ?_
        have at1 : atI (hv (F.two false f g).hd ++ [vf, vg]) 1 = some vf := atI_nat (j := 1) rfl
        have at2 : atI (hv (F.two false f g).hd ++ [vf, vg]) ((((hv (F.two false f g).hd ++ [vf, vg]).length : Nat) : Int) - 1) = some vg := atI_nat (j := 2) rfl
        refine ⟨.ref wa, rfl, .ref a, rfl, .ref a, rfl, a, _, rfl, .inr sq2, _, 1, rfl, rfl, a, _, _, vg, rfl, rfl, sq2, at2, .ref na, rfl, .ref wa, vg, W, g, na, kvs, e, rfl, ⟨wa, sa, pa, fas, pas, rfl, X2⟩, fit, hg.same s2, by omega, hN2, by omega, hnd, fun x hx => ?_, fun ra H3 s3 hra => ?_⟩
        · obtain ⟨b, b1, b2⟩ := henv1 x (List.mem_append_right _ hx)
          exact ⟨b, b1, s2 _ _ b2⟩
        refine ⟨.str "or", rfl, rfl, _, rfl, kF (by decide) ?_⟩
        refine ⟨.str "or", rfl, rfl, _, rfl, kF (by decide) ?_⟩
        have X3 := X2.same s3
        have sq3 := SqT.same s3 sq2
        have hN3 := s3 _ _ hN2
        refine ⟨.ref wa, rfl, .ref a, rfl, a, _, 1, vf, rfl, rfl, sq3, at1, .ref na, rfl, .ref wa, vf, W, f, na, kvs, e, rfl, ⟨wa, sa, pa, fas, pas, rfl, X3⟩, fit, (hf.same s2).same s3, by omega, hN3, by omega, hnd, fun x hx => ?_, fun rb H4 s4 hrb4 => ?_⟩
        · obtain ⟨b, b1, b2⟩ := henv1 x (List.mem_append_left _ hx)
          exact ⟨b, b1, s3 _ _ (s2 _ _ b2)⟩
        have hra4 := s4 _ _ hra
        have gl5 : IL H4 la (rng W.n) := s4 _ _ (s3 _ _ (s2 _ _ gl1))
        refine ⟨.str "or", rfl, rfl, _, rfl, kF (by decide) ?_⟩
        refine ⟨.ref la, rfl, la, rfl, ⟨_, SqL.of gl5⟩, fun D hD => ?_⟩
        refine lc_fil (fun s => sIn (val W g e) s || sIn (val W f e) s) gl5 hD (by rw [rng_len]; have := fit.n16; omega) (fun s hs G Y N sG hY hN' => ?_) (fun G sG gg => k1 D G ((s2.trans (s3.trans s4)).trans sG) gg)
        refine ⟨rfl, .int s, rfl, .ref ra, rfl, ra, _, rfl, .inl (SqL.of (sG _ _ hra4)), rfl, flat_ints _, _, rfl, ?_⟩
        rw [if_neg Bool.false_ne_true, in_ints]
        show if sIn (val W g e) s = true then _ else _
        cases c1 : sIn (val W g e) s with
        | true => exact iteT ⟨_, rfl, hY (by rw [c1]; rfl) _ (Same.refl _)⟩
        | false =>
          refine iteF ⟨.int s, rfl, .ref rb, rfl, rb, _, rfl, .inl (SqL.of (sG _ _ hrb4)), rfl, flat_ints _, _, rfl, ?_⟩
          rw [if_neg Bool.false_ne_true, in_ints]
          show if sIn (val W f e) s = true then _ else _
          cases c2 : sIn (val W f e) s with
          | false => exact iteF (hN' (by rw [c1, c2]; rfl) _ (Same.refl _))
          | true => exact iteT ⟨_, rfl, hY (by rw [c1, c2]; rfl) _ (Same.refl _)⟩
    | one kd x f =>
      cases ak1 with
      | cons hf hn =>
      cases hn
      rename_i vf
      obtain ⟨m, rfl⟩ : ∃ m, n = m + 1 := by
        cases n with
        | zero => exact absurd hdep (by have : 0 < f.depth := (by cases f <;> simp [F.depth]); simp only [F.depth]; omega)
        | succ m => exact ⟨m, rfl⟩
      simp only [F.depth] at hdep
      cases kd with
      | some =>
        refine ⟨.str "some", rfl, rfl, _, rfl, kF (by decide) ?_⟩
        refine ⟨.str "some", rfl, rfl, _, rfl, kF (by decide) ?_⟩
        refine ⟨.str "some", rfl, rfl, _, rfl, kF (by decide) ?_⟩
        refine ⟨.str "some", rfl, rfl, _, rfl, kF (by decide) ?_⟩
        refine ⟨.str "some", rfl, rfl, _, rfl, kF (by decide) ?_⟩
        refine ⟨.str "some", rfl, by show 2 ≤ sizeLine; decide, fun p hp => ⟨p, _, rfl, .inr (SqT.of upd_same), rfl, rfl, _, rfl, ?_⟩⟩
        have s2 := Same.new (o := .tup [.str "least", .str "most"]) hp
        generalize upd H1 p (.tup [.str "least", .str "most"]) = H2 at s2
        have X2 := X1.same s2
        have sq2 := SqT.same s2 sq1
        have hN2 := s2 _ _ hN1
        have at1 : atI (hv (F.one .some x f).hd ++ [vf]) 1 = some (.int x) := atI_nat (j := 1) rfl
        have at2 : atI (hv (F.one .some x f).hd ++ [vf]) 2 = some vf := atI_nat (j := 2) rfl
        refine iteF ?_
        have at3 : atI (hv (F.one .some x f).hd ++ [vf]) ((((hv (F.one .some x f).hd ++ [vf]).length : Nat) : Int) - 1) = some vf := atI_nat (j := 2) rfl
        refine ⟨.ref wa, rfl, .ref a, rfl, .ref a, rfl, a, _, rfl, .inr sq2, _, 1, rfl, rfl, a, _, _, vf, rfl, rfl, sq2, at3, .ref na, rfl, .ref wa, vf, W, f, na, kvs, e, rfl, ⟨wa, sa, pa, fas, pas, rfl, X2⟩, fit, hf.same s2, by omega, hN2, by omega, hnd, fun y hy => ?_, fun ra H3 s3 hra => ?_⟩
        · obtain ⟨b, b1, b2⟩ := henv1 y hy
          exact ⟨b, b1, s2 _ _ b2⟩
        have X3 := X2.same s3
        have sq3 := SqT.same s3 sq2
        have gl3 : IL H3 la (rng W.n) := s3 _ _ (s2 _ _ gl1)
        refine ⟨.str "some", rfl, rfl, _, rfl, kT ?_⟩
        refine ⟨.ref la, rfl, la, rfl, ⟨_, SqL.of gl3⟩, fun D hD => ?_⟩
        refine lc_fil (fun s => decide (0 < (((W.beh s x).filter (sIn (val W f e))).length : Int))) gl3 hD (by rw [rng_len]; have := fit.n16; omega) (fun s hs G Y N sG hY hN' => ?_) (fun G sG gg => k1 D G ((s2.trans s3).trans sG) gg)
        refine ⟨rfl, .ref wa, rfl, .int s, rfl, .ref a, rfl, a, _, _, .int x, rfl, rfl, SqT.same sG sq3, at1, .ref wa, W, s, x, rfl, ⟨wa, sa, pa, fas, pas, rfl, X3.same sG⟩, fit.st, fun b G2 sb nb hb => ?_⟩
        refine ⟨b, rfl, ⟨_, SqL.of hb⟩, fun D2 hD2 => ?_⟩
        have hra2 := sb _ _ (sG _ _ hra)
        refine lc_fil (sIn (val W f e)) hb hD2 (by unfold Wd.beh; rw [List.length_map]; exact Nat.le_trans (List.length_filter_le _ _) fit.st) (fun j hj G3 Y3 N3 s3' hY3 hN3 => ?_) (fun G3 s3' g3 => ?_)
        · refine ⟨rfl, .int j, rfl, .ref ra, rfl, ra, _, rfl, .inl (SqL.of (s3' _ _ hra2)), rfl, flat_ints _, _, rfl, ?_⟩
          rw [if_neg Bool.false_ne_true, in_ints]
          show if sIn (val W f e) j = true then _ else _
          cases c : sIn (val W f e) j with
          | true => exact iteT ⟨_, rfl, hY3 c _ (Same.refl _)⟩
          | false => exact iteF (hN3 c _ (Same.refl _))
        · refine ⟨D2, _, rfl, .inl (SqL.of g3), _, _, rfl, rfl, _, rfl, ite2 (fun c => ?_) (fun c => ?_)⟩
          · exact ⟨_, rfl, hY (by rw [List.length_map] at c; exact c) _ (sb.trans s3')⟩
          · exact hN' (by rw [List.length_map] at c; exact Bool.eq_false_iff.mpr c) _ (sb.trans s3')
      | all =>
        refine ⟨.str "all", rfl, rfl, _, rfl, kF (by decide) ?_⟩
        refine ⟨.str "all", rfl, rfl, _, rfl, kF (by decide) ?_⟩
        refine ⟨.str "all", rfl, rfl, _, rfl, kF (by decide) ?_⟩
        refine ⟨.str "all", rfl, rfl, _, rfl, kF (by decide) ?_⟩
        refine ⟨.str "all", rfl, rfl, _, rfl, kF (by decide) ?_⟩
        refine ⟨.str "all", rfl, by show 2 ≤ sizeLine; decide, fun p hp => ⟨p, _, rfl, .inr (SqT.of upd_same), rfl, rfl, _, rfl, ?_⟩⟩
        have s2 := Same.new (o := .tup [.str "least", .str "most"]) hp
        generalize upd H1 p (.tup [.str "least", .str "most"]) = H2 at s2
        have X2 := X1.same s2
        have sq2 := SqT.same s2 sq1
        have hN2 := s2 _ _ hN1
        have at1 : atI (hv (F.one .all x f).hd ++ [vf]) 1 = some (.int x) := atI_nat (j := 1) rfl
        have at2 : atI (hv (F.one .all x f).hd ++ [vf]) 2 = some vf := atI_nat (j := 2) rfl
        refine iteF ?_
        have at3 : atI (hv (F.one .all x f).hd ++ [vf]) ((((hv (F.one .all x f).hd ++ [vf]).length : Nat) : Int) - 1) = some vf := atI_nat (j := 2) rfl
        refine ⟨.ref wa, rfl, .ref a, rfl, .ref a, rfl, a, _, rfl, .inr sq2, _, 1, rfl, rfl, a, _, _, vf, rfl, rfl, sq2, at3, .ref na, rfl, .ref wa, vf, W, f, na, kvs, e, rfl, ⟨wa, sa, pa, fas, pas, rfl, X2⟩, fit, hf.same s2, by omega, hN2, by omega, hnd, fun y hy => ?_, fun ra H3 s3 hra => ?_⟩
        · obtain ⟨b, b1, b2⟩ := henv1 y hy
          exact ⟨b, b1, s2 _ _ b2⟩
        have X3 := X2.same s3
        have sq3 := SqT.same s3 sq2
        have gl3 : IL H3 la (rng W.n) := s3 _ _ (s2 _ _ gl1)
        refine ⟨.str "all", rfl, rfl, _, rfl, kF (by decide) ?_⟩
        refine ⟨.str "all", rfl, rfl, _, rfl, kT ?_⟩
        refine ⟨.ref la, rfl, la, rfl, ⟨_, SqL.of gl3⟩, fun D hD => ?_⟩
        refine lc_fil (fun s => decide ((((W.beh s x).filter (fun k => !sIn (val W f e) k)).length : Int) = 0)) gl3 hD (by rw [rng_len]; have := fit.n16; omega) (fun s hs G Y N sG hY hN' => ?_) (fun G sG gg => k1 D G ((s2.trans s3).trans sG) gg)
        refine ⟨rfl, .ref wa, rfl, .int s, rfl, .ref a, rfl, a, _, _, .int x, rfl, rfl, SqT.same sG sq3, at1, .ref wa, W, s, x, rfl, ⟨wa, sa, pa, fas, pas, rfl, X3.same sG⟩, fit.st, fun b G2 sb nb hb => ?_⟩
        refine ⟨b, rfl, ⟨_, SqL.of hb⟩, fun D2 hD2 => ?_⟩
        have hra2 := sb _ _ (sG _ _ hra)
        refine lc_fil (fun k => !sIn (val W f e) k) hb hD2 (by unfold Wd.beh; rw [List.length_map]; exact Nat.le_trans (List.length_filter_le _ _) fit.st) (fun j hj G3 Y3 N3 s3' hY3 hN3 => ?_) (fun G3 s3' g3 => ?_)
        · refine ⟨rfl, .int j, rfl, .ref ra, rfl, ra, _, rfl, .inl (SqL.of (s3' _ _ hra2)), rfl, flat_ints _, _, rfl, ?_⟩
          rw [if_pos rfl, in_ints]
          show if (!sIn (val W f e) j) = true then _ else _
          cases c : (!sIn (val W f e) j) with
          | true => exact iteT ⟨_, rfl, hY3 c _ (Same.refl _)⟩
          | false => exact iteF (hN3 c _ (Same.refl _))
        · refine ⟨D2, _, rfl, .inl (SqL.of g3), rfl, _, rfl, ite2 (fun c => ?_) (fun c => ?_)⟩
          · exact ⟨_, rfl, hY (by rw [List.length_map] at c; exact decide_eq_true (by have := of_decide_eq_true c; injection this)) _ (sb.trans s3')⟩
          · exact hN' (by rw [List.length_map] at c; exact decide_eq_false (fun z => c (decide_eq_true (congrArg V.int z)))) _ (sb.trans s3')
      | least =>
        refine ⟨.str "least", rfl, rfl, _, rfl, kF (by decide) ?_⟩
        refine ⟨.str "least", rfl, rfl, _, rfl, kF (by decide) ?_⟩
        refine ⟨.str "least", rfl, rfl, _, rfl, kF (by decide) ?_⟩
        refine ⟨.str "least", rfl, rfl, _, rfl, kF (by decide) ?_⟩
        refine ⟨.str "least", rfl, rfl, _, rfl, kF (by decide) ?_⟩
        refine ⟨.str "least", rfl, by show 2 ≤ sizeLine; decide, fun p hp => ⟨p, _, rfl, .inr (SqT.of upd_same), rfl, rfl, _, rfl, ?_⟩⟩
        have s2 := Same.new (o := .tup [.str "least", .str "most"]) hp
        generalize upd H1 p (.tup [.str "least", .str "most"]) = H2 at s2
        have X2 := X1.same s2
        have sq2 := SqT.same s2 sq1
        have hN2 := s2 _ _ hN1
        have at1 : atI (hv (F.one .least x f).hd ++ [vf]) 1 = some (.int x) := atI_nat (j := 1) rfl
        have at2 : atI (hv (F.one .least x f).hd ++ [vf]) 2 = some vf := atI_nat (j := 2) rfl
        refine iteT ?_
        refine ⟨Nat.zero_le _, fun q0 hq0 => ?_⟩
        have s3 := Same.new (o := .lst []) hq0
        have gq0 : IL (upd H2 q0 (.lst [])) q0 [] := upd_same
        generalize upd H2 q0 (.lst []) = H3 at s3 gq0
        refine ⟨.str "least", rfl, rfl, _, rfl, kF (by decide) ?_⟩
        have s23 := s2.trans s3
        have X3 := X1.same s23
        refine ⟨.ref wa, rfl, wa, _, _, .ref sa, rfl, rfl, SqT.of X3.w, rfl, sa, _, rfl, X3.s, _, 1, rfl, rfl, _, rfl, ?_⟩
        rw [nW]
        refine ⟨by have := fit.n16; omega, by have := fit.n16; omega, ?_⟩
        refine for_range (lo := 0) (n := (((W.n : Nat) : Int) + 1).toNat) (fun i σ G => ∃ (y6 y7 y8 : Option V) (q : Addr), σ = [some (.ref wa), some (.ref a), some (.ref na), some (.ref la), some (.str "least"), some (.ref q), y6, y7, y8, none, none, none, none] ∧ Same H1 G ∧ IL G q (iter (fun X => val W f (setE e x X)) i []))
          ⟨_, _, _, _, rfl, s23, gq0⟩ ?_ ?_
        · clear X3 s23 gq0 s3 s2 sq2 hN2 X2
          rintro i σ G hi ⟨y6, y7, y8, q, rfl, sG, gq⟩
          have X3 := X1.same sG
          have sq3 := SqT.same sG sq1
          have hN3 := sG _ _ hN1
          intro na2 hna2
          have s2 := Same.new (o := .dK []) hna2
          have nn : na ≠ na2 := ne_of_none hN3 hna2
          refine ⟨na, _, s2 _ _ hN3, trivial, fun od => ?_⟩
          refine ⟨.ref na, rfl, na, od, rfl, .inl ⟨kvs, upd_same, ?_⟩⟩
          refine for_it (walk_keys (d := na) (o := od) (kvs := kvs)) (fun j σ G' => ∃ (y8 : Option V), σ = [some (.ref wa), some (.ref a), some (.ref na), some (.ref la), some (.str "least"), some (.ref q), some (.int (0 + (i : Int))), some (.ref na2), y8, none, none, none, none] ∧ G' na = some (.frz od (.dK kvs)) ∧ G' na2 = some (.dK (kvs.take j)) ∧
              ∀ b o, b ≠ na → b ≠ na2 → G b = some o → G' b = some o)
            ⟨_, rfl, upd_same, by rw [upd_ne nn.symm, upd_same]; rfl, fun b o n1 n2 e => by rw [upd_ne n1, upd_ne n2]; exact e⟩ (fun i σ G _ ⟨_, _, g, _⟩ => g) ?_ ?_
          · rintro j x0 σ G1 G2 hj ⟨y8, rfl, gN, gI, gK⟩ ⟨rfl, kk, vv, hkv, rfl⟩
            obtain ⟨v1, v2⟩ := valV_atW hnd hkv
            refine ⟨.ref na, rfl, kV kk, rfl, na, vv, rfl, .inl ⟨kvs, kk, .inr ⟨od, gN⟩, rfl, v1.symm⟩, .ref na2, rfl, kV kk, rfl, na2, _, rfl, DPut.k (k := kk) gI (by rw [List.length_take]; exact small1000 (by omega)), ?_⟩
            refine ⟨_, rfl, by rw [upd_ne nn]; exact gN, ?_, fun b o n1 n2 e => by rw [upd_ne n2]; exact gK b o n1 n2 e⟩
            rw [upd_same, putK_new _ v2, List.take_add_one, hkv]
            rfl
          · rintro σ G1 ⟨y8, rfl, gN, gI, gK⟩
            rw [List.take_length] at gI
            refine ⟨gN, ?_⟩
            have s3 : Same G (upd G1 na (.dK kvs)) := fun b o e => by
              by_cases e1 : b = na
              · subst e1
                rw [hN3] at e
                cases e
                exact upd_same
              · rw [upd_ne e1]
                exact gK b o e1 (ne_of_none e hna2) e
            have gI3 : (upd G1 na (.dK kvs)) na2 = some (.dK kvs) := by rw [upd_ne nn.symm]; exact gI
            generalize upd G1 na (.dK kvs) = G3 at s3 gI3
            refine ⟨.ref q, rfl, .ref na2, rfl, .ref a, rfl, a, _, 1, .int x, rfl, rfl, SqT.same s3 sq3, at1, na2, _, rfl, DPut.k (k := Sum.inl x) gI3 (small1000 (by omega)), ?_⟩
            have s4 : Same G (upd G3 na2 (.dK (putK kvs (Sum.inl x) (.ref q)))) := fun b o e => by
              rw [upd_ne (ne_of_none e hna2)]
              exact s3 b o e
            have gI4 : (upd G3 na2 (.dK (putK kvs (Sum.inl x) (.ref q)))) na2 = some (.dK (putK kvs (Sum.inl x) (.ref q))) := upd_same
            generalize upd G3 na2 (.dK (putK kvs (Sum.inl x) (.ref q))) = G4 at s4 gI4
            have lp := length_putK kvs (Sum.inl x) (V.ref q)
            have sG4 := sG.trans s4
            refine ⟨.ref wa, rfl, .ref a, rfl, a, _, 2, vf, rfl, rfl, SqT.same s4 sq3, at2, .ref na2, rfl, .ref wa, vf, W, f, na2, putK kvs (Sum.inl x) (.ref q), setE e x (iter (fun X => val W f (setE e x X)) i []), rfl, ⟨wa, sa, pa, fas, pas, rfl, X3.same s4⟩, fit, hf.same sG4, by omega, gI4, by omega, nd_putW hnd, fun y hy => ?_, fun ra H5 s5 hra => ⟨_, _, _, ra, rfl, sG4.trans s5, hra⟩⟩
            rw [valV_put]
            unfold setE
            by_cases c : y = x
            · rw [if_pos (by rw [c]), if_pos c]
              exact ⟨q, rfl, s4 _ _ gq⟩
            · rw [if_neg (fun z => c (by injection z)), if_neg c]
              obtain ⟨b, b1, b2⟩ := henv1 y (by simp only [fv, if_pos (show One.least.bind = true from rfl), List.mem_filter, decide_eq_true_eq]; exact ⟨hy, c⟩)
              exact ⟨b, b1, sG4 _ _ b2⟩
        · rintro σ G ⟨y6, y7, y8, q, rfl, sG, gq⟩
          refine ⟨.ref q, rfl, k1 q _ sG ?_⟩
          have : (((W.n : Nat) : Int) + 1).toNat = W.n + 1 := by omega
          rw [this] at gq
          exact gq
      | most =>
        refine ⟨.str "most", rfl, rfl, _, rfl, kF (by decide) ?_⟩
        refine ⟨.str "most", rfl, rfl, _, rfl, kF (by decide) ?_⟩
        refine ⟨.str "most", rfl, rfl, _, rfl, kF (by decide) ?_⟩
        refine ⟨.str "most", rfl, rfl, _, rfl, kF (by decide) ?_⟩
        refine ⟨.str "most", rfl, rfl, _, rfl, kF (by decide) ?_⟩
        refine ⟨.str "most", rfl, by show 2 ≤ sizeLine; decide, fun p hp => ⟨p, _, rfl, .inr (SqT.of upd_same), rfl, rfl, _, rfl, ?_⟩⟩
        have s2 := Same.new (o := .tup [.str "least", .str "most"]) hp
        generalize upd H1 p (.tup [.str "least", .str "most"]) = H2 at s2
        have X2 := X1.same s2
        have sq2 := SqT.same s2 sq1
        have hN2 := s2 _ _ hN1
        have at1 : atI (hv (F.one .most x f).hd ++ [vf]) 1 = some (.int x) := atI_nat (j := 1) rfl
        have at2 : atI (hv (F.one .most x f).hd ++ [vf]) 2 = some vf := atI_nat (j := 2) rfl
        refine iteT ?_
        refine ⟨Nat.zero_le _, fun q0 hq0 => ?_⟩
        have s3 := Same.new (o := .lst []) hq0
        have gq0 : IL (upd H2 q0 (.lst [])) q0 [] := upd_same
        generalize upd H2 q0 (.lst []) = H3 at s3 gq0
        refine ⟨.str "most", rfl, rfl, _, rfl, kT ?_⟩
        have gl3 : IL H3 la (rng W.n) := s3 _ _ (s2 _ _ gl1)
        refine ⟨.ref la, rfl, la, _, rfl, .inl (SqL.of gl3), fun q1 hq1 => ?_⟩
        have s3b := Same.new (o := .lst ((rng W.n).map V.int)) hq1
        replace s3 := s3.trans s3b
        replace gq0 : IL (upd H3 q1 (.lst ((rng W.n).map V.int))) q1 (rng W.n) := upd_same
        generalize upd H3 q1 (.lst ((rng W.n).map V.int)) = H4 at s3 gq0
        have s23 := s2.trans s3
        have X3 := X1.same s23
        refine ⟨.ref wa, rfl, wa, _, _, .ref sa, rfl, rfl, SqT.of X3.w, rfl, sa, _, rfl, X3.s, _, 1, rfl, rfl, _, rfl, ?_⟩
        rw [nW]
        refine ⟨by have := fit.n16; omega, by have := fit.n16; omega, ?_⟩
        refine for_range (lo := 0) (n := (((W.n : Nat) : Int) + 1).toNat) (fun i σ G => ∃ (y6 y7 y8 : Option V) (q : Addr), σ = [some (.ref wa), some (.ref a), some (.ref na), some (.ref la), some (.str "most"), some (.ref q), y6, y7, y8, none, none, none, none] ∧ Same H1 G ∧ IL G q (iter (fun X => val W f (setE e x X)) i (rng W.n)))
          ⟨_, _, _, _, rfl, s23, gq0⟩ ?_ ?_
        · clear X3 s23 gq0 s3 s2 sq2 hN2 X2
          rintro i σ G hi ⟨y6, y7, y8, q, rfl, sG, gq⟩
          have X3 := X1.same sG
          have sq3 := SqT.same sG sq1
          have hN3 := sG _ _ hN1
          intro na2 hna2
          have s2 := Same.new (o := .dK []) hna2
          have nn : na ≠ na2 := ne_of_none hN3 hna2
          refine ⟨na, _, s2 _ _ hN3, trivial, fun od => ?_⟩
          refine ⟨.ref na, rfl, na, od, rfl, .inl ⟨kvs, upd_same, ?_⟩⟩
          refine for_it (walk_keys (d := na) (o := od) (kvs := kvs)) (fun j σ G' => ∃ (y8 : Option V), σ = [some (.ref wa), some (.ref a), some (.ref na), some (.ref la), some (.str "most"), some (.ref q), some (.int (0 + (i : Int))), some (.ref na2), y8, none, none, none, none] ∧ G' na = some (.frz od (.dK kvs)) ∧ G' na2 = some (.dK (kvs.take j)) ∧
              ∀ b o, b ≠ na → b ≠ na2 → G b = some o → G' b = some o)
            ⟨_, rfl, upd_same, by rw [upd_ne nn.symm, upd_same]; rfl, fun b o n1 n2 e => by rw [upd_ne n1, upd_ne n2]; exact e⟩ (fun i σ G _ ⟨_, _, g, _⟩ => g) ?_ ?_
          · rintro j x0 σ G1 G2 hj ⟨y8, rfl, gN, gI, gK⟩ ⟨rfl, kk, vv, hkv, rfl⟩
            obtain ⟨v1, v2⟩ := valV_atW hnd hkv
            refine ⟨.ref na, rfl, kV kk, rfl, na, vv, rfl, .inl ⟨kvs, kk, .inr ⟨od, gN⟩, rfl, v1.symm⟩, .ref na2, rfl, kV kk, rfl, na2, _, rfl, DPut.k (k := kk) gI (by rw [List.length_take]; exact small1000 (by omega)), ?_⟩
            refine ⟨_, rfl, by rw [upd_ne nn]; exact gN, ?_, fun b o n1 n2 e => by rw [upd_ne n2]; exact gK b o n1 n2 e⟩
            rw [upd_same, putK_new _ v2, List.take_add_one, hkv]
            rfl
          · rintro σ G1 ⟨y8, rfl, gN, gI, gK⟩
            rw [List.take_length] at gI
            refine ⟨gN, ?_⟩
            have s3 : Same G (upd G1 na (.dK kvs)) := fun b o e => by
              by_cases e1 : b = na
              · subst e1
                rw [hN3] at e
                cases e
                exact upd_same
              · rw [upd_ne e1]
                exact gK b o e1 (ne_of_none e hna2) e
            have gI3 : (upd G1 na (.dK kvs)) na2 = some (.dK kvs) := by rw [upd_ne nn.symm]; exact gI
            generalize upd G1 na (.dK kvs) = G3 at s3 gI3
            refine ⟨.ref q, rfl, .ref na2, rfl, .ref a, rfl, a, _, 1, .int x, rfl, rfl, SqT.same s3 sq3, at1, na2, _, rfl, DPut.k (k := Sum.inl x) gI3 (small1000 (by omega)), ?_⟩
            have s4 : Same G (upd G3 na2 (.dK (putK kvs (Sum.inl x) (.ref q)))) := fun b o e => by
              rw [upd_ne (ne_of_none e hna2)]
              exact s3 b o e
            have gI4 : (upd G3 na2 (.dK (putK kvs (Sum.inl x) (.ref q)))) na2 = some (.dK (putK kvs (Sum.inl x) (.ref q))) := upd_same
            generalize upd G3 na2 (.dK (putK kvs (Sum.inl x) (.ref q))) = G4 at s4 gI4
            have lp := length_putK kvs (Sum.inl x) (V.ref q)
            have sG4 := sG.trans s4
            refine ⟨.ref wa, rfl, .ref a, rfl, a, _, 2, vf, rfl, rfl, SqT.same s4 sq3, at2, .ref na2, rfl, .ref wa, vf, W, f, na2, putK kvs (Sum.inl x) (.ref q), setE e x (iter (fun X => val W f (setE e x X)) i (rng W.n)), rfl, ⟨wa, sa, pa, fas, pas, rfl, X3.same s4⟩, fit, hf.same sG4, by omega, gI4, by omega, nd_putW hnd, fun y hy => ?_, fun ra H5 s5 hra => ⟨_, _, _, ra, rfl, sG4.trans s5, hra⟩⟩
            rw [valV_put]
            unfold setE
            by_cases c : y = x
            · rw [if_pos (by rw [c]), if_pos c]
              exact ⟨q, rfl, s4 _ _ gq⟩
            · rw [if_neg (fun z => c (by injection z)), if_neg c]
              obtain ⟨b, b1, b2⟩ := henv1 y (by simp only [fv, if_pos (show One.most.bind = true from rfl), List.mem_filter, decide_eq_true_eq]; exact ⟨hy, c⟩)
              exact ⟨b, b1, sG4 _ _ b2⟩
        · rintro σ G ⟨y6, y7, y8, q, rfl, sG, gq⟩
          refine ⟨.ref q, rfl, k1 q _ sG ?_⟩
          have : (((W.n : Nat) : Int) + 1).toNat = W.n + 1 := by omega
          rw [this] at gq
          exact gq
end
end Fw

/-! Parts of worlds: what is true in one that lies in another. Pure mathematics. -/
namespace Fw
def Le (X Y : List Int) : Prop := ∀ s, sIn X s = true → sIn Y s = true
theorem Le.refl (X : List Int) : Le X X := fun _ h => h
/-- in order, of states alone -/
def Norm (n : Nat) (X : List Int) : Prop := X = flt n (sIn X)
theorem filter_sub {α : Type} {p q : α → Bool} (h : ∀ x, p x = true → q x = true) : ∀ l : List α, (l.filter p).Sublist (l.filter q)
  | [] => List.Sublist.slnil
  | x :: l => by
    have ih := filter_sub h l
    cases c : p x with
    | true =>
      rw [List.filter_cons_of_pos c, List.filter_cons_of_pos (h x c)]
      exact ih.cons₂ x
    | false =>
      rw [List.filter_cons_of_neg (by rw [c]; exact Bool.false_ne_true)]
      cases c2 : q x with
      | true => rw [List.filter_cons_of_pos c2]; exact ih.cons x
      | false => rw [List.filter_cons_of_neg (by rw [c2]; exact Bool.false_ne_true)]; exact ih
theorem flt_norm (n : Nat) (p : Int → Bool) : Norm n (flt n p) := by
  unfold Norm
  exact flt_congr fun s h0 h1 => (sIn_flt h0 h1).symm
theorem norm_nil (n : Nat) : Norm n [] := by
  unfold Norm flt
  exact (List.filter_eq_nil_iff.mpr fun _ _ h => by cases h).symm
theorem norm_rng (n : Nat) : Norm n (rng n) := by rw [rng_flt]; exact flt_norm n _
theorem sIn_iff {X : List Int} {s : Int} : sIn X s = true ↔ s ∈ X := decide_eq_true_iff
theorem mem_flt {n : Nat} {p : Int → Bool} {s : Int} : s ∈ flt n p ↔ (0 ≤ s ∧ s < (n : Int)) ∧ p s = true := by
  unfold flt
  rw [List.mem_filter, rng_mem]
theorem Norm.mem {n : Nat} {X : List Int} (h : Norm n X) {s : Int} (hs : s ∈ X) : 0 ≤ s ∧ s < (n : Int) := by
  rw [h] at hs
  exact (mem_flt.mp hs).1
theorem Norm.sub {n : Nat} {X Y : List Int} (hX : Norm n X) (hY : Norm n Y) (h : Le X Y) : X.Sublist Y := by
  rw [hX, hY]
  exact filter_sub h _
theorem Norm.eq {n : Nat} {X Y : List Int} (hX : Norm n X) (hY : Norm n Y) (h : ∀ s, s ∈ X ↔ s ∈ Y) : X = Y := by
  rw [hX, hY]
  exact flt_congr fun s _ _ => by
    cases e : sIn Y s with
    | true => exact sIn_iff.mpr ((h s).mpr (sIn_iff.mp e))
    | false =>
      cases e2 : sIn X s with
      | false => rfl
      | true => rw [sIn_iff.mpr ((h s).mp (sIn_iff.mp e2))] at e; cases e
theorem Norm.len {n : Nat} {X : List Int} (h : Norm n X) : X.length ≤ n := by
  rw [h]
  refine Nat.le_trans (List.length_filter_le _ _) ?_
  rw [rng_len]
  exact Nat.le_refl _
theorem fv_one' {k : One} {x : Int} {f : F} (hk : k.bind = true) {y : Int} (hy : y ∈ fv f) (hn : y ≠ x) : y ∈ fv (.one k x f) := by
  simp only [fv, if_pos hk, List.mem_filter, decide_eq_true_eq]
  exact ⟨hy, hn⟩
theorem setE_same {e : Int → List Int} {x : Int} {X : List Int} : setE e x X x = X := if_pos rfl
theorem setE_ne {e : Int → List Int} {x y : Int} {X : List Int} (h : y ≠ x) : setE e x X y = e y := if_neg h
theorem iter_norm {n : Nat} {f : List Int → List Int} (hf : ∀ X, Norm n X → Norm n (f X)) {X : List Int} (hX : Norm n X) : ∀ k, Norm n (iter f k X)
  | 0 => hX
  | k + 1 => hf _ (iter_norm hf hX k)
theorem val_norm {W : Wd} : ∀ (t : F) (e : Int → List Int), (∀ x ∈ fv t, Norm W.n (e x)) → Norm W.n (val W t e)
  | .nul b, e, h => by
    show Norm W.n (if b = true then rng W.n else [])
    split
    · exact norm_rng _
    · exact norm_nil _
  | .leaf .has n, e, h => flt_norm _ _
  | .leaf .lacks n, e, h => flt_norm _ _
  | .leaf .var x, e, h => h x (List.mem_singleton.mpr rfl)
  | .two b f g, e, h => by
    show Norm W.n (if b = true then flt _ _ else flt _ _)
    split <;> exact flt_norm _ _
  | .one .some l f, e, h => flt_norm _ _
  | .one .all l f, e, h => flt_norm _ _
  | .one .least x f, e, h => iter_norm (fun X hX => val_norm f _ fun y hy => by
      by_cases c : y = x
      · rw [c, setE_same]; exact hX
      · rw [setE_ne c]; exact h y (fv_one' rfl hy c)) (norm_nil _) _
  | .one .most x f, e, h => iter_norm (fun X hX => val_norm f _ fun y hy => by
      by_cases c : y = x
      · rw [c, setE_same]; exact hX
      · rw [setE_ne c]; exact h y (fv_one' rfl hy c)) (norm_rng _) _
theorem Le.flt {n : Nat} {p q : Int → Bool} (h : ∀ s, p s = true → q s = true) : Le (flt n p) (flt n q) := fun s hs => by
  rw [sIn_iff, mem_flt] at hs ⊢
  exact ⟨hs.1, h s hs.2⟩
theorem iter_le {f g : List Int → List Int} (h : ∀ X Y, Le X Y → Le (f X) (g Y)) {X Y : List Int} (hX : Le X Y) : ∀ k, Le (iter f k X) (iter g k Y)
  | 0 => hX
  | k + 1 => h _ _ (iter_le h hX k)
theorem len_filter_le {α : Type} {p q : α → Bool} (h : ∀ x, p x = true → q x = true) (l : List α) : (l.filter p).length ≤ (l.filter q).length :=
  (filter_sub h l).length_le
theorem val_le {W : Wd} : ∀ (t : F) (e e' : Int → List Int), (∀ x ∈ fv t, Le (e x) (e' x)) → Le (val W t e) (val W t e')
  | .nul b, e, e', h => Le.refl _
  | .leaf .has n, e, e', h => Le.refl _
  | .leaf .lacks n, e, e', h => Le.refl _
  | .leaf .var x, e, e', h => h x (List.mem_singleton.mpr rfl)
  | .two b f g, e, e', h => by
    have hf := val_le (W := W) f e e' fun x hx => h x (List.mem_append_left _ hx)
    have hg := val_le (W := W) g e e' fun x hx => h x (List.mem_append_right _ hx)
    show Le (if b = true then Fw.flt _ _ else Fw.flt _ _) (if b = true then Fw.flt _ _ else Fw.flt _ _)
    cases b
    · rw [if_neg Bool.false_ne_true, if_neg Bool.false_ne_true]
      refine Le.flt fun s hs => ?_
      rw [Bool.or_eq_true] at hs ⊢
      exact hs.imp (hg s) (hf s)
    · rw [if_pos rfl, if_pos rfl]
      refine Le.flt fun s hs => ?_
      rw [Bool.and_eq_true] at hs ⊢
      exact ⟨hg s hs.1, hf s hs.2⟩
  | .one .some l f, e, e', h => by
    have hf := val_le (W := W) f e e' h
    refine Le.flt fun s hs => ?_
    rw [decide_eq_true_eq] at hs ⊢
    have := len_filter_le (fun x => hf x) (W.beh s l)
    omega
  | .one .all l f, e, e', h => by
    have hf := val_le (W := W) f e e' h
    refine Le.flt fun s hs => ?_
    rw [decide_eq_true_eq] at hs ⊢
    have := len_filter_le (p := fun k => !sIn (val W f e') k) (q := fun k => !sIn (val W f e) k) (fun x hx => by
      cases c : sIn (val W f e) x with
      | false => rfl
      | true => rw [hf x c] at hx; cases hx) (W.beh s l)
    omega
  | .one .least x f, e, e', h => iter_le (fun X Y hXY => val_le f _ _ fun y hy => by
      by_cases c : y = x
      · rw [c, setE_same, setE_same]; exact hXY
      · rw [setE_ne c, setE_ne c]; exact h y (fv_one' rfl hy c)) (Le.refl _) _
  | .one .most x f, e, e', h => iter_le (fun X Y hXY => val_le f _ _ fun y hy => by
      by_cases c : y = x
      · rw [c, setE_same, setE_same]; exact hXY
      · rw [setE_ne c, setE_ne c]; exact h y (fv_one' rfl hy c)) (Le.refl _) _
/-! ### a chain comes to rest -/
theorem iter_rest {f : List Int → List Int} {X : List Int} {j : Nat} (h : iter f (j + 1) X = iter f j X) : ∀ i, iter f (j + i) X = iter f j X
  | 0 => rfl
  | i + 1 => by
    show f (iter f (j + i) X) = _
    rw [iter_rest h i]
    exact h
theorem rest_of {f : List Int → List Int} {X : List Int} {n : Nat} (h : ∃ j, j ≤ n ∧ iter f (j + 1) X = iter f j X) {k : Nat} (hk : n ≤ k) : iter f k X = iter f n X := by
  obtain ⟨j, hj, e⟩ := h
  have h1 := iter_rest e (k - j)
  have h2 := iter_rest e (n - j)
  rw [show j + (k - j) = k by omega] at h1
  rw [show j + (n - j) = n by omega] at h2
  rw [h1, h2]
theorem rest_up {f : List Int → List Int} {X : List Int} {n : Nat} (hn : ∀ k, Norm n (iter f k X)) (hs : ∀ k, Le (iter f k X) (iter f (k + 1) X)) : ∃ j, j ≤ n ∧ iter f (j + 1) X = iter f j X := by
  apply Classical.byContradiction
  intro no
  have up : ∀ j, j ≤ n + 1 → j ≤ (iter f j X).length := fun j => by
    induction j with
    | zero => intro _; exact Nat.zero_le _
    | succ j ih =>
      intro hj
      have sub := (hn j).sub (hn (j + 1)) (hs j)
      have ne : (iter f j X).length ≠ (iter f (j + 1) X).length := fun e => no ⟨j, by omega, (sub.eq_of_length e).symm⟩
      have := sub.length_le
      have := ih (by omega)
      omega
  have := up (n + 1) (Nat.le_refl _)
  have := (hn (n + 1)).len
  omega
theorem rest_dn {f : List Int → List Int} {X : List Int} {n : Nat} (hn : ∀ k, Norm n (iter f k X)) (hs : ∀ k, Le (iter f (k + 1) X) (iter f k X)) : ∃ j, j ≤ n ∧ iter f (j + 1) X = iter f j X := by
  apply Classical.byContradiction
  intro no
  have dn : ∀ j, j ≤ n + 1 → (iter f j X).length + j ≤ n := fun j => by
    induction j with
    | zero => intro _; exact (hn 0).len
    | succ j ih =>
      intro hj
      have sub := (hn (j + 1)).sub (hn j) (hs j)
      have ne : (iter f (j + 1) X).length ≠ (iter f j X).length := fun e => no ⟨j, by omega, sub.eq_of_length e⟩
      have := sub.length_le
      have := ih (by omega)
      omega
  have := dn (n + 1) (Nat.le_refl _)
  omega
theorem least_rest {W : Wd} {f : F} {x : Int} {e : Int → List Int} (h : ∀ y ∈ fv (.one .least x f), Norm W.n (e y)) {k : Nat} (hk : W.n ≤ k) :
    iter (fun X => val W f (setE e x X)) k [] = iter (fun X => val W f (setE e x X)) (W.n + 1) [] := by
  have N := iter_norm (n := W.n) (f := fun X => val W f (setE e x X)) (fun X hX => val_norm f _ fun y hy => by
      by_cases c : y = x
      · rw [c, setE_same]; exact hX
      · rw [setE_ne c]; exact h y (fv_one' rfl hy c)) (norm_nil _)
  have M : ∀ X Y, Le X Y → Le (val W f (setE e x X)) (val W f (setE e x Y)) := fun X Y hXY => val_le f _ _ fun y hy => by
      by_cases c : y = x
      · rw [c, setE_same, setE_same]; exact hXY
      · rw [setE_ne c, setE_ne c]; exact Le.refl _
  have S : ∀ k, Le (iter (fun X => val W f (setE e x X)) k []) (iter (fun X => val W f (setE e x X)) (k + 1) []) := fun k => by
    induction k with
    | zero => exact fun s hs => by cases hs
    | succ k ih => exact M _ _ ih
  have R := rest_up N S
  rw [rest_of R hk, rest_of R (Nat.le_succ _)]
theorem most_rest {W : Wd} {f : F} {x : Int} {e : Int → List Int} (h : ∀ y ∈ fv (.one .most x f), Norm W.n (e y)) {k : Nat} (hk : W.n ≤ k) :
    iter (fun X => val W f (setE e x X)) k (rng W.n) = iter (fun X => val W f (setE e x X)) (W.n + 1) (rng W.n) := by
  have N := iter_norm (n := W.n) (f := fun X => val W f (setE e x X)) (fun X hX => val_norm f _ fun y hy => by
      by_cases c : y = x
      · rw [c, setE_same]; exact hX
      · rw [setE_ne c]; exact h y (fv_one' rfl hy c)) (norm_rng _)
  have M : ∀ X Y, Le X Y → Le (val W f (setE e x X)) (val W f (setE e x Y)) := fun X Y hXY => val_le f _ _ fun y hy => by
      by_cases c : y = x
      · rw [c, setE_same, setE_same]; exact hXY
      · rw [setE_ne c, setE_ne c]; exact Le.refl _
  have S : ∀ k, Le (iter (fun X => val W f (setE e x X)) (k + 1) (rng W.n)) (iter (fun X => val W f (setE e x X)) k (rng W.n)) := fun k => by
    induction k with
    | zero => exact fun s hs => sIn_iff.mpr (rng_mem.mpr ((N 1).mem (sIn_iff.mp hs)))
    | succ k ih => exact M _ _ ih
  have R := rest_dn N S
  rw [rest_of R hk, rest_of R (Nat.le_succ _)]
/-! ### a world that lies in another -/
def pull (m : Nat) (g : Int → Int) (X : List Int) : List Int := flt m fun k => sIn X (g k)
structure Emb (V W : Wd) (g : Int → Int) : Prop where
  to : ∀ k : Int, 0 ≤ k → k < V.n → 0 ≤ g k ∧ g k < W.n
  fa : ∀ k : Int, 0 ≤ k → k < V.n → ∀ x, sIn (V.at k) x = sIn (W.at (g k)) x
  fo : ∀ k : Int, 0 ≤ k → k < V.n → ∀ l j, j ∈ V.beh k l → 0 ≤ j ∧ j < V.n ∧ g j ∈ W.beh (g k) l
  ba : ∀ k : Int, 0 ≤ k → k < V.n → ∀ l y, y ∈ W.beh (g k) l → ∃ j, j ∈ V.beh k l ∧ g j = y
theorem filter_pos {α : Type} {p : α → Bool} {l : List α} : 0 < ((l.filter p).length : Int) ↔ ∃ x ∈ l, p x = true := by
  constructor
  · intro h
    have : 0 < (l.filter p).length := by omega
    obtain ⟨x, hx⟩ := List.exists_mem_of_length_pos this
    exact ⟨x, (List.mem_filter.mp hx).1, (List.mem_filter.mp hx).2⟩
  · rintro ⟨x, hx, px⟩
    have : x ∈ l.filter p := List.mem_filter.mpr ⟨hx, px⟩
    have := List.length_pos_of_mem this
    omega
theorem filter_zero {α : Type} {p : α → Bool} {l : List α} : ((l.filter p).length : Int) = 0 ↔ ∀ x ∈ l, p x = false := by
  constructor
  · intro h x hx
    have : (l.filter p) = [] := List.length_eq_zero_iff.mp (by omega)
    have := List.filter_eq_nil_iff.mp this x hx
    cases c : p x with
    | false => rfl
    | true => exact absurd c this
  · intro h
    rw [List.filter_eq_nil_iff.mpr fun x hx => by rw [h x hx]; exact Bool.false_ne_true]
    rfl
theorem sIn_pull {m : Nat} {g : Int → Int} {X : List Int} {k : Int} (h0 : 0 ≤ k) (h1 : k < (m : Int)) : sIn (pull m g X) k = sIn X (g k) := sIn_flt h0 h1
theorem val_emb {V W : Wd} {g : Int → Int} (E : Emb V W g) : ∀ (t : F) (d e : Int → List Int), (∀ x ∈ fv t, Norm W.n (e x)) → (∀ x ∈ fv t, d x = pull V.n g (e x)) → val V t d = pull V.n g (val W t e)
  | .nul b, d, e, hn, h => by
    show (if b = true then rng V.n else []) = pull V.n g (if b = true then rng W.n else [])
    cases b
    · rw [if_neg Bool.false_ne_true, if_neg Bool.false_ne_true]
      exact (List.filter_eq_nil_iff.mpr fun _ _ h => by cases h).symm
    · rw [if_pos rfl, if_pos rfl, rng_flt]
      exact flt_congr fun s h0 h1 => (sIn_iff.mpr (rng_mem.mpr (E.to s h0 h1))).symm
  | .leaf .has n, d, e, hn, h => by
    show flt V.n _ = pull V.n g (flt W.n _)
    exact flt_congr fun s h0 h1 => by rw [sIn_flt (E.to s h0 h1).1 (E.to s h0 h1).2, E.fa s h0 h1]
  | .leaf .lacks n, d, e, hn, h => by
    show flt V.n _ = pull V.n g (flt W.n _)
    exact flt_congr fun s h0 h1 => by rw [sIn_flt (E.to s h0 h1).1 (E.to s h0 h1).2, E.fa s h0 h1]
  | .leaf .var x, d, e, hn, h => h x (List.mem_singleton.mpr rfl)
  | .two b f t, d, e, hn, h => by
    have hf := val_emb E f d e (fun x hx => hn x (List.mem_append_left _ hx)) fun x hx => h x (List.mem_append_left _ hx)
    have ht := val_emb E t d e (fun x hx => hn x (List.mem_append_right _ hx)) fun x hx => h x (List.mem_append_right _ hx)
    show (if b = true then flt _ _ else flt _ _) = pull V.n g (if b = true then flt _ _ else flt _ _)
    rw [hf, ht]
    cases b
    · rw [if_neg Bool.false_ne_true, if_neg Bool.false_ne_true]
      exact flt_congr fun s h0 h1 => by rw [sIn_flt (E.to s h0 h1).1 (E.to s h0 h1).2, sIn_pull h0 h1, sIn_pull h0 h1]
    · rw [if_pos rfl, if_pos rfl]
      exact flt_congr fun s h0 h1 => by rw [sIn_flt (E.to s h0 h1).1 (E.to s h0 h1).2, sIn_pull h0 h1, sIn_pull h0 h1]
  | .one .some l f, d, e, hn, h => by
    have hf := val_emb E f d e hn h
    show flt V.n _ = pull V.n g (flt W.n _)
    rw [hf]
    refine flt_congr fun s h0 h1 => ?_
    rw [sIn_flt (E.to s h0 h1).1 (E.to s h0 h1).2]
    refine decide_eq_decide.mpr ?_
    rw [filter_pos, filter_pos]
    constructor
    · rintro ⟨j, hj, pj⟩
      obtain ⟨j0, j1, jg⟩ := E.fo s h0 h1 l j hj
      exact ⟨g j, jg, by rw [sIn_pull j0 j1] at pj; exact pj⟩
    · rintro ⟨y, hy, py⟩
      obtain ⟨j, hj, rfl⟩ := E.ba s h0 h1 l y hy
      obtain ⟨j0, j1, jg⟩ := E.fo s h0 h1 l j hj
      exact ⟨j, hj, by rw [sIn_pull j0 j1]; exact py⟩
  | .one .all l f, d, e, hn, h => by
    have hf := val_emb E f d e hn h
    show flt V.n _ = pull V.n g (flt W.n _)
    rw [hf]
    refine flt_congr fun s h0 h1 => ?_
    rw [sIn_flt (E.to s h0 h1).1 (E.to s h0 h1).2]
    refine decide_eq_decide.mpr ?_
    rw [filter_zero, filter_zero]
    constructor
    · intro q y hy
      obtain ⟨j, hj, rfl⟩ := E.ba s h0 h1 l y hy
      obtain ⟨j0, j1, jg⟩ := E.fo s h0 h1 l j hj
      have := q j hj
      rw [sIn_pull j0 j1] at this
      exact this
    · intro q j hj
      obtain ⟨j0, j1, jg⟩ := E.fo s h0 h1 l j hj
      rw [sIn_pull j0 j1]
      exact q _ jg
  | .one .least x f, d, e, hn, h => by
    have dn : ∀ y ∈ fv (.one .least x f), Norm V.n (d y) := fun y hy => by rw [h y hy]; exact flt_norm _ _
    have N := iter_norm (n := W.n) (f := fun X => val W f (setE e x X)) (fun X hX => val_norm f _ fun y hy => by
      by_cases c : y = x
      · rw [c, setE_same]; exact hX
      · rw [setE_ne c]; exact hn y (fv_one' rfl hy c)) (norm_nil _)
    have key : ∀ k, iter (fun X => val V f (setE d x X)) k [] = pull V.n g (iter (fun X => val W f (setE e x X)) k []) := fun k => by
      induction k with
      | zero => exact (List.filter_eq_nil_iff.mpr fun _ _ h => by cases h).symm
      | succ k ih =>
        show val V f (setE d x _) = pull V.n g (val W f (setE e x _))
        refine val_emb E f _ _ (fun y hy => ?_) fun y hy => ?_
        · by_cases c : y = x
          · rw [c, setE_same]; exact N k
          · rw [setE_ne c]; exact hn y (fv_one' rfl hy c)
        · by_cases c : y = x
          · rw [c, setE_same, setE_same]; exact ih
          · rw [setE_ne c, setE_ne c]; exact h y (fv_one' rfl hy c)
    show iter (fun X => val V f (setE d x X)) (V.n + 1) [] = pull V.n g (iter (fun X => val W f (setE e x X)) (W.n + 1) [])
    rw [← least_rest dn (show V.n ≤ V.n + W.n by omega), ← least_rest hn (show W.n ≤ V.n + W.n by omega)]
    exact key _
  | .one .most x f, d, e, hn, h => by
    have dn : ∀ y ∈ fv (.one .most x f), Norm V.n (d y) := fun y hy => by rw [h y hy]; exact flt_norm _ _
    have N := iter_norm (n := W.n) (f := fun X => val W f (setE e x X)) (fun X hX => val_norm f _ fun y hy => by
      by_cases c : y = x
      · rw [c, setE_same]; exact hX
      · rw [setE_ne c]; exact hn y (fv_one' rfl hy c)) (norm_rng _)
    have key : ∀ k, iter (fun X => val V f (setE d x X)) k (rng V.n) = pull V.n g (iter (fun X => val W f (setE e x X)) k (rng W.n)) := fun k => by
      induction k with
      | zero =>
        show rng V.n = flt V.n _
        rw [rng_flt]
        exact flt_congr fun s h0 h1 => (sIn_iff.mpr (show g s ∈ rng W.n from rng_mem.mpr (E.to s h0 h1))).symm
      | succ k ih =>
        show val V f (setE d x _) = pull V.n g (val W f (setE e x _))
        refine val_emb E f _ _ (fun y hy => ?_) fun y hy => ?_
        · by_cases c : y = x
          · rw [c, setE_same]; exact N k
          · rw [setE_ne c]; exact hn y (fv_one' rfl hy c)
        · by_cases c : y = x
          · rw [c, setE_same, setE_same]; exact ih
          · rw [setE_ne c, setE_ne c]; exact h y (fv_one' rfl hy c)
    show iter (fun X => val V f (setE d x X)) (V.n + 1) (rng V.n) = pull V.n g (iter (fun X => val W f (setE e x X)) (W.n + 1) (rng W.n))
    rw [← most_rest dn (show V.n ≤ V.n + W.n by omega), ← most_rest hn (show W.n ≤ V.n + W.n by omega)]
    exact key _
end Fw

/-! What is reached from some states, and the world of it. Pure mathematics. -/
namespace Fw
def addO (o : List Int) (x : Int) : List Int := if x ∈ o then o else o ++ [x]
def addsO (o : List Int) (xs : List Int) : List Int := xs.foldl addO o
def growO (ss : List T3) (o : List Int) (s : Int) : List Int := addsO (addsO o (begS ss s 0)) (begS ss s 1)
def bfs (ss : List T3) (o : List Int) : Nat → List Int
  | 0 => o
  | k + 1 => match (bfs ss o k)[k]? with
    | some s => growO ss (bfs ss o k) s
    | none => bfs ss o k
theorem addO_pre (o : List Int) (x : Int) : ∃ r, addO o x = o ++ r := by
  unfold addO
  split
  · exact ⟨[], (List.append_nil _).symm⟩
  · exact ⟨[x], rfl⟩
theorem addO_mem {o : List Int} {x y : Int} : y ∈ addO o x ↔ y ∈ o ∨ y = x := by
  unfold addO
  split
  · rename_i h
    exact ⟨.inl, fun z => z.elim id fun e => by rw [e]; exact h⟩
  · rw [List.mem_append, List.mem_singleton]
theorem addO_nd {o : List Int} {x : Int} (h : o.Nodup) : (addO o x).Nodup := by
  unfold addO
  split
  · exact h
  · rename_i n
    exact List.nodup_append.mpr ⟨h, List.nodup_cons.mpr ⟨List.not_mem_nil, List.nodup_nil⟩, fun a ha b hb e => n (by rw [List.mem_singleton.mp hb] at e; rw [← e]; exact ha)⟩
theorem addsO_pre : ∀ (xs o : List Int), ∃ r, addsO o xs = o ++ r
  | [], o => ⟨[], (List.append_nil _).symm⟩
  | x :: xs, o => by
    obtain ⟨r1, e1⟩ := addO_pre o x
    obtain ⟨r2, e2⟩ := addsO_pre xs (addO o x)
    refine ⟨r1 ++ r2, ?_⟩
    show addsO (addO o x) xs = _
    rw [e2, e1, List.append_assoc]
theorem addsO_mem : ∀ {xs o : List Int} {y : Int}, y ∈ addsO o xs ↔ y ∈ o ∨ y ∈ xs
  | [], o, y => by show y ∈ o ↔ _; simp
  | x :: xs, o, y => by
    show y ∈ addsO (addO o x) xs ↔ _
    rw [addsO_mem, addO_mem, List.mem_cons, or_assoc]
theorem addsO_nd : ∀ {xs o : List Int}, o.Nodup → (addsO o xs).Nodup
  | [], o, h => h
  | x :: xs, o, h => addsO_nd (xs := xs) (addO_nd h)
theorem addsO_snoc (o xs : List Int) (x : Int) : addsO o (xs ++ [x]) = addO (addsO o xs) x := by
  unfold addsO
  rw [List.foldl_append]
  rfl
theorem grow_pre (ss : List T3) (o : List Int) (s : Int) : ∃ r, growO ss o s = o ++ r := by
  obtain ⟨r1, e1⟩ := addsO_pre (begS ss s 0) o
  obtain ⟨r2, e2⟩ := addsO_pre (begS ss s 1) (addsO o (begS ss s 0))
  refine ⟨r1 ++ r2, ?_⟩
  unfold growO
  rw [e2, e1, List.append_assoc]
theorem grow_mem {ss : List T3} {o : List Int} {s y : Int} : y ∈ growO ss o s ↔ y ∈ o ∨ y ∈ begS ss s 0 ∨ y ∈ begS ss s 1 := by
  unfold growO
  rw [addsO_mem, addsO_mem, or_assoc]
structure Ord (n : Nat) (o : List Int) : Prop where
  nd : o.Nodup
  ra : ∀ x ∈ o, 0 ≤ x ∧ x < (n : Int)
theorem few_nd : ∀ {n : Nat} {o : List Int}, Ord n o → o.length ≤ n
  | 0, [], _ => Nat.le_refl _
  | 0, x :: o, h => by have := h.ra x List.mem_cons_self; omega
  | n + 1, o, h => by
    have ih := few_nd (n := n) (o := o.erase (n : Int)) ⟨h.nd.erase _, fun x hx => by
      have := (List.Nodup.mem_erase_iff h.nd).mp hx
      have := h.ra x this.2
      omega⟩
    have := List.length_erase (a := (n : Int)) (l := o)
    split at this <;> omega
theorem ends_in {ss : List T3} {n : Nat} (hs : ∀ p ∈ ss, 0 ≤ p.2.2 ∧ p.2.2 < (n : Int)) {s l y : Int} (h : y ∈ begS ss s l) : 0 ≤ y ∧ y < (n : Int) := by
  obtain ⟨p, hp, rfl⟩ := List.mem_map.mp h
  exact hs p (List.mem_filter.mp hp).1
theorem grow_ord {ss : List T3} {n : Nat} (hs : ∀ p ∈ ss, 0 ≤ p.2.2 ∧ p.2.2 < (n : Int)) {o : List Int} (h : Ord n o) (s : Int) : Ord n (growO ss o s) :=
  ⟨addsO_nd (addsO_nd h.nd), fun x hx => by
    rcases grow_mem.mp hx with z | z | z
    · exact h.ra x z
    · exact ends_in hs z
    · exact ends_in hs z⟩
theorem bfs_ord {ss : List T3} {n : Nat} (hs : ∀ p ∈ ss, 0 ≤ p.2.2 ∧ p.2.2 < (n : Int)) {o : List Int} (h : Ord n o) : ∀ k, Ord n (bfs ss o k)
  | 0 => h
  | k + 1 => by
    have ih := bfs_ord hs h k
    unfold bfs
    split
    · exact grow_ord hs ih _
    · exact ih
theorem bfs_pre (ss : List T3) (o : List Int) (k : Nat) : ∃ r, bfs ss o (k + 1) = bfs ss o k ++ r := by
  show ∃ r, (match (bfs ss o k)[k]? with | some s => growO ss (bfs ss o k) s | none => bfs ss o k) = bfs ss o k ++ r
  split
  · exact grow_pre _ _ _
  · exact ⟨[], (List.append_nil _).symm⟩
theorem bfs_pres (ss : List T3) (o : List Int) (k : Nat) : ∀ i, ∃ r, bfs ss o (k + i) = bfs ss o k ++ r
  | 0 => ⟨[], (List.append_nil _).symm⟩
  | i + 1 => by
    obtain ⟨r1, e1⟩ := bfs_pres ss o k i
    obtain ⟨r2, e2⟩ := bfs_pre ss o (k + i)
    exact ⟨r1 ++ r2, by rw [show k + (i + 1) = k + i + 1 from rfl, e2, e1, List.append_assoc]⟩
theorem bfs_more {ss : List T3} {o : List Int} {k : Nat} {s : Int} (h : (bfs ss o k)[k]? = some s) : bfs ss o (k + 1) = growO ss (bfs ss o k) s := by
  show (match (bfs ss o k)[k]? with | some s => _ | none => _) = _
  rw [h]
theorem bfs_stop {ss : List T3} {o : List Int} {k : Nat} (h : (bfs ss o k).length ≤ k) : ∀ i, bfs ss o (k + i) = bfs ss o k
  | 0 => rfl
  | i + 1 => by
    have ih := bfs_stop h i
    show (match (bfs ss o (k + i))[k + i]? with | some s => _ | none => _) = _
    rw [ih, List.getElem?_eq_none (by omega)]
    exact ih
/-- at the fifth turn all is done -/
theorem bfs_end {ss : List T3} {o : List Int} {k : Nat} (h : (bfs ss o k).length ≤ k) (hk : k ≤ 5) : bfs ss o k = bfs ss o 5 := by
  have := bfs_stop h (5 - k)
  rw [show k + (5 - k) = 5 by omega] at this
  exact this.symm
theorem bfs_shut {ss : List T3} {o : List Int} {m : Nat} (h : (bfs ss o m).length ≤ m) {s : Int} (hs : s ∈ bfs ss o m) {y : Int} (hy : y ∈ begS ss s 0 ∨ y ∈ begS ss s 1) : y ∈ bfs ss o m := by
  obtain ⟨i, hi, e⟩ := List.getElem_of_mem hs
  have im : i < m := by omega
  have gi : (bfs ss o i)[i]? = some s := by
    by_cases c : i < (bfs ss o i).length
    · obtain ⟨r, er⟩ := bfs_pres ss o i (m - i)
      rw [show i + (m - i) = m by omega] at er
      rw [List.getElem?_eq_getElem c]
      have : (bfs ss o m)[i]? = some s := by rw [List.getElem?_eq_getElem hi, e]
      rw [er, List.getElem?_append_left c, List.getElem?_eq_getElem c] at this
      exact this
    · have st := bfs_stop (ss := ss) (o := o) (k := i) (by omega) (m - i)
      rw [show i + (m - i) = m by omega] at st
      rw [st] at hi
      omega
  have g1 : y ∈ bfs ss o (i + 1) := by
    rw [bfs_more gi]
    exact grow_mem.mpr (.inr hy)
  obtain ⟨r, er⟩ := bfs_pres ss o (i + 1) (m - (i + 1))
  rw [show i + 1 + (m - (i + 1)) = m by omega] at er
  rw [er]
  exact List.mem_append_left _ g1
theorem bfs_from {ss : List T3} {o : List Int} {x : Int} (h : x ∈ o) (k : Nat) : x ∈ bfs ss o k := by
  obtain ⟨r, e⟩ := bfs_pres ss o 0 k
  rw [Nat.zero_add] at e
  rw [e]
  exact List.mem_append_left _ h
/-! ### places -/
def idO : List Int → Int → Nat
  | [], _ => 0
  | y :: l, x => if y = x then 0 else idO l x + 1
theorem idO_get : ∀ {o : List Int} {x : Int}, x ∈ o → o[idO o x]? = some x
  | y :: l, x, h => by
    unfold idO
    split
    · rename_i e; rw [e]; rfl
    · rename_i e
      rcases List.mem_cons.mp h with z | z
      · exact absurd z.symm e
      · rw [List.getElem?_cons_succ]; exact idO_get z
theorem idO_lt {o : List Int} {x : Int} (h : x ∈ o) : idO o x < o.length := (List.getElem?_eq_some_iff.mp (idO_get h)).1
theorem idO_first : ∀ {o : List Int} {x : Int} {m : Nat}, m < idO o x → ∀ z, o[m]? = some z → z ≠ x
  | [], x, m, h, z, e => by cases e
  | y :: l, x, m, h, z, e => by
    unfold idO at h
    split at h
    · omega
    · rename_i n
      cases m with
      | zero => cases e; exact n
      | succ m => exact idO_first (o := l) (m := m) (by omega) z (by simpa using e)
theorem idO_at {o : List Int} (nd : o.Nodup) {i : Nat} {x : Int} (h : o[i]? = some x) : idO o x = i := by
  have h2 := idO_get (List.mem_of_getElem? h)
  obtain ⟨l1, e1⟩ := List.getElem?_eq_some_iff.mp h
  obtain ⟨l2, e2⟩ := List.getElem?_eq_some_iff.mp h2
  exact (List.getElem_inj nd).mp (e2.trans e1.symm)
theorem idO_inj {o : List Int} {x y : Int} (hx : x ∈ o) (hy : y ∈ o) (e : idO o x = idO o y) : x = y := by
  have := idO_get hx
  rw [e, idO_get hy] at this
  exact (Option.some.inj this).symm
/-- the world of what is reached -/
def stO (o : List Int) (k : Int) : Int := (o[k.toNat]?).getD 0
def ptS (ss : List T3) (o : List Int) : List T3 := (ss.filter fun p => sIn o p.1).map fun p => ((idO o p.1 : Int), p.2.1, (idO o p.2.2 : Int))
theorem ptS_snoc (ss : List T3) (p : T3) (o : List Int) : ptS (ss ++ [p]) o = ptS ss o ++ (if sIn o p.1 = true then [((idO o p.1 : Int), p.2.1, (idO o p.2.2 : Int))] else []) := by
  unfold ptS
  rw [List.filter_append, List.map_append]
  congr 1
  cases c : sIn o p.1
  · simp [c]
  · simp [c]
theorem stO_nat {o : List Int} {i : Nat} {x : Int} (h : o[i]? = some x) : stO o (i : Int) = x := by
  unfold stO
  rw [Int.toNat_natCast, h]
  rfl
theorem stO_id {o : List Int} {x : Int} (h : x ∈ o) : stO o (idO o x : Int) = x := stO_nat (idO_get h)
theorem stO_mem {o : List Int} {k : Int} (h0 : 0 ≤ k) (h1 : k < (o.length : Int)) : stO o k ∈ o ∧ idO o (stO o k) = idO o (stO o k) := by
  refine ⟨?_, rfl⟩
  have l : k.toNat < o.length := by omega
  unfold stO
  rw [List.getElem?_eq_getElem l]
  exact List.getElem_mem l
theorem stO_back {o : List Int} (nd : o.Nodup) {k : Int} (h0 : 0 ≤ k) (h1 : k < (o.length : Int)) : (idO o (stO o k) : Int) = k := by
  have l : k.toNat < o.length := by omega
  have : stO o k = o[k.toNat] := by unfold stO; rw [List.getElem?_eq_getElem l]; rfl
  rw [this, idO_at nd (List.getElem?_eq_getElem l)]
  omega
theorem mem_beg {ss : List T3} {s l y : Int} : y ∈ begS ss s l ↔ (s, l, y) ∈ ss := by
  unfold begS
  rw [List.mem_map]
  constructor
  · rintro ⟨⟨a, b, c⟩, h, rfl⟩
    have := List.mem_filter.mp h
    rw [Bool.and_eq_true, decide_eq_true_eq, decide_eq_true_eq] at this
    obtain ⟨h1, rfl, rfl⟩ := this
    exact h1
  · intro h
    exact ⟨_, List.mem_filter.mpr ⟨h, by rw [Bool.and_eq_true, decide_eq_true_eq, decide_eq_true_eq]; exact ⟨rfl, rfl⟩⟩, rfl⟩
theorem mem_ptS {ss : List T3} {o : List Int} {q : T3} : q ∈ ptS ss o ↔ ∃ p ∈ ss, p.1 ∈ o ∧ q = ((idO o p.1 : Int), p.2.1, (idO o p.2.2 : Int)) := by
  unfold ptS
  rw [List.mem_map]
  constructor
  · rintro ⟨p, hp, rfl⟩
    exact ⟨p, (List.mem_filter.mp hp).1, sIn_iff.mp (List.mem_filter.mp hp).2, rfl⟩
  · rintro ⟨p, hp, ho, rfl⟩
    exact ⟨p, List.mem_filter.mpr ⟨hp, sIn_iff.mpr ho⟩, rfl⟩
theorem ptS_nd {ss : List T3} {o : List Int} (nd : ss.Nodup) (shut : ∀ p ∈ ss, p.1 ∈ o → p.2.2 ∈ o) : (ptS ss o).Nodup := by
  unfold ptS
  rw [List.Nodup, List.pairwise_map]
  refine (List.Pairwise.sublist List.filter_sublist nd).imp_of_mem fun {a b} ha hb ne e => ne ?_
  have ma := List.mem_filter.mp ha
  have mb := List.mem_filter.mp hb
  have a1 := sIn_iff.mp ma.2
  have b1 := sIn_iff.mp mb.2
  have e1 : (idO o a.1 : Int) = (idO o b.1 : Int) := congrArg Prod.fst e
  have e2 : a.2.1 = b.2.1 := congrArg (fun q => q.2.1) e
  have e3 : (idO o a.2.2 : Int) = (idO o b.2.2 : Int) := congrArg (fun q => q.2.2) e
  have q1 := idO_inj a1 b1 (by omega)
  have q3 := idO_inj (shut _ ma.1 a1) (shut _ mb.1 b1) (by omega)
  exact Prod.ext q1 (Prod.ext e2 q3)
/-- weakly in order and none twice: in order -/
theorem strict_of {a : List T3} (h : a.Pairwise fun x y => lex3 y x = false) (nd : a.Nodup) : a.Pairwise fun x y => lex3 x y = true :=
  (List.pairwise_and_iff.mpr ⟨h, nd⟩).imp fun {x y} z => by
    cases c : lex3 x y with
    | true => rfl
    | false => exact absurd (lex3_anti c z.1) z.2
theorem strict_nd {a : List T3} (h : a.Pairwise fun x y => lex3 x y = true) : a.Nodup := h.imp fun {x y} z e => by
  rw [e, lex3_irr] at z
  cases z
/-- the part of a world lies in it -/
theorem emb_part {W : Wd} {o : List Int} {ss : List T3} (O : Ord W.n o) (hw : ∀ p ∈ W.steps, 0 ≤ p.2.1 ∧ p.2.1 < 2) (pe : ss.Perm (ptS W.steps o)) (shut : ∀ p ∈ W.steps, p.1 ∈ o → p.2.2 ∈ o) :
    Emb ⟨o.map W.at, ss⟩ W (stO o) := by
  have nV : ∀ k : Int, k < ((Wd.n ⟨o.map W.at, ss⟩ : Nat) : Int) → k < (o.length : Int) := fun k h => by
    unfold Wd.n at h
    rw [List.length_map] at h
    exact h
  refine ⟨fun k h0 h1 => O.ra _ (stO_mem h0 (nV k h1)).1, fun k h0 h1 x => ?_, fun k h0 h1 l j hj => ?_, fun k h0 h1 l y hy => ?_⟩
  · have l : k.toNat < o.length := by have := nV k h1; omega
    have e : Wd.at ⟨o.map W.at, ss⟩ k = W.at (stO o k) := by
      show ((o.map W.at)[k.toNat]?).getD [] = _
      unfold stO
      rw [List.getElem?_map, List.getElem?_eq_getElem l]
      rfl
    rw [e]
  · rw [beh_begS, mem_beg] at hj
    obtain ⟨p, hp, ho, e⟩ := mem_ptS.mp (pe.mem_iff.mp hj)
    simp only [Prod.mk.injEq] at e
    obtain ⟨e1, e2, e3⟩ := e
    have s1 := shut p hp ho
    have := idO_lt s1
    refine ⟨by omega, by unfold Wd.n; rw [List.length_map]; omega, ?_⟩
    rw [beh_begS, mem_beg, e1, e2, e3, stO_id ho, stO_id s1]
    exact hp
  · rw [beh_begS, mem_beg] at hy
    have ho := (stO_mem h0 (nV k h1)).1
    have s1 := shut _ hy ho
    refine ⟨(idO o y : Int), ?_, stO_id s1⟩
    rw [beh_begS, mem_beg]
    refine pe.mem_iff.mpr (mem_ptS.mpr ⟨_, hy, ho, ?_⟩)
    rw [stO_back O.nd h0 (nV k h1)]
/-! ### two side by side -/
def mvS (n : Int) (ss : List T3) : List T3 := ss.map fun p => (p.1 + n, p.2.1, p.2.2 + n)
theorem at_left {A B : Wd} {ss : List T3} {k : Int} (h0 : 0 ≤ k) (h1 : k < (A.n : Int)) : Wd.at ⟨A.facts ++ B.facts, ss⟩ k = A.at k := by
  unfold Wd.n at h1
  show ((A.facts ++ B.facts)[k.toNat]?).getD [] = _
  rw [List.getElem?_append_left (by omega)]
  rfl
theorem at_right {A B : Wd} {ss : List T3} {k : Int} (h0 : 0 ≤ k) : Wd.at ⟨A.facts ++ B.facts, ss⟩ (k + (A.n : Int)) = B.at k := by
  show ((A.facts ++ B.facts)[(k + (A.n : Int)).toNat]?).getD [] = _
  unfold Wd.n
  rw [List.getElem?_append_right (by omega), show (k + (A.facts.length : Int)).toNat - A.facts.length = k.toNat by omega]
  rfl
theorem emb_left {A B : Wd} (hA : ∀ p ∈ A.steps, 0 ≤ p.2.2 ∧ p.2.2 < (A.n : Int)) (hB : ∀ p ∈ B.steps, 0 ≤ p.1) : Emb A ⟨A.facts ++ B.facts, A.steps ++ mvS A.n B.steps⟩ (fun k => k) := by
  have nW : Wd.n ⟨A.facts ++ B.facts, A.steps ++ mvS A.n B.steps⟩ = A.n + B.n := List.length_append
  refine ⟨fun k h0 h1 => ⟨h0, by rw [nW]; omega⟩, fun k h0 h1 x => by rw [at_left h0 h1], fun k h0 h1 l j hj => ?_, fun k h0 h1 l y hy => ⟨y, ?_, rfl⟩⟩
  · rw [beh_begS, mem_beg] at hj
    have := hA _ hj
    refine ⟨this.1, this.2, ?_⟩
    rw [beh_begS, mem_beg]
    exact List.mem_append_left _ hj
  · rw [beh_begS, mem_beg] at hy ⊢
    rcases List.mem_append.mp hy with z | z
    · exact z
    · obtain ⟨p, hp, e⟩ := List.mem_map.mp z
      simp only [Prod.mk.injEq] at e
      have := hB p hp
      omega
theorem emb_right {A B : Wd} (hA : ∀ p ∈ A.steps, p.1 < (A.n : Int)) (hB : ∀ p ∈ B.steps, 0 ≤ p.2.2 ∧ p.2.2 < (B.n : Int)) : Emb B ⟨A.facts ++ B.facts, A.steps ++ mvS A.n B.steps⟩ (fun k => k + (A.n : Int)) := by
  have nW : Wd.n ⟨A.facts ++ B.facts, A.steps ++ mvS A.n B.steps⟩ = A.n + B.n := List.length_append
  refine ⟨fun k h0 h1 => ⟨by omega, by rw [nW]; omega⟩, fun k h0 h1 x => by rw [at_right h0], fun k h0 h1 l j hj => ?_, fun k h0 h1 l y hy => ?_⟩
  · rw [beh_begS, mem_beg] at hj
    have := hB _ hj
    refine ⟨this.1, this.2, ?_⟩
    rw [beh_begS, mem_beg]
    exact List.mem_append_right _ (List.mem_map.mpr ⟨_, hj, rfl⟩)
  · rw [beh_begS, mem_beg] at hy
    rcases List.mem_append.mp hy with z | z
    · have := hA _ z
      simp only at this
      omega
    · obtain ⟨p, hp, e⟩ := List.mem_map.mp z
      obtain ⟨x, y', z'⟩ := p
      simp only [Prod.mk.injEq] at e
      obtain ⟨e1, e2, e3⟩ := e
      refine ⟨z', ?_, e3⟩
      rw [beh_begS, mem_beg]
      have : x = k := by omega
      subst this
      subst e2
      exact hp
/-- what holds in both holds in each -/
theorem both_split {m n : Nat} {Z X Y : List Int} (hZ : Norm (m + n) Z) (hX : X = pull m (fun k => k) Z) (hY : Y = pull n (fun k => k + (m : Int)) Z) : Z = X ++ Y.map fun y => y + (m : Int) := by
  rw [hX, hY]
  have e : rng (m + n) = rng m ++ (rng n).map fun y => y + (m : Int) := by
    unfold rng
    rw [List.range_add, List.map_append, List.map_map, List.map_map]
    congr 1
    refine List.map_congr_left fun i _ => ?_
    show ((m + i : Nat) : Int) = ((i : Nat) : Int) + (m : Int)
    omega
  have e2 : ∀ l : List Int, (l.map fun y => y + (m : Int)).filter (sIn Z) = (l.filter fun k => sIn Z (k + (m : Int))).map fun y => y + (m : Int) := fun l => by
    rw [List.filter_map]
    rfl
  have : Z = (rng (m + n)).filter (sIn Z) := hZ
  rw [e, List.filter_append, e2] at this
  exact this
theorem both_up {A B : Wd} (uA : A.steps.Pairwise fun x y => lex3 x y = true) (uB : B.steps.Pairwise fun x y => lex3 x y = true) (hA : ∀ p ∈ A.steps, p.1 < (A.n : Int)) (hB : ∀ p ∈ B.steps, 0 ≤ p.1) :
    (A.steps ++ mvS A.n B.steps).Pairwise fun x y => lex3 x y = true := by
  refine List.pairwise_append.mpr ⟨uA, ?_, fun p hp q hq => ?_⟩
  · unfold mvS
    rw [List.pairwise_map]
    refine uB.imp fun {a b} h => ?_
    rw [lex3_iff] at h ⊢
    unfold Lt3 at *
    simp only
    omega
  · obtain ⟨r, hr, rfl⟩ := List.mem_map.mp hq
    have := hA p hp
    have := hB r hr
    rw [lex3_iff]
    unfold Lt3
    simp only
    omega
end Fw

set_option maxRecDepth 100000
set_option maxHeartbeats 4000000
namespace Fw
open PySem PySem.Spec PyProof.Rows L2
section
variable {P : Program} {w : World} {K : PySem.W.Frag} {mg : Str → Option Value} {base : Heap} {C J B NC FE OD : Addr}
theorem all_value {f : Addr} {fd : FuncData} (FF : Fun K "_law_value" "_law_value" s_law_value f fd) (b : Binds K fd a_law_value []) (m : mg "_law_value" = some (.ref f)) (T : Txt K mg C J B)
    (h_law_behind : Has P w K mg base "_law_behind" 1 a_law_behind (spBehind K)) : ∀ n, Has P w K mg base "_law_value" (n + 2) a_law_value (spVal K n)
  | 0 => ⟨f, fd, m, FF.kp, b, noneOk⟩
  | n + 1 => ⟨f, fd, m, FF.kp, b, ok_law_value n FF T h_law_behind (all_value FF b m T h_law_behind n)⟩
def spTruth (K : PySem.W.Frag) : Sp := fun vs H Q _ => ∃ (v sv : V) (W : Wd) (t : F) (e : Int → List Int), vs = [v, sv] ∧ WSt K H v W ∧ W.Fix ∧ IsF K H sv t ∧ t.depth ≤ 20 ∧ fv t = [] ∧
  ∀ (a : Addr) H', Same H H' → IL H' a (val W t e) → Q (.ref a) H'
theorem ok_law_truth {f : Addr} {fd : FuncData} (FF : Fun K "_law_truth" "_law_truth" s_law_truth f fd) (T : Txt K mg C J B) (h_law_value : Has P w K mg base "_law_value" 22 a_law_value (spVal K 20)) : FnOk P w K mg base CX0 23 f fd a_law_truth (spTruth K) := by
  refine FF.ok sc_law_truth (fun vs H Q E h => ?_) (fun cdv A outer s H vs Q E hr h => ?_)
  · obtain ⟨v, sv, W, t, e, rfl, _⟩ := h
    rfl
  · obtain ⟨v, sv, W, t, e, rfl, hW, fit, ht, hdep, hc, k⟩ := h
    refine ⟨_, (pss_one (ps_ret (pe_callH h_law_value (hr.mono (by omega)) (pa_cons (pv 0) (pa_cons (pv 1) (pa_cons pe_dnewK pa_nil)))))), ?_⟩
    refine ⟨v, rfl, sv, rfl, fun na hna => ⟨v, sv, W, t, na, [], e, rfl, hW.same (Same.new hna), fit, ht.same (Same.new hna), hdep, upd_same, by simp, List.nodup_nil, fun x hx => ?_, fun a H' s' ha => ?_⟩⟩
    · rw [hc] at hx
      cases hx
    · exact k a H' ((Same.new hna).trans s') ha
end
end Fw

set_option maxRecDepth 100000
set_option maxHeartbeats 4000000
namespace Fw
open PySem PySem.Spec PyProof.Rows L2 GxR
/-- a row of ints, or of triples, and whether it ascends -/
inductive RowA (H : Hp) : List V → Bool → Prop
  | i (ns : List Int) : RowA H (ns.map V.int) (asc ltI ns)
  | t {as : List Addr} {ts : List T3} : PAt H as ts → RowA H (as.map V.ref) (asc lex3 ts)
abbrev genSc : Stmt → Scope
  | .FunctionDef (body := [.Return (some (.Call _ [.GeneratorExp _ _ sc _] _ _)) _]) .. => sc
  | _ => default
abbrev genEl : Stmt → Expr
  | .FunctionDef (body := [.Return (some (.Call _ [.GeneratorExp e _ _ _] _ _)) _]) .. => e
  | _ => .Constant .none 0 ⟨0, 0, 0, 0⟩
theorem asc_free : ∀ y ∈ (genSc s_ascends).names, y.2 ≠ .free := by decide +kernel
theorem map_tail {α β : Type} (f : α → β) : ∀ l : List α, (l.map f).tail = l.tail.map f
  | [] => rfl
  | _ :: _ => rfl
theorem cut_tail (xs : List V) : cutV xs (some 1) none = xs.tail := by
  cases xs with
  | nil => rfl
  | cons x xs =>
    unfold cutV
    rw [HT.sIx_none, show (1 : Int) = ((1 : Nat) : Int) from rfl, HT.sIx_nat]
    rw [List.length_cons, Nat.min_eq_left (by omega)]
    show (xs.take (xs.length + 1 - 1)) = xs
    rw [Nat.add_sub_cancel, List.take_length]
section
variable {P : Program} {w : World} {K : PySem.W.Frag} {mg : Str → Option Value} {base : Heap} {C J B NC WC cA tA : Addr} {t1 t2 t3 : Tok}
def spAsc (K : PySem.W.Frag) (tA : Addr) : Sp := fun vs H Q _ => ∃ (a : Addr) (xs : List V) (r : Bool), vs = [.ref a] ∧ SqT K H a xs ∧ TabG H tA ∧ RowA H xs r ∧ ∀ H', Tb tA H H' → Q (.bl r) H'
theorem ok_ascends {f : Addr} {fd : FuncData} (FF : FunC K "ascends" "ascends" s_ascends f fd cA) (T : Txt K mg C J B) (TB : TabB base mg cA tA) : FnOk P w K mg base CX0 4 f fd a_ascends (spAsc K tA) := by
  refine FF.ok sc_ascends (fun vs H Q E h => ?_) (fun A outer s H vs Q E hr h => ?_)
  · obtain ⟨a, xs, r, rfl, _⟩ := h
    rfl
  · obtain ⟨a, xs, r, rfl, sq, tg, ra, k⟩ := h
    have gs2 : GenS2 (envOfC "ascends" (defScope s_ascends) s.heap.objs.size f (.ref cA)) (genSc s_ascends) "low" "high" := ⟨rfl, rfl, by decide +kernel, rfl, rfl, rfl, fun y hy e => absurd e (asc_free y hy)⟩
    refine ⟨_, (pss_one (ps_ret (pe_allZ hr TB rfl gs2 (by decide) rfl T.z_all rfl T.z_zip (pa_cons (pv 0) (pa_cons (pe_slice sl_tupA (pv 0) (po_some pe_int) po_none) pa_nil))))), ?_⟩
    -- from the tail on, wherever it stands
    have go : ∀ (q : Addr) (G : Hp), Same H G → SqT K G q xs.tail → ∃ rs : List Bool, EltsZ (cxOf CX0 P w K mg base n_ascends "ascends" (defScope s_ascends) f (.ref cA) A outer s H E).nox (genSc s_ascends) "low" "high" (genEl s_ascends) tA G xs xs.tail rs ∧ rs.all id = r := by
      intro q G sG sqt
      cases ra with
      | i ns =>
        refine ⟨adj ltI ns, ⟨?_, fun s' pins σ I i x y r hx hy hr' => ?_⟩, adj_asc ltI ns⟩
        · rw [adj_len, map_tail, List.length_map, List.length_map]
        · obtain ⟨x', y', e1, e2, rfl⟩ := adj_get hr'
          rw [map_tail, List.getElem?_map, e2] at hy
          rw [List.getElem?_map, e1] at hx
          cases hx
          cases hy
          exact eltZ_lt_int x' y' rfl rfl rfl
      | @t as ts pa =>
        have pa' : PAt G as ts := pa.map fun a o _ e => sG a o e
        refine ⟨adj lex3 ts, ⟨?_, fun s' pins σ I i x y r hx hy hr' => ?_⟩, adj_asc lex3 ts⟩
        · rw [adj_len, map_tail, List.length_map, List.length_map, List.length_tail, List.length_tail, pa.1]
        · obtain ⟨x', y', e1, e2, rfl⟩ := adj_get hr'
          rw [map_tail, List.getElem?_map] at hy
          rw [List.getElem?_map] at hx
          cases ex : as[i]? with
          | none => rw [ex] at hx; cases hx
          | some u =>
          cases ey : as.tail[i]? with
          | none => rw [ey] at hy; cases hy
          | some v =>
          rw [ex] at hx
          rw [ey] at hy
          cases hx
          cases hy
          rw [List.getElem?_tail] at ey e2
          exact eltZ_lt_trip I (tg.same sG) (by have := hr.un; show (A.deeper (envOfC "ascends" (defScope s_ascends) s.heap.objs.size f (.ref cA))).units + 8 < _; omega) (pa'.2 _ _ _ ex e1) (pa'.2 _ _ _ ey e2) rfl rfl rfl
    refine ⟨.ref a, rfl, .ref a, rfl, 1, rfl, a, xs, rfl, sq, fun hw => ?_, fun _ q hq => ?_⟩
    · have e : xs.tail = xs := by
        have h1 := hw.1
        cases xs with
        | nil => rfl
        | cons x xs =>
          rw [show (1 : Int) = ((1 : Nat) : Int) from rfl, HT.sIx_nat, List.length_cons, Nat.min_eq_left (by omega)] at h1
          cases h1
      obtain ⟨rs, el, er⟩ := go a H (fun _ _ e => e) (by rw [e]; exact sq)
      rw [e] at el
      refine ⟨a, a, xs, xs, rs, rfl, .inr ⟨sq, sq⟩, tg, el, fun H2 t2 => ?_⟩
      rw [er]
      exact k H2 (tabbed_tb t2)
    · have s1 := Same.new (o := .tup (cutV xs (some 1) none)) hq
      obtain ⟨rs, el, er⟩ := go q _ s1 (SqT.of (by rw [upd_same, cut_tail]))
      refine ⟨a, q, xs, xs.tail, rs, rfl, .inr ⟨SqT.same s1 sq, SqT.of (by rw [upd_same, cut_tail])⟩, tg.same s1, el, fun H2 t2 => ?_⟩
      rw [er]
      exact k H2 ((Tb.same s1 tg).trans (tabbed_tb t2))
end
end Fw

set_option maxRecDepth 100000
set_option maxHeartbeats 4000000
namespace Fw
open PySem PySem.Spec PyProof.Rows L2 GxR
def RAt (K : PySem.W.Frag) (H : Hp) (as : List Addr) (Xs : List (List Int)) : Prop := as.length = Xs.length ∧ ∀ (i : Nat) (a : Addr) (X : List Int), as[i]? = some a → Xs[i]? = some X → SqT K H a (X.map V.int)
def wf (l f : Int) (ta tb : Addr) : List (Str × V) := [("labels", .int l), ("facts", .int f), ("states", .ref ta), ("steps", .ref tb)]
/-- a world being made: its parts, without its ends -/
structure WoA (K : PySem.W.Frag) (WC : Addr) (H : Hp) (p dx : Addr) (l f : Int) (ta tb : Addr) (ras as : List Addr) (Xs : List (List Int)) (ss : List T3) : Prop where
  ob : H p = some (.ins WC dx (wf l f ta tb))
  st : SqT K H ta (ras.map V.ref)
  rw : RAt K H ras Xs
  sp : SqT K H tb (as.map V.ref)
  tr : PAt H as ss
theorem RAt.tb {K : PySem.W.Frag} {P : Addr} {H H' : Hp} {as : List Addr} {Xs : List (List Int)} (g : TabG H P) (t : Tb P H H') (h : RAt K H as Xs) : RAt K H' as Xs := ⟨h.1, fun i a X e1 e2 => SqT.tb g t (h.2 i a X e1 e2)⟩
theorem PAt.tb {P : Addr} {H H' : Hp} {as : List Addr} {ts : List T3} (g : TabG H P) (t : Tb P H H') (h : PAt H as ts) : PAt H' as ts :=
  ⟨h.1, fun i a p e1 e2 => t.1 _ _ (g.ne (h.2 i a p e1 e2) (by intro _ z; cases z)) (h.2 i a p e1 e2)⟩
theorem WoA.tb {K : PySem.W.Frag} {WC P : Addr} {H H' : Hp} {p dx : Addr} {l f : Int} {ta tb : Addr} {ras as : List Addr} {Xs : List (List Int)} {ss : List T3} (g : TabG H P) (t : Tb P H H') (h : WoA K WC H p dx l f ta tb ras as Xs ss) : WoA K WC H' p dx l f ta tb ras as Xs ss :=
  ⟨t.1 _ _ (g.ne h.ob (by intro _ z; cases z)) h.ob, SqT.tb g t h.st, h.rw.tb g t, SqT.tb g t h.sp, h.tr.tb g t⟩
theorem all_take {α : Type} {l : List α} {q : α → Bool} (h : ∀ (i : Nat) (x : α), l[i]? = some x → q x = true) : l.all q = true := List.all_eq_true.mpr fun x hx => by
  obtain ⟨i, hi, e⟩ := List.getElem_of_mem hx
  exact h i x (by rw [List.getElem?_eq_getElem hi, e])
theorem all_no {α : Type} {l : List α} {q : α → Bool} {i : Nat} {x : α} (h : l[i]? = some x) (n : q x = false) : l.all q = false := by
  cases e : l.all q with
  | false => rfl
  | true =>
    have := List.all_eq_true.mp e x (List.mem_of_getElem? h)
    rw [n] at this
    cases this
theorem RAt.nth {K : PySem.W.Frag} {H : Hp} {as : List Addr} {Xs : List (List Int)} (h : RAt K H as Xs) {i : Nat} {x : V} (e : (as.map V.ref)[i]? = some x) : ∃ a X, x = .ref a ∧ as[i]? = some a ∧ Xs[i]? = some X ∧ SqT K H a (X.map V.int) := by
  rw [List.getElem?_map] at e
  cases q : as[i]? with
  | none => rw [q] at e; cases e
  | some a =>
    rw [q] at e
    have il : i < Xs.length := by rw [← h.1]; exact (List.getElem?_eq_some_iff.mp q).1
    exact ⟨a, Xs[i], (Option.some.inj e).symm, rfl, List.getElem?_eq_getElem il, h.2 i a _ q (List.getElem?_eq_getElem il)⟩
theorem PAt.nth {H : Hp} {as : List Addr} {ss : List T3} (h : PAt H as ss) {i : Nat} {x : V} (e : (as.map V.ref)[i]? = some x) : ∃ a p, x = .ref a ∧ as[i]? = some a ∧ ss[i]? = some p ∧ H a = some (.tup [.int p.1, .int p.2.1, .int p.2.2]) := by
  rw [List.getElem?_map] at e
  cases q : as[i]? with
  | none => rw [q] at e; cases e
  | some a =>
    rw [q] at e
    have il : i < ss.length := by rw [← h.1]; exact (List.getElem?_eq_some_iff.mp q).1
    exact ⟨a, ss[i], (Option.some.inj e).symm, rfl, List.getElem?_eq_getElem il, h.2 i a _ q (List.getElem?_eq_getElem il)⟩
section
variable {P : Program} {w : World} {K : PySem.W.Frag} {mg : Str → Option Value} {base : Heap} {C J B NC WC cA tA : Addr} {t1 t2 t3 : Tok}
def spCkN (NC : Addr) : Sp := fun vs H Q E => ∃ l f : Int, vs = [.int l, .int f] ∧ (okNums l f = true → Q .non H) ∧ (okNums l f = false → E (.ref NC) none H)
theorem ok_check_numbers {f : Addr} {fd : FuncData} (FF : Fun K "check_numbers" "check_numbers" s_check_numbers f fd) (T : Txt K mg C J B) (TE : TxtEW K mg NC) (TR : TxtL mg t1 t2 t3)
    (h_is_number : Has P w K mg base "is_number" 1 a_is_number spNum) : FnOk P w K mg base (L2.CX P w) 2 f fd a_check_numbers (spCkN NC) := by
  refine FF.okX sc_check_numbers (fun vs H Q E h => ?_) (fun cdv A outer s H vs Q E hr h => ?_)
  · obtain ⟨l, f, rfl, _⟩ := h
    rfl
  · obtain ⟨l, f, rfl, k1, k2⟩ := h
    refine ⟨_, (pss_cons (ps_if (pt_not (pt_val (pe_callH h_is_number (hr.mono (by omega)) (pa_cons (pv 0) (pa_cons pe_int (pa_cons (pe_glob rfl TR.m_MOST_LABELS (show RelV (.int 3) _ from ⟨_, rfl⟩)) pa_nil)))))) (pss_one (ps_raise rfl (takes_of rfl rfl rfl rfl) (pmk_own PySem.F.excBase_ValueError TE.xC TE.gC TE.kC (raises_own TE.bC TE.tC) (by exact rfl)))) pss_nil)
      (pss_one (ps_if (pt_not (pt_val (pe_callH h_is_number (hr.mono (by omega)) (pa_cons (pv 1) (pa_cons pe_int (pa_cons (pe_glob rfl TR.m_MOST_FACTS (show RelV (.int 6) _ from ⟨_, rfl⟩)) pa_nil)))))) (pss_one (ps_raise rfl (takes_of rfl rfl rfl rfl) (pmk_own PySem.F.excBase_ValueError TE.xC TE.gC TE.kC (raises_own TE.bC TE.tC) (by exact rfl)))) pss_nil))), ?_⟩
    unfold okNums at k1 k2
    refine ⟨.int l, rfl, l, 1, 3, rfl, _, rfl, ?_⟩
    cases c1 : decide (1 ≤ l) && decide (l ≤ 3) with
    | false =>
      rw [c1] at k2
      exact iteT (k2 rfl)
    | true =>
      rw [c1, Bool.true_and] at k1 k2
      refine iteF ⟨.int f, rfl, f, 0, 6, rfl, _, rfl, ?_⟩
      cases c2 : decide (0 ≤ f) && decide (f ≤ 6) with
      | false => exact iteT (k2 c2)
      | true => exact iteF (k1 c2)
def spCkS (K : PySem.W.Frag) (NC WC tA : Addr) : Sp := fun vs H Q E => ∃ (p dx : Addr) (l f : Int) (ta tb : Addr) (ras as : List Addr) (Xs : List (List Int)) (ss : List T3), vs = [.ref p] ∧ WoA K WC H p dx l f ta tb ras as Xs ss ∧ TabG H tA ∧ Xs.length ≤ 1000 ∧
  (okRows f Xs = true → ∀ H', Tb tA H H' → Q .non H') ∧ (okRows f Xs = false → ∀ H', E (.ref NC) none H')
theorem ok_check_states {f : Addr} {fd : FuncData} (FF : Fun K "check_states" "check_states" s_check_states f fd) (T : Txt K mg C J B) (TC : TxtC K WC) (TE : TxtEW K mg NC) (TR : TxtL mg t1 t2 t3)
    (h_is_number : Has P w K mg base "is_number" 1 a_is_number spNum) (h_ascends : Has P w K mg base "ascends" 4 a_ascends (spAsc K tA)) : FnOk P w K mg base (L2.CX P w) 5 f fd a_check_states (spCkS K NC WC tA) := by
  refine FF.okX sc_check_states (fun vs H Q E h => ?_) (fun cdv A outer s H vs Q E hr h => ?_)
  · obtain ⟨p, dx, l, f, ta, tb, ras, as, Xs, ss, rfl, _⟩ := h
    rfl
  · obtain ⟨p, dx, l, f, ta, tb, ras, as, Xs, ss, rfl, W, tg, hsz, k1, k2⟩ := h
    refine ⟨_, (pss_cons (ps_if (pt_not (pt_val (pe_callH h_is_number (hr.mono (by omega)) (pa_cons (pe_callB call_len_seq rfl T.z_len (by decide +kernel) (pa_cons (pe_fld (pv 0) rfl) pa_nil)) (pa_cons pe_int (pa_cons (pe_glob rfl TR.m_MOST_STATES (show RelV (.int 400) _ from ⟨_, rfl⟩)) pa_nil)))))) (pss_one (ps_raise rfl (takes_of rfl rfl rfl rfl) (pmk_own PySem.F.excBase_ValueError TE.xC TE.gC TE.kC (raises_own TE.bC TE.tC) (by exact rfl)))) pss_nil)
      (pss_one (ps_for (passes_of rfl) rfl (pi_tup (pe_fld (pv 0) rfl)) (pg_name (i := 1) sc_check_states.nd rfl (.inl rfl)) (pss_cons (ps_for (passes_of rfl) rfl (pi_tup (pv 1)) (pg_name (i := 2) sc_check_states.nd rfl (.inl rfl)) (pss_one (ps_if (pt_not (pt_val (pe_callH h_is_number (hr.mono (by omega)) (pa_cons (pv 2) (pa_cons pe_int (pa_cons (pe_op op_sub (pe_fld (pv 0) rfl) pe_int) pa_nil)))))) (pss_one (ps_raise rfl (takes_of rfl rfl rfl rfl) (pmk_own PySem.F.excBase_ValueError TE.xC TE.gC TE.kC (raises_own TE.bC TE.tC) (by exact rfl)))) pss_nil)))
      (pss_one (ps_if (pt_not (pt_val (pe_callH h_ascends (hr.mono (by omega)) (pa_cons (pv 1) pa_nil)))) (pss_one (ps_raise rfl (takes_of rfl rfl rfl rfl) (pmk_own PySem.F.excBase_ValueError TE.xC TE.gC TE.kC (raises_own TE.bC TE.tC) (by exact rfl)))) pss_nil)))))), ?_⟩
    unfold okRows at k1 k2
    have len : (ras.map V.ref).length = Xs.length := by rw [List.length_map, W.rw.1]
    refine ⟨.ref p, rfl, p, WC, dx, _, .ref ta, rfl, W.ob, TC.cl, TC.nS, rfl, ta, _, rfl, .inr W.st, ?_⟩
    rw [len]
    refine ⟨Xs.length, 1, 400, rfl, _, rfl, ?_⟩
    cases c1 : decide (1 ≤ (Xs.length : Int)) && decide ((Xs.length : Int) ≤ 400) with
    | false =>
      rw [c1] at k2
      exact iteT (k2 rfl _)
    | true =>
      rw [c1, Bool.true_and] at k1 k2
      refine iteF ?_
      refine ⟨.ref p, rfl, p, WC, dx, _, .ref ta, rfl, W.ob, TC.cl, TC.nS, rfl, ta, rfl, ⟨_, W.st⟩, ?_⟩
      refine for_tup (xs := ras.map V.ref) (fun i σ G => ∃ (y1 y2 : Option V), σ = [some (.ref p), y1, y2] ∧ Tb tA H G ∧ ∀ j X, j < i → Xs[j]? = some X → okRow f X = true)
        ⟨none, none, rfl, Tb.refl tg, fun j X hj => absurd hj (Nat.not_lt_zero _)⟩ (fun i σ G _ ⟨_, _, _, t, _⟩ => SqT.tb tg t W.st) ?_ ?_
      · rintro i x σ G hx ⟨y1, y2, rfl, tG, pre⟩
        have WG := W.tb tg tG
        obtain ⟨a, X, rfl, ha, hX, sqX⟩ := WG.rw.nth hx
        have bad : okRow f X = false → ∀ H', E (.ref NC) none H' := fun n => k2 (all_no hX n)
        unfold okRow at bad
        refine ⟨.ref a, rfl, a, rfl, ⟨_, sqX⟩, ?_⟩
        refine for_tup (xs := X.map V.int) (fun j σ G2 => ∃ y2 : Option V, σ = [some (.ref p), some (.ref a), y2] ∧ G2 = G ∧ ∀ m x, m < j → X[m]? = some x → (decide (0 ≤ x) && decide (x ≤ f - 1)) = true)
          ⟨_, rfl, rfl, fun m x hm => absurd hm (Nat.not_lt_zero _)⟩ (fun j σ G2 _ ⟨_, _, e, _⟩ => by rw [e]; exact sqX) ?_ ?_
        · rintro j y σ G2 hy ⟨y2, rfl, rfl, pre2⟩
          obtain ⟨n, hn, rfl⟩ : ∃ n, X[j]? = some n ∧ V.int n = y := by
            rw [List.getElem?_map] at hy
            cases e : X[j]? with
            | none => rw [e] at hy; cases hy
            | some n => rw [e] at hy; exact ⟨n, rfl, Option.some.inj hy⟩
          refine ⟨.int n, rfl, .ref p, rfl, p, WC, dx, _, .int f, rfl, WG.ob, TC.cl, TC.nF, rfl, f, 1, rfl, rfl, n, 0, f - 1, rfl, _, rfl, ?_⟩
          cases c2 : decide (0 ≤ n) && decide (n ≤ f - 1) with
          | false =>
            refine iteT (bad ?_ _)
            rw [all_no hn c2, Bool.false_and]
          | true =>
            refine iteF ⟨_, rfl, rfl, fun m x hm hx => ?_⟩
            by_cases e : m = j
            · subst e
              rw [hn] at hx
              cases hx
              exact c2
            · exact pre2 m x (by omega) hx
        · rintro σ G2 ⟨y2, rfl, rfl, pre2⟩
          rw [List.length_map] at pre2
          have all : X.all (fun x => decide (0 ≤ x) && decide (x ≤ f - 1)) = true := all_take fun m x hm => pre2 m x (List.getElem?_eq_some_iff.mp hm).1 hm
          refine ⟨.ref a, rfl, a, _, asc ltI X, rfl, sqX, tG.2, .i X, fun H' t' => ⟨_, rfl, ?_⟩⟩
          rw [all, Bool.true_and] at bad
          cases c3 : asc ltI X with
          | false => exact iteT (bad c3 _)
          | true =>
            refine iteF ⟨_, _, rfl, tG.trans t', fun j Y hj hY => ?_⟩
            by_cases e : j = i
            · subst e
              rw [hX] at hY
              cases hY
              unfold okRow
              rw [all, c3]
              rfl
            · exact pre j Y (by omega) hY
      · rintro σ G ⟨y1, y2, rfl, tG, pre⟩
        rw [len] at pre
        exact k1 (all_take fun j X hj => pre j X (List.getElem?_eq_some_iff.mp hj).1 hj) G tG
end
end Fw

set_option maxRecDepth 100000
set_option maxHeartbeats 4000000
namespace Fw
open PySem PySem.Spec PyProof.Rows L2 GxR
abbrev kSL (s l : Int) : List Key := [Sum.inl s, Sum.inl l]
/-- the dict of the steps' ends, as it grows -/
structure EndsK (H G : Hp) (kvs : List (List Key × V)) (ss : List T3) : Prop where
  one : ∀ k v, valV kvs k = some v → ∃ s l la, k = kSL s l ∧ v = .ref la ∧ H la = none ∧ IL G la (begS ss s l)
  no : ∀ s l, valV kvs (kSL s l) = none → begS ss s l = []
  inj : ∀ k k' la, valV kvs k = some (.ref la) → valV kvs k' = some (.ref la) → k = k'
def EndsAt (H0 H : Hp) (d : Addr) (ss : List T3) : Prop := ∃ kvs : List (List Key × V), H d = some (.dT kvs) ∧ ∀ s l, (∃ la, valV kvs (kSL s l) = some (.ref la) ∧ H0 la = none ∧ IL H la (begS ss s l)) ∨ (valV kvs (kSL s l) = none ∧ begS ss s l = [])
theorem kSL_inj {s l s' l' : Int} (h : kSL s l = kSL s' l') : s = s' ∧ l = l' := by
  injection h with h1 h2
  injection h2 with h2 _
  exact ⟨Sum.inl.inj h1, Sum.inl.inj h2⟩
theorem EndsK.at_ {H G : Hp} {d : Addr} {kvs : List (List Key × V)} {ss : List T3} (h : EndsK H G kvs ss) (e : G d = some (.dT kvs)) : EndsAt H G d ss := ⟨kvs, e, fun s l => by
  cases q : valV kvs (kSL s l) with
  | none => exact .inr ⟨rfl, h.no s l q⟩
  | some v =>
    obtain ⟨s', l', la, e1, e2, e3, il⟩ := h.one _ _ q
    obtain ⟨rfl, rfl⟩ := kSL_inj e1
    exact .inl ⟨la, by rw [e2], e3, il⟩⟩
theorem EndsAt.map {H0 H H' : Hp} {d : Addr} {ss : List T3} (hd : ∀ kvs, H d = some (.dT kvs) → H' d = some (.dT kvs)) (hl : ∀ a xs, H0 a = none → H a = some (.lst xs) → H' a = some (.lst xs)) (h : EndsAt H0 H d ss) : EndsAt H0 H' d ss := by
  obtain ⟨kvs, e, x⟩ := h
  refine ⟨kvs, hd _ e, fun s l => ?_⟩
  rcases x s l with ⟨la, e1, e0, e2⟩ | z
  · exact .inl ⟨la, e1, e0, hl _ _ e0 e2⟩
  · exact .inr z
theorem EndsAt.weak {H0 H0' H : Hp} {d : Addr} {ss : List T3} (dom : ∀ b, H0' b = none → H0 b = none) (h : EndsAt H0' H d ss) : EndsAt H0 H d ss := by
  obtain ⟨kvs, e, x⟩ := h
  refine ⟨kvs, e, fun s l => ?_⟩
  rcases x s l with ⟨la, e1, e0, e2⟩ | z
  · exact .inl ⟨la, e1, dom _ e0, e2⟩
  · exact .inr z
theorem EndsAt.tb {P : Addr} {H0 H H' : Hp} {d : Addr} {ss : List T3} (g : TabG H P) (t : Tb P H H') (h : EndsAt H0 H d ss) : EndsAt H0 H' d ss :=
  h.map (fun kvs e => t.1 _ _ (g.ne e (by intro _ z; cases z)) e) fun a xs _ e => t.1 _ _ (g.ne e (by intro _ z; cases z)) e
/-- a world that is made -/
structure WoE (K : PySem.W.Frag) (WC : Addr) (H0 H : Hp) (p dx : Addr) (l f : Int) (ta tb d : Addr) (ras as : List Addr) (Xs : List (List Int)) (ss : List T3) : Prop where
  ob : H p = some (.ins WC dx (wf l f ta tb ++ ([("_ends", V.ref d)] : List (Str × V))))
  st : SqT K H ta (ras.map V.ref)
  rw : RAt K H ras Xs
  sp : SqT K H tb (as.map V.ref)
  tr : PAt H as ss
  en : EndsAt H0 H d ss
section
variable {P : Program} {w : World} {K : PySem.W.Frag} {mg : Str → Option Value} {base : Heap} {C J B NC WC cA tA : Addr} {t1 t2 t3 : Tok}
def spCkT (K : PySem.W.Frag) (NC WC tA : Addr) : Sp := fun vs H Q E => ∃ (p dx : Addr) (l f : Int) (ta tb : Addr) (ras as : List Addr) (Xs : List (List Int)) (ss : List T3), vs = [.ref p] ∧ WoA K WC H p dx l f ta tb ras as Xs ss ∧ TabG H tA ∧
  (okSteps l Xs.length ss = true → ∀ H', Tb tA H H' → Q .non H') ∧ (okSteps l Xs.length ss = false → ∀ H', E (.ref NC) none H')
theorem ok_check_steps {f : Addr} {fd : FuncData} (FF : Fun K "check_steps" "check_steps" s_check_steps f fd) (T : Txt K mg C J B) (TC : TxtC K WC) (TE : TxtEW K mg NC)
    (h_is_number : Has P w K mg base "is_number" 1 a_is_number spNum) (h_ascends : Has P w K mg base "ascends" 4 a_ascends (spAsc K tA)) : FnOk P w K mg base (L2.CX P w) 5 f fd a_check_steps (spCkT K NC WC tA) := by
  refine FF.okX sc_check_steps (fun vs H Q E h => ?_) (fun cdv A outer s H vs Q E hr h => ?_)
  · obtain ⟨p, dx, l, f, ta, tb, ras, as, Xs, ss, rfl, _⟩ := h
    rfl
  · obtain ⟨p, dx, l, f, ta, tb, ras, as, Xs, ss, rfl, W, tg, k1, k2⟩ := h
    refine ⟨_, (pss_cons (ps_set (i := 1) sc_check_steps.nd rfl (.inl rfl) (pe_op op_sub (pe_callB call_len_seq rfl T.z_len (by decide +kernel) (pa_cons (pe_fld (pv 0) rfl) pa_nil)) pe_int))
      (pss_cons (ps_for (passes_of rfl) rfl (pi_tup (pe_fld (pv 0) rfl)) (pg_name (i := 2) sc_check_steps.nd rfl (.inl rfl)) (pss_cons (ps_if (PW.pt (pw_or (pt_cmpR op_ne (pe_callB call_len_seq rfl T.z_len (by decide +kernel) (pa_cons (pv 2) pa_nil)) pe_int (nomark _)) (pw_or1 (pt_not (pt_val (pe_callH h_is_number (hr.mono (by omega)) (pa_cons (pe_ix ix_tup (pv 2) pe_int (fun _ _ => rfl)) (pa_cons pe_int (pa_cons (pe_op op_sub (pe_fld (pv 0) rfl) pe_int) pa_nil))))))))) (pss_one (ps_raise rfl (takes_of rfl rfl rfl rfl) (pmk_own PySem.F.excBase_ValueError TE.xC TE.gC TE.kC (raises_own TE.bC TE.tC) (by exact rfl)))) pss_nil)
      (pss_one (ps_if (PW.pt (pw_or (pt_not (pt_val (pe_callH h_is_number (hr.mono (by omega)) (pa_cons (pe_ix ix_tup (pv 2) pe_int (fun _ _ => rfl)) (pa_cons pe_int (pa_cons (pv 1) pa_nil)))))) (pw_or1 (pt_not (pt_val (pe_callH h_is_number (hr.mono (by omega)) (pa_cons (pe_ix ix_tup (pv 2) pe_int (fun _ _ => rfl)) (pa_cons pe_int (pa_cons (pv 1) pa_nil))))))))) (pss_one (ps_raise rfl (takes_of rfl rfl rfl rfl) (pmk_own PySem.F.excBase_ValueError TE.xC TE.gC TE.kC (raises_own TE.bC TE.tC) (by exact rfl)))) pss_nil))))
      (pss_one (ps_if (pt_not (pt_val (pe_callH h_ascends (hr.mono (by omega)) (pa_cons (pe_fld (pv 0) rfl) pa_nil)))) (pss_one (ps_raise rfl (takes_of rfl rfl rfl rfl) (pmk_own PySem.F.excBase_ValueError TE.xC TE.gC TE.kC (raises_own TE.bC TE.tC) (by exact rfl)))) pss_nil)))), ?_⟩
    unfold okSteps at k1 k2
    have len : (ras.map V.ref).length = Xs.length := by rw [List.length_map, W.rw.1]
    have lens : (as.map V.ref).length = ss.length := by rw [List.length_map, W.tr.1]
    refine ⟨.ref p, rfl, p, WC, dx, _, .ref ta, rfl, W.ob, TC.cl, TC.nS, rfl, ta, _, rfl, .inr W.st, ?_⟩
    rw [len]
    refine ⟨Xs.length, 1, rfl, rfl, ?_⟩
    refine ⟨.ref p, rfl, p, WC, dx, _, .ref tb, rfl, W.ob, TC.cl, TC.nT, rfl, tb, rfl, ⟨_, W.sp⟩, ?_⟩
    refine for_tup (xs := as.map V.ref) (fun i σ G => ∃ (y2 : Option V), σ = [some (.ref p), some (.int ((Xs.length : Int) - 1)), y2] ∧ G = H ∧ ∀ (j : Nat) p, j < i → ss[j]? = some p → okStep l Xs.length p = true)
      ⟨none, rfl, rfl, fun j X hj => absurd hj (Nat.not_lt_zero _)⟩ (fun i σ G _ ⟨_, _, e, _⟩ => by rw [e]; exact W.sp) ?_ ?_
    · rintro i x σ G hx ⟨y2, rfl, rfl, pre⟩
      obtain ⟨a, q, rfl, ha, hq, at_⟩ := W.tr.nth hx
      have bad : okStep l Xs.length q = false → ∀ H', E (.ref NC) none H' := fun n => k2 (by rw [all_no hq n, Bool.false_and])
      unfold okStep at bad
      have sq := SqT.of (K := K) at_
      have i0 : atI [V.int q.1, V.int q.2.1, V.int q.2.2] 0 = some (.int q.1) := rfl
      have i1 : atI [V.int q.1, V.int q.2.1, V.int q.2.2] 1 = some (.int q.2.1) := rfl
      have i2 : atI [V.int q.1, V.int q.2.1, V.int q.2.2] 2 = some (.int q.2.2) := rfl
      refine ⟨.ref a, rfl, a, _, rfl, .inr sq, rfl, _, rfl, ?_⟩
      have l3 : V.int (([V.int q.1, V.int q.2.1, V.int q.2.2] : List V).length : Int) = V.int 3 := rfl
      refine (if_neg (by rw [decide_eq_true l3]; exact Bool.false_ne_true)).mpr ?_
      refine ⟨.ref a, rfl, a, _, 1, _, rfl, rfl, sq, i1, .ref p, rfl, p, WC, dx, _, .int l, rfl, W.ob, TC.cl, TC.nL, rfl, l, 1, rfl, rfl, q.2.1, 0, l - 1, rfl, _, rfl, ?_⟩
      cases c1 : decide (0 ≤ q.2.1) && decide (q.2.1 ≤ l - 1) with
      | false =>
        rw [c1] at bad
        exact iteT (bad rfl _)
      | true =>
        rw [c1, Bool.true_and] at bad
        refine iteF ?_
        refine ⟨.ref a, rfl, a, _, 0, _, rfl, rfl, sq, i0, .int ((Xs.length : Int) - 1), rfl, q.1, 0, (Xs.length : Int) - 1, rfl, _, rfl, ?_⟩
        cases c2 : decide (0 ≤ q.1) && decide (q.1 ≤ (Xs.length : Int) - 1) with
        | false =>
          rw [c2] at bad
          exact iteT (bad rfl _)
        | true =>
          rw [c2, Bool.true_and] at bad
          refine iteF ?_
          refine ⟨.ref a, rfl, a, _, 2, _, rfl, rfl, sq, i2, .int ((Xs.length : Int) - 1), rfl, q.2.2, 0, (Xs.length : Int) - 1, rfl, _, rfl, ?_⟩
          cases c3 : decide (0 ≤ q.2.2) && decide (q.2.2 ≤ (Xs.length : Int) - 1) with
          | false => exact iteT (bad c3 _)
          | true =>
            refine iteF ⟨_, rfl, rfl, fun j r hj hr' => ?_⟩
            by_cases e : j = i
            · subst e
              rw [hq] at hr'
              cases hr'
              unfold okStep
              rw [c1, c2, c3]
              rfl
            · exact pre j r (by omega) hr'
    · rintro σ G ⟨y2, rfl, rfl, pre⟩
      rw [lens] at pre
      have all : ss.all (okStep l Xs.length) = true := all_take fun j q hj => pre j q (List.getElem?_eq_some_iff.mp hj).1 hj
      rw [all, Bool.true_and] at k1 k2
      refine ⟨.ref p, rfl, p, WC, dx, _, .ref tb, rfl, W.ob, TC.cl, TC.nT, rfl, tb, _, asc lex3 ss, rfl, W.sp, tg, .t W.tr, fun H' t' => ⟨_, rfl, ?_⟩⟩
      cases c : asc lex3 ss with
      | false => exact iteT (k2 c _)
      | true => exact iteF (k1 c _ t')
def spEnds (K : PySem.W.Frag) : Sp := fun vs H Q _ => ∃ (tb : Addr) (as : List Addr) (ss : List T3), vs = [.ref tb] ∧ SqT K H tb (as.map V.ref) ∧ PAt H as ss ∧ ss.length ≤ 1000 ∧ ∀ d H', Same H H' → EndsAt H H' d ss → Q (.ref d) H'
theorem ok_ends_of {f : Addr} {fd : FuncData} (FF : Fun K "ends_of" "ends_of" s_ends_of f fd) (T : Txt K mg C J B) : FnOk P w K mg base CX0 1 f fd a_ends_of (spEnds K) := by
  refine FF.ok sc_ends_of (fun vs H Q E h => ?_) (fun cdv A outer s H vs Q E hr h => ?_)
  · obtain ⟨tb, as, ss, rfl, _⟩ := h
    rfl
  · obtain ⟨tb, as, ss, rfl, sq, tr, hsz, k⟩ := h
    have hu := hu_of hr
    refine ⟨_, (pss_cons (ps_set (i := 1) sc_ends_of.nd rfl (.inl rfl) pe_dnewT)
      (pss_cons (ps_for PassesOwn.never rfl (pi_tup (pv 0)) (pg_tup rfl (pgs_cons (pg_name (i := 2) sc_ends_of.nd rfl (.inl rfl)) (pgs_cons (pg_name (i := 3) sc_ends_of.nd rfl (.inl rfl)) (pgs_cons (pg_name (i := 4) sc_ends_of.nd rfl (.inl rfl)) pgs_nil)))) (pss_one (ps_expr (pe_bm PySem.F.plainAttrs_list PySem.F.slot_list_append PySem.F.type_list_append mt_append (pe_dsetdT hu (pv 1) (pe_tup (pa_cons (pv 2) (pa_cons (pv 3) pa_nil))) (pe_lst pa_nil) ⟨rfl, rfl, rfl, rfl⟩) (pa_cons (pv 4) pa_nil)))))
      (pss_one (ps_ret (pv 1))))), ?_⟩
    have lens : (as.map V.ref).length = ss.length := by rw [List.length_map, tr.1]
    intro d hd
    have s0 := Same.new (o := .dT []) hd
    refine ⟨.ref tb, rfl, tb, rfl, ⟨_, SqT.same s0 sq⟩, ?_⟩
    refine for_tup (xs := as.map V.ref) (fun i σ G => ∃ (y2 y3 y4 : Option V) (kvs : List (List Key × V)), σ = [some (.ref tb), some (.ref d), y2, y3, y4] ∧ Same H G ∧ G d = some (.dT kvs) ∧ kvs.length ≤ i ∧ (ss.take i).length ≤ i ∧ EndsK H G kvs (ss.take i))
      ⟨none, none, none, [], rfl, s0, upd_same, Nat.le_refl _, by simp, ⟨fun k v e => (by cases e), fun s l _ => rfl, fun k k' la e => (by cases e)⟩⟩ (fun i σ G _ ⟨_, _, _, _, _, sG, _⟩ => SqT.same sG sq) ?_ ?_
    · rintro i x σ G hx ⟨y2, y3, y4, kvs, rfl, sG, gD, lk, lt, EK⟩
      have il : i < ss.length := by
        have := (List.getElem?_eq_some_iff.mp hx).1
        rw [lens] at this
        exact this
      obtain ⟨a, q, rfl, ha, hq, at0⟩ := tr.nth hx
      have at_ := sG _ _ at0
      have nx : ss.take (i + 1) = ss.take i ++ [q] := by rw [List.take_add_one, hq]; rfl
      refine ⟨a, _, rfl, SqT.of at_, rfl, .int q.1, _, rfl, .int q.2.1, _, rfl, .int q.2.2, _, rfl, rfl, ?_⟩
      refine ⟨.ref d, rfl, d, rfl, .inr ⟨kvs, .inl gD⟩, .int q.1, rfl, .int q.2.1, rfl, by show 2 ≤ sizeLine; decide, fun kt hkt => ⟨Nat.zero_le _, fun ql hql => ?_⟩⟩
      have s1 := Same.new (o := .tup [.int q.1, .int q.2.1]) hkt
      have s2 := Same.new (o := .lst []) hql
      have kt2 := s2 _ _ (upd_same (H := G) (a := kt) (o := .tup [.int q.1, .int q.2.1]))
      have gD2 := s2 _ _ (s1 _ _ gD)
      have gq2 : (upd (upd G kt (.tup [.int q.1, .int q.2.1])) ql (.lst [])) ql = some (.lst []) := upd_same
      have s12 := s1.trans s2
      have qn : H ql = none := sG.free (s1.free hql)
      have qd : ql ≠ d := fun e => by rw [e] at hql; rw [s1 _ _ gD] at hql; cases hql
      have sG2 := sG.trans s12
      have EK2 : EndsK H (upd (upd G kt (.tup [.int q.1, .int q.2.1])) ql (.lst [])) kvs (ss.take i) := ⟨fun k v e => by
        obtain ⟨s', l', la, e1, e2, e3, e4⟩ := EK.one k v e
        exact ⟨s', l', la, e1, e2, e3, s12 _ _ e4⟩, EK.no, EK.inj⟩
      have old : ∀ k la, valV kvs k = some (.ref la) → la ≠ ql := fun k la e z => by
        obtain ⟨s', l', la', e1, e2, e3, e4⟩ := EK.one k _ e
        cases e2
        rw [z] at e4
        rw [s1 _ _ e4] at hql
        cases hql
      generalize upd (upd G kt (.tup [.int q.1, .int q.2.1])) ql (.lst []) = G2 at s12 kt2 gD2 gq2 sG2 EK2
      have dl : ∀ k la, valV kvs k = some (.ref la) → la ≠ d := fun k la e z => by
        obtain ⟨s', l', la', e1, e2, e3, e4⟩ := EK2.one k _ e
        cases e2
        rw [z] at e4
        have e5 := gD2.symm.trans e4
        cases e5
      refine ⟨kvs, kSL q.1 q.2.1, kt, gD2, rfl, kt2, small1000 (by omega), fun v hv => ?_, fun hn => ?_⟩
      · obtain ⟨s', l', la, e1, rfl, e3, e4⟩ := EK2.one _ _ hv
        obtain ⟨rfl, rfl⟩ := kSL_inj e1
        have bl : (begS (ss.take i) q.1 q.2.1).length ≤ 1000 := by
          unfold begS
          rw [List.length_map]
          have := List.length_filter_le (fun p : T3 => decide (p.1 = q.1) && decide (p.2.1 = q.2.1)) (ss.take i)
          omega
        refine ⟨.inl ⟨rfl, _, SqL.of e4⟩, .int q.2.2, rfl, la, _, _, rfl, rfl, e4, by rw [List.length_map]; exact small1000 (by have := bl; unfold begS at *; rw [List.length_map] at *; have := List.length_filter_le (fun p : T3 => decide (p.1 = q.1) && decide (p.2.1 = q.2.1)) (ss.take i); omega), ?_⟩
        refine ⟨_, _, _, kvs, rfl, fun b o e => by rw [upd_ne (ne_of_none e e3)]; exact sG2 _ _ e, by rw [upd_ne (dl _ _ hv).symm]; exact gD2, by omega, by rw [List.length_take]; omega, ?_⟩
        rw [nx]
        refine ⟨fun k v e => ?_, fun s2 l2 e => ?_, EK2.inj⟩
        · obtain ⟨s2, l2, la2, f1, f2, f3, f4⟩ := EK2.one k v e
          refine ⟨s2, l2, la2, f1, f2, f3, ?_⟩
          rw [begS_snoc]
          by_cases c : la2 = la
          · subst c
            rw [f2] at e
            have kk := EK2.inj _ _ _ e hv
            rw [f1] at kk
            obtain ⟨rfl, rfl⟩ := kSL_inj kk
            show _ = _
            rw [upd_same, decide_eq_true rfl, decide_eq_true rfl, List.map_append]
            rfl
          · show _ = _
            have nk : ¬ (q.1 = s2 ∧ q.2.1 = l2) := fun z => by
              obtain ⟨z1, z2⟩ := z
              rw [f1, ← z1, ← z2] at e
              rw [hv] at e
              rw [f2] at e
              exact c (V.ref.inj (Option.some.inj e)).symm
            rw [upd_ne c, if_neg (by rw [Bool.and_eq_true, decide_eq_true_eq, decide_eq_true_eq]; exact nk), List.append_nil]
            exact f4
        · rw [begS_snoc, EK2.no s2 l2 e]
          have nk : ¬ (q.1 = s2 ∧ q.2.1 = l2) := fun z => by
            obtain ⟨z1, z2⟩ := z
            rw [← z1, ← z2, hv] at e
            cases e
          rw [if_neg (by rw [Bool.and_eq_true, decide_eq_true_eq, decide_eq_true_eq]; exact nk)]
          rfl
      · have e0 := EK2.no _ _ hn
        have gq3 : (upd G2 d (.dT (putK kvs (kSL q.1 q.2.1) (.ref ql)))) ql = some (.lst []) := by rw [upd_ne qd]; exact gq2
        refine ⟨.inl ⟨rfl, _, SqL.of gq3⟩, .int q.2.2, rfl, ql, _, _, rfl, rfl, gq3, by show 0 < sizeLine; decide, ?_⟩
        refine ⟨_, _, _, putK kvs (kSL q.1 q.2.1) (.ref ql), rfl, fun b o e => by rw [upd_ne (ne_of_none e qn), upd_ne (ne_of_none e hd)]; exact sG2 _ _ e, by rw [upd_ne qd.symm, upd_same], by have := length_putK kvs (kSL q.1 q.2.1) (.ref ql); omega, by rw [List.length_take]; omega, ?_⟩
        rw [nx]
        refine ⟨fun k v e => ?_, fun s2 l2 e => ?_, fun k k' la e e' => ?_⟩
        · rw [valV_put] at e
          by_cases c : k = kSL q.1 q.2.1
          · rw [if_pos c] at e
            cases e
            refine ⟨q.1, q.2.1, ql, c, rfl, qn, ?_⟩
            show _ = _
            rw [upd_same, begS_snoc, e0, decide_eq_true rfl, decide_eq_true rfl]
            rfl
          · rw [if_neg c] at e
            obtain ⟨s2, l2, la2, f1, f2, f3, f4⟩ := EK2.one k v e
            refine ⟨s2, l2, la2, f1, f2, f3, ?_⟩
            rw [f2] at e
            have nk : ¬ (q.1 = s2 ∧ q.2.1 = l2) := fun z => by
              obtain ⟨z1, z2⟩ := z
              rw [f1, ← z1, ← z2] at c
              exact c rfl
            show _ = _
            rw [upd_ne (old _ _ e), upd_ne (dl _ _ e), begS_snoc, if_neg (by rw [Bool.and_eq_true, decide_eq_true_eq, decide_eq_true_eq]; exact nk), List.append_nil]
            exact f4
        · rw [valV_put] at e
          by_cases c : kSL s2 l2 = kSL q.1 q.2.1
          · rw [if_pos c] at e
            cases e
          · rw [if_neg c] at e
            rw [begS_snoc, EK2.no s2 l2 e]
            have nk : ¬ (q.1 = s2 ∧ q.2.1 = l2) := fun z => by
              obtain ⟨z1, z2⟩ := z
              rw [← z1, ← z2] at c
              exact c rfl
            rw [if_neg (by rw [Bool.and_eq_true, decide_eq_true_eq, decide_eq_true_eq]; exact nk)]
            rfl
        · rw [valV_put] at e e'
          by_cases c : k = kSL q.1 q.2.1
          · by_cases c' : k' = kSL q.1 q.2.1
            · rw [c, c']
            · rw [if_pos c] at e
              rw [if_neg c'] at e'
              cases e
              exact absurd rfl (old _ _ e')
          · by_cases c' : k' = kSL q.1 q.2.1
            · rw [if_neg c] at e
              rw [if_pos c'] at e'
              cases e'
              exact absurd rfl (old _ _ e)
            · rw [if_neg c] at e
              rw [if_neg c'] at e'
              exact EK2.inj _ _ _ e e'
    · rintro σ G ⟨y2, y3, y4, kvs, rfl, sG, gD, lk, lt, EK⟩
      rw [lens, List.take_length] at EK
      exact ⟨_, rfl, k d G sG (EK.at_ gD)⟩
end
end Fw

set_option maxRecDepth 100000
set_option maxHeartbeats 8000000
namespace Fw
open PySem PySem.Spec PyProof.Rows L2 GxR
abbrev rTupOf (K : PySem.W.Frag) : List V → Hp → VK → Prop := fun xs H Q => ∃ p ys, xs = [.ref p] ∧ ((SqL K H p ys ∧ ∀ l, H l = none → Q (.ref l) (upd H l (.tup ys))) ∨ (SqT K H p ys ∧ Q (.ref p) H))
abbrev rListOf (K : PySem.W.Frag) : List V → Hp → VK → Prop := fun xs H Q => ∃ p ys, xs = [.ref p] ∧ (SqL K H p ys ∨ SqT K H p ys) ∧ ∀ l, H l = none → Q (.ref l) (upd H l (.lst ys))
theorem FAt.same {H H' : Hp} {as : List Addr} {Xs : List (List Int)} (s : Same H H') (h : FAt H as Xs) : FAt H' as Xs := ⟨h.1, fun i a X e1 e2 => s _ _ (h.2 i a X e1 e2)⟩
theorem PAt.same {H H' : Hp} {as : List Addr} {ts : List T3} (s : Same H H') (h : PAt H as ts) : PAt H' as ts := ⟨h.1, fun i a X e1 e2 => s _ _ (h.2 i a X e1 e2)⟩
theorem RAt.same {K : PySem.W.Frag} {H H' : Hp} {as : List Addr} {Xs : List (List Int)} (s : Same H H') (h : RAt K H as Xs) : RAt K H' as Xs := ⟨h.1, fun i a X e1 e2 => SqT.same s (h.2 i a X e1 e2)⟩
theorem FAt.nth {H : Hp} {as : List Addr} {Xs : List (List Int)} (h : FAt H as Xs) {i : Nat} {x : V} (e : (as.map V.ref)[i]? = some x) : ∃ a X, x = .ref a ∧ as[i]? = some a ∧ Xs[i]? = some X ∧ IL H a X := by
  rw [List.getElem?_map] at e
  cases q : as[i]? with
  | none => rw [q] at e; cases e
  | some a =>
    rw [q] at e
    have il : i < Xs.length := by rw [← h.1]; exact (List.getElem?_eq_some_iff.mp q).1
    exact ⟨a, Xs[i], (Option.some.inj e).symm, rfl, List.getElem?_eq_getElem il, h.2 i a _ q (List.getElem?_eq_getElem il)⟩
/-- what was there is there, but for the object at p -/
theorem but_new {p q : Addr} {H G : Hp} {o : HO} (b : But p H G) (h : G q = none) : But p H (upd G q o) := fun a u n e => by
  have := b a u n e
  rw [upd_ne (ne_of_none this h)]
  exact this
theorem SqT.butO {K : PySem.W.Frag} {H H' : Hp} {a d : Addr} {xs : List V} {C dx : Addr} {fs : List (Str × V)} (hd : H d = some (.ins C dx fs)) (s : But d H H') (h : SqT K H a xs) : SqT K H' a xs := by
  rcases h with h | h
  · rcases h with h | ⟨u, h⟩
    · exact .inl (.inl (s _ _ (ne_of h hd (by intro z; cases z)) h))
    · exact .inl (.inr ⟨u, s _ _ (ne_of h hd (by intro z; cases z)) h⟩)
  · exact .inr h
theorem PAt.butO {H H' : Hp} {as : List Addr} {ts : List T3} {d C dx : Addr} {fs : List (Str × V)} (hd : H d = some (.ins C dx fs)) (s : But d H H') (h : PAt H as ts) : PAt H' as ts :=
  ⟨h.1, fun i a p e1 e2 => s _ _ (ne_of (h.2 i a p e1 e2) hd (by intro z; cases z)) (h.2 i a p e1 e2)⟩
theorem RAt.butO {K : PySem.W.Frag} {H H' : Hp} {as : List Addr} {Xs : List (List Int)} {d C dx : Addr} {fs : List (Str × V)} (hd : H d = some (.ins C dx fs)) (s : But d H H') (h : RAt K H as Xs) : RAt K H' as Xs :=
  ⟨h.1, fun i a X e1 e2 => SqT.butO hd s (h.2 i a X e1 e2)⟩
theorem EndsAt.butO {H0 H H' : Hp} {ss : List T3} {e d C dx : Addr} {fs : List (Str × V)} (hd : H d = some (.ins C dx fs)) (s : But d H H') (h : EndsAt H0 H e ss) : EndsAt H0 H' e ss :=
  h.map (fun kvs q => s _ _ (ne_of q hd (by intro z; cases z)) q) fun a xs _ q => s _ _ (ne_of q hd (by intro z; cases z)) q
/-- triples at addresses that came out of a sort -/
theorem trips_back {H : Hp} {as : List Addr} {ts : List T3} (h : PAt H as ts) : ∃ k : V → T3, ∀ (a : Addr) (p : T3) (i : Nat), as[i]? = some a → ts[i]? = some p → k (.ref a) = p := by
  refine ⟨fun v => match v with | .ref a => (match H a with | some (.tup [.int x, .int y, .int z]) => (x, y, z) | _ => (0, 0, 0)) | _ => (0, 0, 0), fun a p i e1 e2 => ?_⟩
  show (match H a with | some (.tup [.int x, .int y, .int z]) => (x, y, z) | _ => (0, 0, 0)) = p
  rw [h.2 i a p e1 e2]
/-! ### a list or a tuple -/
def IsSq (K : PySem.W.Frag) (H : Hp) (a : Addr) (xs : List V) (It : It) : Prop := (It = Itl K a ∧ SqL K H a xs) ∨ (It = Itt K a ∧ SqT K H a xs)
def iSq (K : PySem.W.Frag) (tl : TE) : TI := fun σ H R => tl σ H fun x H1 => ∃ a xs, x = .ref a ∧ Sq K H1 a xs ∧ ∀ It, IsSq K H1 a xs It → R It H1
theorem pi_sq {X : Cx} {tg l : Expr} {tl : TE} (hl : PE X l tl) : PI X tg l (iSq X.K tl) := by
  have hv : PE X l tl := hl
  refine ⟨fun pins s σ H R I h => ?_⟩
  have key := hv.run pins s σ H _ I h
  refine thn key fun v s1 ⟨x, H1, I1, r1, q1⟩ => ?_
  obtain ⟨a, xs, e, hs, q⟩ := q1
  subst e
  cases r1
  rcases hs with hq | hq
  · obtain ⟨its, rv, p, hz⟩ := I1.list hq
    refine wpAny_pyIter_list p.isList ?_
    refine ⟨s1.heap.objs.size, [s1.heap.objs.size], _, _, H1, rfl, I1.kept (t' := s1.toks) fun b o e => Heap.get?_push_of_some _ e, turn_list a _, ⟨_, Heap.get?_push_size _ rfl, rfl, rfl⟩, fun b hb => ?_, q _ (.inl ⟨rfl, hq⟩)⟩
    have e : b = s1.heap.objs.size := by simpa using hb
    subst e
    exact I1.fpOk (Nat.le_refl _) (I1.hok.fresh (Nat.le_refl _))
  · obtain ⟨its, rv, p, hz⟩ := I1.tuple hq
    refine wpAny_pyIter_tuple (show s1.heap.IsTuple a its.toArray from p) ?_
    refine ⟨s1.heap.objs.size, [s1.heap.objs.size], _, _, H1, rfl, I1.kept (t' := s1.toks) fun b o e => Heap.get?_push_of_some _ e, turn_tuple a _, ⟨_, Heap.get?_push_size _ rfl, rfl, rfl⟩, fun b hb => ?_, q _ (.inr ⟨rfl, hq⟩)⟩
    have e : b = s1.heap.objs.size := by simpa using hb
    subst e
    exact I1.fpOk (Nat.le_refl _) (I1.hok.fresh (Nat.le_refl _))
theorem lc_sq {K : PySem.W.Frag} {It : It} {a : Addr} {xs : List V} {g : TG} {tt : TT} {te : TE} {vs : List Nat} {σ : L2.St} {H0 H1 : Hp} {D : Addr} {Qd : Hp → Prop} (hIt : IsSq K H0 a xs It) (Pv : Nat → Hp → Prop) (h0 : Pv 0 (upd H1 D (.lst []))) (hk : ∀ i H, Pv i H → Same H0 H)
    (hs : ∀ i x H, xs[i]? = some x → Pv i H → g x (wipe σ vs) H fun σ2 H2 => wipe σ2 vs = wipe σ vs ∧ tt σ2 H2 fun b H3 =>
      if b = true then te σ2 H3 fun y H4 => ∃ acc, H4 D = some (.lst acc) ∧ acc.length < sizeLine ∧ Pv (i + 1) (upd H4 D (.lst (acc ++ [y]))) else Pv (i + 1) H3) (hd : ∀ H, Pv xs.length H → Qd H) :
    ∃ W : Nat → Nat → Hp → Prop, (∃ m, W 0 m (upd H1 D (.lst []))) ∧ ∀ i m H, W i m H →
      (It.stop i H ∧ Qd H) ∨ (It.go i H ∧ ∃ Nx : Hp → Prop, (∀ H', Nx H' → ∃ m', m' < m ∧ W (i + 1) m' H') ∧ ∀ x H', It.yld i H x H' → g x (wipe σ vs) H' fun σ2 H2 => wipe σ2 vs = wipe σ vs ∧ tt σ2 H2 fun b H3 =>
        if b = true then te σ2 H3 fun y H4 => ∃ acc, H4 D = some (.lst acc) ∧ acc.length < sizeLine ∧ Nx (upd H4 D (.lst (acc ++ [y]))) else Nx H3) := by
  rcases hIt with ⟨rfl, h⟩ | ⟨rfl, h⟩
  · exact lc_list Pv h0 (fun i H _ q => SqL.keepAt (fun o e => hk i H q _ o e) h) hs hd
  · exact lc_tup Pv h0 (fun i H _ q => SqT.same (hk i H q) h) hs hd
def FAtS (K : PySem.W.Frag) (H : Hp) (as : List Addr) (Xs : List (List Int)) : Prop := as.length = Xs.length ∧ ∀ (i : Nat) (a : Addr) (X : List Int), as[i]? = some a → Xs[i]? = some X → Sq K H a (X.map V.int)
theorem FAtS.same {K : PySem.W.Frag} {H H' : Hp} {as : List Addr} {Xs : List (List Int)} (s : Same H H') (h : FAtS K H as Xs) : FAtS K H' as Xs := ⟨h.1, fun i a X e1 e2 => (h.2 i a X e1 e2).same s⟩
theorem FAt.sq {K : PySem.W.Frag} {H : Hp} {as : List Addr} {Xs : List (List Int)} (h : FAt H as Xs) : FAtS K H as Xs := ⟨h.1, fun i a X e1 e2 => .inl (SqL.of (h.2 i a X e1 e2))⟩
theorem RAt.sq {K : PySem.W.Frag} {H : Hp} {as : List Addr} {Xs : List (List Int)} (h : RAt K H as Xs) : FAtS K H as Xs := ⟨h.1, fun i a X e1 e2 => .inr (h.2 i a X e1 e2)⟩
theorem FAtS.nth {K : PySem.W.Frag} {H : Hp} {as : List Addr} {Xs : List (List Int)} (h : FAtS K H as Xs) {i : Nat} {x : V} (e : (as.map V.ref)[i]? = some x) : ∃ a X, x = .ref a ∧ as[i]? = some a ∧ Xs[i]? = some X ∧ Sq K H a (X.map V.int) := by
  rw [List.getElem?_map] at e
  cases q : as[i]? with
  | none => rw [q] at e; cases e
  | some a =>
    rw [q] at e
    have il : i < Xs.length := by rw [← h.1]; exact (List.getElem?_eq_some_iff.mp q).1
    exact ⟨a, Xs[i], (Option.some.inj e).symm, rfl, List.getElem?_eq_getElem il, h.2 i a _ q (List.getElem?_eq_getElem il)⟩
theorem Sq.butO {K : PySem.W.Frag} {H H' : Hp} {a d : Addr} {xs : List V} {C dx : Addr} {fs : List (Str × V)} (hd : H d = some (.ins C dx fs)) (s : But d H H') (h : Sq K H a xs) : Sq K H' a xs := by
  rcases h with h | h
  · rcases h with h | h
    · rcases h with h | ⟨u, h⟩
      · exact .inl (.inl (.inl (s _ _ (ne_of h hd (by intro z; cases z)) h)))
      · exact .inl (.inl (.inr ⟨u, s _ _ (ne_of h hd (by intro z; cases z)) h⟩))
    · exact .inl (.inr h)
  · exact .inr (SqT.butO hd s h)
/-- rows that are tuples, each at its place -/
def RTp (H : Hp) (as : List Addr) (Xs : List (List Int)) : Prop := as.length = Xs.length ∧ ∀ (i : Nat) (a : Addr) (X : List Int), as[i]? = some a → Xs[i]? = some X → H a = some (.tup (X.map V.int))
theorem RTp.map {H H' : Hp} {as : List Addr} {Xs : List (List Int)} (h : RTp H as Xs) (z : ∀ a ys, H a = some (.tup ys) → H' a = some (.tup ys)) : RTp H' as Xs := ⟨h.1, fun i a X e1 e2 => z _ _ (h.2 i a X e1 e2)⟩
theorem RTp.snoc {H : Hp} {as : List Addr} {Xs : List (List Int)} {a : Addr} {X : List Int} (h : RTp H as Xs) (z : H a = some (.tup (X.map V.int))) : RTp H (as ++ [a]) (Xs ++ [X]) :=
  ⟨by rw [List.length_append, List.length_append, h.1]; rfl, fun i b Y e1 e2 => by
    rcases get_snoc e1 with e1' | ⟨q, rfl⟩
    · rcases get_snoc e2 with e2' | ⟨q, rfl⟩
      · exact h.2 i b Y e1' e2'
      · have := get_len e1'; rw [h.1] at this; omega
    · rcases get_snoc e2 with e2' | ⟨q2, rfl⟩
      · have := get_len e2'; rw [← h.1] at this; omega
      · exact z⟩
/-- rows that are lists or tuples, each at its place -/
def FAtP (H : Hp) (as : List Addr) (Xs : List (List Int)) : Prop := ∀ (i : Nat) (a : Addr) (X : List Int), as[i]? = some a → Xs[i]? = some X → H a = some (.lst (X.map V.int)) ∨ H a = some (.tup (X.map V.int))
section
variable {P : Program} {w : World} {K : PySem.W.Frag} {mg : Str → Option Value} {base : Heap} {C J B NC WC cA tA : Addr} {t1 t2 t3 : Tok}
def okWorld (l f : Int) (Xs : List (List Int)) (ss : List T3) : Bool := okNums l f && (okRows f Xs && okSteps l Xs.length ss)
def But2 (p q : Addr) (H H' : Hp) : Prop := ∀ b o, b ≠ p → b ≠ q → H b = some o → H' b = some o
def spWInit (K : PySem.W.Frag) (NC WC tA : Addr) : Sp := fun vs H Q E => ∃ (p dx : Addr) (l f : Int) (sa pa : Addr) (ras0 as0 : List Addr) (Xs : List (List Int)) (ps : List T3), vs = [.ref p, .int l, .int f, .ref sa, .ref pa] ∧ H p = some (.ins WC dx []) ∧
  Sq K H sa (ras0.map V.ref) ∧ FAtS K H ras0 Xs ∧ FAtP H ras0 Xs ∧ Sq K H pa (as0.map V.ref) ∧ PAt H as0 ps ∧ TabG H tA ∧ Xs.length ≤ 1000 ∧ (∀ X ∈ Xs, X.length ≤ 1000) ∧ ps.length ≤ 1000 ∧
  (∀ (ss : List T3) (ta tb d : Addr) (ras as : List Addr) H', (ss.Pairwise fun x y => lex3 y x = false) → ss.Perm ps → okWorld l f Xs ss = true → But2 p tA H H' → TabG H' tA → WoE K WC H H' p dx l f ta tb d ras as Xs ss → RTp H' ras Xs → Q .non H') ∧
  (∀ (ss : List T3), (ss.Pairwise fun x y => lex3 y x = false) → ss.Perm ps → okWorld l f Xs ss = false → ∀ H', E (.ref NC) none H')
theorem ok_World_init {f : Addr} {fd : FuncData} (FF : Fun K "__init__" "World.__init__" s_World_init f fd) (T : Txt K mg C J B) (TC : TxtC K WC)
    (h_check_numbers : HasX P w K mg base "check_numbers" 2 a_check_numbers (spCkN NC)) (h_check_states : HasX P w K mg base "check_states" 5 a_check_states (spCkS K NC WC tA)) (h_check_steps : HasX P w K mg base "check_steps" 5 a_check_steps (spCkT K NC WC tA))
    (h_ends_of : Has P w K mg base "ends_of" 1 a_ends_of (spEnds K)) : FnOk P w K mg base (L2.CX P w) 6 f fd a_World_init (spWInit K NC WC tA) := by
  refine FF.okX sc_World_init (fun vs H Q E h => ?_) (fun cdv A outer s H vs Q E hr h => ?_)
  · obtain ⟨p, dx, l, f, sa, pa, ras0, as0, Xs, ps, rfl, _⟩ := h
    rfl
  · obtain ⟨p, dx, l, f, sa, pa, ras0, as0, Xs, ps, rfl, hp, hsa, fat, fap, hpa, pat, tg, xs1, xs2, ps1, k1, k2⟩ := h
    refine ⟨_, (pss_cons (ps_fld (pv 0) (pv 1) rfl)
      (pss_cons (ps_fld (pv 0) (pv 2) rfl)
      (pss_cons (ps_fld (pv 0) (pe_callTy call_tuple_of rfl T.z_tuple (by decide +kernel) (pa_cons (pe_lc (own := [("row", 5)]) (g := gName 5) rfl sc_World_init.nd (pi_sq (pv 3)) (blkOk_by (own := [("row", 5)]) (N := n_World_init) (sc := defScope s_World_init) (by decide +kernel)) (fun _ _ _ _ _ => (pg_name (i := 5) sc_World_init.nd rfl (.inl rfl))) (fun _ _ _ _ _ => pts_nil) (fun _ _ _ _ _ => (pe_callTy (@id (CallR _ (.type "tuple") (rTupOf K)) call_tuple_of) rfl T.z_tuple (by decide +kernel) (pa_cons (pv 5) pa_nil)))) pa_nil)) rfl)
      (pss_cons (ps_fld (pv 0) (pe_callTy call_tuple_of rfl T.z_tuple (by decide +kernel) (pa_cons (pe_callB cr_sorted3 rfl T.z_sorted (by decide +kernel) (pa_cons (pe_lc (own := [("step", 6)]) (g := gName 6) rfl sc_World_init.nd (pi_sq (pv 4)) (blkOk_by (own := [("step", 6)]) (N := n_World_init) (sc := defScope s_World_init) (by decide +kernel)) (fun _ _ _ _ _ => (pg_name (i := 6) sc_World_init.nd rfl (.inl rfl))) (fun _ _ _ _ _ => pts_nil) (fun _ _ _ _ _ => (pe_callTy (@id (CallR _ (.type "tuple") (rTupOf K)) call_tuple_of) rfl T.z_tuple (by decide +kernel) (pa_cons (pv 6) pa_nil)))) pa_nil)) pa_nil)) rfl)
      (pss_cons (ps_expr (pe_callX h_check_numbers (hr.mono (by omega)) (takes_of rfl rfl rfl rfl) (pa_cons (pv 1) (pa_cons (pv 2) pa_nil))))
      (pss_cons (ps_expr (pe_callX h_check_states (hr.mono (by omega)) (takes_of rfl rfl rfl rfl) (pa_cons (pv 0) pa_nil)))
      (pss_cons (ps_expr (pe_callX h_check_steps (hr.mono (by omega)) (takes_of rfl rfl rfl rfl) (pa_cons (pv 0) pa_nil)))
      (PSs.nox (pss_one (ps_fld (pv 0) (pe_callH h_ends_of (hr.mono (by omega)) (pa_cons (pe_fld (pv 0) rfl) pa_nil)) rfl)))))))))), ?_⟩
    refine ⟨.int l, rfl, .ref p, rfl, p, WC, dx, [], rfl, hp, TC.cl, TC.nL, by show 0 < 1000; decide, ?_⟩
    refine ⟨.int f, rfl, .ref p, rfl, p, WC, dx, _, rfl, upd_same, TC.cl, TC.nF, by show 1 < 1000; decide, ?_⟩
    have bu2 : But p H (upd (upd H p (.ins WC dx (putF "labels" (V.int l) []))) p (.ins WC dx (putF "facts" (V.int f) (putF "labels" (V.int l) [])))) := (But.upd).trans But.upd
    have g2 : (upd (upd H p (.ins WC dx (putF "labels" (V.int l) []))) p (.ins WC dx (putF "facts" (V.int f) (putF "labels" (V.int l) [])))) p = some (.ins WC dx [("labels", .int l), ("facts", .int f)]) := by rw [upd_same]; rfl
    generalize upd (upd H p (.ins WC dx (putF "labels" (V.int l) []))) p (.ins WC dx (putF "facts" (V.int f) (putF "labels" (V.int l) []))) = G2 at bu2 g2
    have ntA : tA ≠ p := fun e => by obtain ⟨qs, q, _⟩ := tg; rw [e, hp] at q; cases q
    have fat2 : FAtS K G2 ras0 Xs := ⟨fat.1, fun i a X e1 e2 => Sq.butO hp bu2 (fat.2 i a X e1 e2)⟩
    have fap2 : FAtP G2 ras0 Xs := fun i a X e1 e2 => (fap i a X e1 e2).imp (fun q => bu2 _ _ (ne_of q hp (by intro z; cases z)) q) fun q => bu2 _ _ (ne_of q hp (by intro z; cases z)) q
    have pat2 : PAt G2 as0 ps := pat.butO hp bu2
    have tg2 : TabG G2 tA := by obtain ⟨qs, q, t⟩ := tg; exact ⟨qs, bu2 _ _ ntA q, t⟩
    have hsa2 := Sq.butO hp bu2 hsa
    have hpa2 := Sq.butO hp bu2 hpa
    -- the rows
    refine ⟨.ref sa, rfl, sa, _, rfl, hsa2, fun It hIt D hD => ?_⟩
    have nDp : D ≠ p := fun e => by rw [e, g2] at hD; cases hD
    refine lc_sq hIt (fun i G => ∃ ras : List Addr, Same G2 G ∧ G D = some (.lst (ras.map V.ref)) ∧ RAt K G ras (Xs.take i) ∧ RTp G ras (Xs.take i)) ⟨[], Same.new hD, upd_same, by simp [RAt], by simp [RTp]⟩ (fun i G ⟨_, sG, _⟩ => sG) ?_ ?_
    · rintro i x G hx ⟨ras, sG, gD, rat, rtp⟩
      obtain ⟨a, X, rfl, ha, hX, il⟩ := (fat2.same sG).nth hx
      have lt : i < Xs.length := (List.getElem?_eq_some_iff.mp hX).1
      have lT : ∀ {H' : Hp} {o : HO}, H' D = some (.lst (ras.map V.ref)) → ∀ (a : Addr) (ys : List V), H' a = some (.tup ys) → (upd H' D o) a = some (.tup ys) := fun e a ys q => by rw [upd_ne (ne_of q e (by intro z; cases z))]; exact q
      clear il
      rcases fap2 i a X ha hX with q0 | q0
      · refine ⟨rfl, .ref a, rfl, a, _, rfl, .inl ⟨SqL.of (sG _ _ q0), fun q hq => ?_⟩⟩
        have s1 := Same.new (o := .tup (X.map V.int)) hq
        have nD : q ≠ D := fun e => by rw [e, gD] at hq; cases hq
        refine ⟨_, s1 _ _ gD, by rw [List.length_map, rat.1, List.length_take]; exact small1000 (by omega), ras ++ [q], fun b o e => by rw [upd_ne (ne_of_none e hD)]; exact s1 _ _ (sG b o e), by rw [upd_same, List.map_append]; rfl, ?_⟩
        rw [List.take_add_one, hX, Option.toList_some]
        have sD : ∀ b ys, SqT K (upd G q (.tup (X.map V.int))) b ys → SqT K (upd (upd G q (.tup (X.map V.int))) D (.lst (ras.map V.ref ++ [.ref q]))) b ys := fun b ys e => SqT.lk (LKp.upd (s1 _ _ gD)) e
        refine ⟨⟨by rw [List.length_append, List.length_append, rat.1]; rfl, fun j b Y e1 e2 => ?_⟩, RTp.snoc ((rtp.map fun a ys q => s1 _ _ q).map (lT (s1 _ _ gD))) (lT (s1 _ _ gD) _ _ upd_same)⟩
        rcases get_snoc e1 with e1' | ⟨z1, rfl⟩
        · rcases get_snoc e2 with e2' | ⟨z2, rfl⟩
          · exact sD _ _ (SqT.same s1 (rat.2 j b Y e1' e2'))
          · have := get_len e1'; rw [rat.1] at this; omega
        · rcases get_snoc e2 with e2' | ⟨z2, rfl⟩
          · have := get_len e2'; rw [← rat.1] at this; omega
          · exact sD _ _ (SqT.of upd_same)
      · have il : SqT K G a (X.map V.int) := SqT.of (sG _ _ q0)
        refine ⟨rfl, .ref a, rfl, a, _, rfl, .inr ⟨il, ?_⟩⟩
        refine ⟨_, gD, by rw [List.length_map, rat.1, List.length_take]; exact small1000 (by omega), ras ++ [a], fun b o e => by rw [upd_ne (ne_of_none e hD)]; exact sG b o e, by rw [upd_same, List.map_append]; rfl, ?_⟩
        rw [List.take_add_one, hX, Option.toList_some]
        have sD : ∀ b ys, SqT K G b ys → SqT K (upd G D (.lst (ras.map V.ref ++ [.ref a]))) b ys := fun b ys e => SqT.lk (LKp.upd gD) e
        have ita : G a = some (.tup (X.map V.int)) := sG _ _ q0
        refine ⟨⟨by rw [List.length_append, List.length_append, rat.1]; rfl, fun j b Y e1 e2 => ?_⟩, RTp.snoc (rtp.map (lT gD)) (lT gD _ _ ita)⟩
        rcases get_snoc e1 with e1' | ⟨z1, rfl⟩
        · rcases get_snoc e2 with e2' | ⟨z2, rfl⟩
          · exact sD _ _ (rat.2 j b Y e1' e2')
          · have := get_len e1'; rw [rat.1] at this; omega
        · rcases get_snoc e2 with e2' | ⟨z2, rfl⟩
          · have := get_len e2'; rw [← rat.1] at this; omega
          · exact sD _ _ il
    rintro G3 ⟨ras, s3, gD, rat, rtp⟩
    rw [List.length_map, fat.1, List.take_length] at rat rtp
    refine ⟨D, _, rfl, .inl ⟨SqL.of gD, fun ta hta => ?_⟩⟩
    have s4 := Same.new (o := .tup (ras.map V.ref)) hta
    have s24 := s3.trans s4
    have nta : ta ≠ p := fun e => by rw [e, s3 _ _ g2] at hta; cases hta
    refine ⟨.ref p, rfl, p, WC, dx, _, rfl, s24 _ _ g2, TC.cl, TC.nS, by show 2 < 1000; decide, ?_⟩
    have bu5 : But p (upd G3 ta (.tup (ras.map V.ref))) (upd (upd G3 ta (.tup (ras.map V.ref))) p (.ins WC dx (putF "states" (V.ref ta) [("labels", .int l), ("facts", .int f)]))) := But.upd
    have g5 : (upd (upd G3 ta (.tup (ras.map V.ref))) p (.ins WC dx (putF "states" (V.ref ta) [("labels", .int l), ("facts", .int f)]))) p = some (.ins WC dx [("labels", .int l), ("facts", .int f), ("states", .ref ta)]) := by rw [upd_same]; rfl
    have st4 : SqT K (upd G3 ta (.tup (ras.map V.ref))) ta (ras.map V.ref) := SqT.of upd_same
    have st5 := SqT.butO (s24 _ _ g2) bu5 st4
    have rat5 := (rat.same s4).butO (s24 _ _ g2) bu5
    have rtp5 := (rtp.map fun a ys q => s4 _ _ q).map fun a ys q => bu5 _ _ (ne_of q (s24 _ _ g2) (by intro z; cases z)) q
    have pat5 := (pat2.same s24).butO (s24 _ _ g2) bu5
    have hpa5 := Sq.butO (s24 _ _ g2) bu5 (hpa2.same s24)
    have bH5 : But p H (upd (upd G3 ta (.tup (ras.map V.ref))) p (.ins WC dx (putF "states" (V.ref ta) [("labels", .int l), ("facts", .int f)]))) := (bu2.trans (Same.but s24)).trans bu5
    generalize upd (upd G3 ta (.tup (ras.map V.ref))) p (.ins WC dx (putF "states" (V.ref ta) [("labels", .int l), ("facts", .int f)])) = G5 at bu5 g5 st5 rat5 pat5 hpa5 bH5 rtp5
    have tT5 : ∀ {a : Addr} {ys : List V}, G5 a = some (.tup ys) → a ≠ tA := fun q e => by
      obtain ⟨qs, z, _⟩ := tg
      rw [e, bH5 _ _ ntA z] at q
      cases q
    -- the steps
    refine ⟨.ref pa, rfl, pa, _, rfl, hpa5, fun It2 hIt2 D2 hD2 => ?_⟩
    refine lc_sq hIt2 (fun i G => Same G5 G ∧ G D2 = some (.lst ((as0.take i).map V.ref))) ⟨Same.new hD2, upd_same⟩ (fun i G ⟨sG, _⟩ => sG) ?_ ?_
    · rintro i x G hx ⟨sG, gD2⟩
      obtain ⟨a, q, rfl, ha, hq, at_⟩ := (pat5.same sG).nth hx
      have lt : i < as0.length := (List.getElem?_eq_some_iff.mp ha).1
      refine ⟨rfl, .ref a, rfl, a, _, rfl, .inr ⟨SqT.of at_, _, gD2, by rw [List.length_map, List.length_take]; exact small1000 (by have := pat.1; omega), fun b o e => by rw [upd_ne (ne_of_none e hD2)]; exact sG b o e, ?_⟩⟩
      rw [upd_same, List.take_add_one, ha, Option.toList_some, List.map_append]
      rfl
    rintro G6 ⟨s6, gD2⟩
    rw [List.length_map, List.take_length] at gD2
    have pat6 := pat5.same s6
    obtain ⟨kk, hkk⟩ := trips_back pat6
    refine ⟨D2, as0.map V.ref, kk, rfl, SqL.of gD2, fun x hx => ?_, fun ys q srt stb hq => ?_⟩
    · obtain ⟨i, hi, e⟩ := List.getElem_of_mem hx
      obtain ⟨a, r, rfl, ha, hr', at_⟩ := pat6.nth (by rw [List.getElem?_eq_getElem hi, e])
      refine ⟨a, rfl, ?_⟩
      rw [hkk a r i ha hr']
      exact at_
    have s7 := Same.new (o := .lst ys) hq
    refine ⟨q, _, rfl, .inl ⟨SqL.of upd_same, fun tb htb => ?_⟩⟩
    have s8 := Same.new (o := .tup ys) htb
    -- which triples they are
    obtain ⟨as, hys⟩ : ∃ as : List Addr, ys = as.map V.ref := by
      have mem : ∀ y ∈ ys, ∃ a, y = V.ref a := fun y hy => by
        obtain ⟨a, _, e⟩ := List.mem_map.mp (stb.perm.mem_iff.mp hy)
        exact ⟨a, e.symm⟩
      clear srt stb s7 s8 htb hq
      induction ys with
      | nil => exact ⟨[], rfl⟩
      | cons y ys ih =>
        obtain ⟨a, rfl⟩ := mem y List.mem_cons_self
        obtain ⟨as, e⟩ := ih fun z hz => mem z (List.mem_cons_of_mem _ hz)
        exact ⟨a :: as, by rw [e]; rfl⟩
    subst hys
    have perm : (as.map fun a => kk (.ref a)).Perm ps := by
      have e1 := stb.perm.map kk
      rw [List.map_map, List.map_map] at e1
      have e2 : as0.map (kk ∘ V.ref) = ps := by
        refine List.ext_getElem? fun i => ?_
        rw [List.getElem?_map]
        cases e3 : as0[i]? with
        | none =>
          have := List.getElem?_eq_none_iff.mp e3
          rw [pat.1] at this
          rw [List.getElem?_eq_none_iff.mpr this]
          rfl
        | some a =>
          have il : i < ps.length := by rw [← pat.1]; exact (List.getElem?_eq_some_iff.mp e3).1
          have e4 := List.getElem?_eq_getElem il
          rw [e4]
          exact congrArg some (hkk a _ i e3 e4)
      rw [e2] at e1
      exact e1
    have sort : (as.map fun a => kk (.ref a)).Pairwise fun x y => lex3 y x = false := by
      have e1 := List.pairwise_map.mp srt
      exact List.pairwise_map.mpr e1
    have pas : PAt G6 as (as.map fun a => kk (.ref a)) := ⟨by rw [List.length_map], fun i a r e1 e2 => by
      rw [List.getElem?_map, e1] at e2
      have e3 := (Option.some.inj e2).symm
      subst e3
      have hm : V.ref a ∈ as0.map V.ref := stb.perm.mem_iff.mp (List.mem_map.mpr ⟨a, List.mem_of_getElem? e1, rfl⟩)
      obtain ⟨j, hj, e4⟩ := List.getElem_of_mem hm
      obtain ⟨a', r', e5, ha', hr', at_⟩ := pat6.nth (by rw [List.getElem?_eq_getElem hj, e4])
      cases e5
      show G6 a = some (.tup [.int (kk (.ref a)).1, .int (kk (.ref a)).2.1, .int (kk (.ref a)).2.2])
      rw [hkk a r' j ha' hr']
      exact at_⟩
    generalize (as.map fun a => kk (.ref a)) = ss at perm sort pas
    have s58 := s6.trans (s7.trans s8)
    refine ⟨.ref p, rfl, p, WC, dx, _, rfl, s58 _ _ g5, TC.cl, TC.nT, by show 3 < 1000; decide, ?_⟩
    have bu9 : But p (upd (upd G6 q (.lst (as.map V.ref))) tb (.tup (as.map V.ref))) (upd (upd (upd G6 q (.lst (as.map V.ref))) tb (.tup (as.map V.ref))) p (.ins WC dx (putF "steps" (V.ref tb) [("labels", .int l), ("facts", .int f), ("states", .ref ta)]))) := But.upd
    have g9 : (upd (upd (upd G6 q (.lst (as.map V.ref))) tb (.tup (as.map V.ref))) p (.ins WC dx (putF "steps" (V.ref tb) [("labels", .int l), ("facts", .int f), ("states", .ref ta)]))) p = some (.ins WC dx (wf l f ta tb)) := by rw [upd_same]; rfl
    have g8 := s58 _ _ g5
    have W : WoA K WC (upd (upd (upd G6 q (.lst (as.map V.ref))) tb (.tup (as.map V.ref))) p (.ins WC dx (putF "steps" (V.ref tb) [("labels", .int l), ("facts", .int f), ("states", .ref ta)]))) p dx l f ta tb ras as Xs ss :=
      ⟨g9, SqT.butO g8 bu9 (SqT.same s58 st5), (rat5.same s58).butO g8 bu9, SqT.butO g8 bu9 (SqT.of upd_same), (pas.same (s7.trans s8)).butO g8 bu9⟩
    have bH9 := (bH5.trans (Same.but s58)).trans bu9
    have tg9 : TabG (upd (upd (upd G6 q (.lst (as.map V.ref))) tb (.tup (as.map V.ref))) p (.ins WC dx (putF "steps" (V.ref tb) [("labels", .int l), ("facts", .int f), ("states", .ref ta)]))) tA := by
      obtain ⟨qs, z, t⟩ := tg
      exact ⟨qs, bH9 _ _ ntA z, t⟩
    generalize upd (upd (upd G6 q (.lst (as.map V.ref))) tb (.tup (as.map V.ref))) p (.ins WC dx (putF "steps" (V.ref tb) [("labels", .int l), ("facts", .int f), ("states", .ref ta)])) = G9 at W bH9 tg9 bu9
    -- the checks
    have bad := k2 ss sort perm
    have good := k1 ss ta tb
    unfold okWorld at bad good
    refine ⟨.int l, rfl, .int f, rfl, l, f, rfl, fun o1 => ?_, fun o1 => bad (by rw [o1, Bool.false_and]) _⟩
    rw [o1, Bool.true_and] at bad good
    refine ⟨.ref p, rfl, p, dx, l, f, ta, tb, ras, as, Xs, ss, rfl, W, tg9, xs1, fun o2 H10 t10 => ?_, fun o2 H10 => bad (by rw [o2, Bool.false_and]) _⟩
    rw [o2, Bool.true_and] at bad good
    have W10 := W.tb tg9 t10
    refine ⟨.ref p, rfl, p, dx, l, f, ta, tb, ras, as, Xs, ss, rfl, W10, t10.2, fun o3 H11 t11 => ?_, fun o3 H11 => bad o3 _⟩
    have W11 := W10.tb t10.2 t11
    have lss : ss.length ≤ 1000 := by rw [perm.length_eq]; exact ps1
    refine ⟨.ref p, rfl, p, WC, dx, _, .ref tb, rfl, W11.ob, TC.cl, TC.nT, rfl, tb, as, ss, rfl, W11.sp, W11.tr, lss, fun d H12 s12 en => ?_⟩
    refine ⟨.ref p, rfl, p, WC, dx, _, rfl, s12 _ _ W11.ob, TC.cl, TC.nE, by show 4 < 1000; decide, ?_⟩
    have g12 := s12 _ _ W11.ob
    have bu13 : But p H12 (upd H12 p (.ins WC dx (putF "_ends" (V.ref d) (wf l f ta tb)))) := But.upd
    have tg12 := t11.2.same s12
    refine good d ras as _ sort perm o3 (fun b o n1 n2 e => ?_) ?_ ⟨by rw [upd_same]; rfl, SqT.butO g12 bu13 (SqT.same s12 W11.st), (W11.rw.same s12).butO g12 bu13, SqT.butO g12 bu13 (SqT.same s12 W11.sp), (W11.tr.same s12).butO g12 bu13, (en.butO g12 bu13).weak fun b hb => ?_⟩ (rtp5.map fun a ys q => bu13 _ _ (ne_of q g5 (by intro z; cases z)) (s12 _ _ (t11.1 _ _ (tT5 q) (t10.1 _ _ (tT5 q) (bu9 _ _ (ne_of q g5 (by intro z; cases z)) (s58 _ _ q))))))
    · exact bu13 _ _ n1 (s12 _ _ (t11.1 _ _ n2 (t10.1 _ _ n2 (bH9 _ _ n1 e))))
    · obtain ⟨qs, z, t⟩ := tg12
      exact ⟨qs, bu13 _ _ ntA z, t⟩
    · cases q : H b with
      | none => rfl
      | some o =>
        by_cases n1 : b = p
        · rw [n1, W11.ob] at hb
          cases hb
        · by_cases n2 : b = tA
          · obtain ⟨qs, z, t⟩ := t11.2
            rw [n2, z] at hb
            cases hb
          · rw [t11.1 _ _ n2 (t10.1 _ _ n2 (bH9 _ _ n1 q))] at hb
            cases hb
end
end Fw

set_option maxRecDepth 100000
set_option maxHeartbeats 8000000
namespace Fw
open PySem PySem.Spec PyProof.Rows L2 GxR
theorem ok_of {l f : Int} {Xs : List (List Int)} {ss : List T3} (hl : 1 ≤ l ∧ l ≤ 3) (hf : 0 ≤ f ∧ f ≤ 6) (h1 : 1 ≤ Xs.length) (h4 : Xs.length ≤ 400) (hr : ∀ X ∈ Xs, RowUp f X) (hs : ss.Pairwise fun x y => lex3 x y = true)
    (hb : ∀ p ∈ ss, 0 ≤ p.2.1 ∧ p.2.1 < l ∧ 0 ≤ p.1 ∧ p.1 < (Xs.length : Int) ∧ 0 ≤ p.2.2 ∧ p.2.2 < (Xs.length : Int)) : okWorld l f Xs ss = true := by
  unfold okWorld okNums okRows okSteps
  have a1 : Xs.all (okRow f) = true := List.all_eq_true.mpr fun X hX => by
    have r := hr X hX
    unfold okRow
    rw [Bool.and_eq_true]
    refine ⟨List.all_eq_true.mpr fun x hx => ?_, (asc_pair ltI_tr).mpr (r.1.imp fun {a b} h => decide_eq_true h)⟩
    have := r.2 x hx
    rw [Bool.and_eq_true, decide_eq_true_eq, decide_eq_true_eq]
    omega
  have a2 : ss.all (okStep l Xs.length) = true := List.all_eq_true.mpr fun p hp => by
    have r := hb p hp
    unfold okStep
    simp only [Bool.and_eq_true, decide_eq_true_eq]
    omega
  rw [a1, a2, (asc_pair lex3_tr).mpr hs, decide_eq_true hl.1, decide_eq_true hl.2, decide_eq_true hf.1, decide_eq_true hf.2, decide_eq_true (by omega : 1 ≤ (Xs.length : Int)), decide_eq_true (by omega : (Xs.length : Int) ≤ 400)]
  rfl
theorem ints_nth {xs : List Int} {i : Nat} {x : V} (hx : (xs.map V.int)[i]? = some x) : ∃ z, xs[i]? = some z ∧ x = V.int z := by
  rw [List.getElem?_map] at hx
  cases e : xs[i]? with
  | none => rw [e] at hx; cases hx
  | some z => rw [e] at hx; exact ⟨z, rfl, (Option.some.inj hx).symm⟩
theorem WoE.same {K : PySem.W.Frag} {WC : Addr} {H0 H H' : Hp} {p dx : Addr} {l f : Int} {ta tb d : Addr} {ras as : List Addr} {Xs : List (List Int)} {ss : List T3} (z : Same H H') (h : WoE K WC H0 H p dx l f ta tb d ras as Xs ss) : WoE K WC H0 H' p dx l f ta tb d ras as Xs ss :=
  ⟨z _ _ h.ob, SqT.same z h.st, h.rw.same z, SqT.same z h.sp, h.tr.same z, h.en.map (fun kvs e => z _ _ e) fun a xs _ e => z _ _ e⟩
theorem RAt.snoc {K : PySem.W.Frag} {H : Hp} {as : List Addr} {Xs : List (List Int)} {a : Addr} {X : List Int} (h : RAt K H as Xs) (z : SqT K H a (X.map V.int)) : RAt K H (as ++ [a]) (Xs ++ [X]) :=
  ⟨by rw [List.length_append, List.length_append, h.1]; rfl, fun i b Y e1 e2 => by
    rcases get_snoc e1 with e1' | ⟨q, rfl⟩
    · rcases get_snoc e2 with e2' | ⟨q, rfl⟩
      · exact h.2 i b Y e1' e2'
      · have := get_len e1'; rw [h.1] at this; omega
    · rcases get_snoc e2 with e2' | ⟨q2, rfl⟩
      · have := get_len e2'; rw [← h.1] at this; omega
      · exact z⟩
theorem RowUp.mono {f g : Int} {X : List Int} (h : RowUp f X) (l : f ≤ g) : RowUp g X := ⟨h.1, fun x hx => by have := h.2 x hx; omega⟩
theorem itN {a b : Int} {A B : Prop} (h : a ≠ b) (x : B) : if decide (V.int a = V.int b) = true then A else B := (if_neg (by rw [decide_eq_false (fun e => h (V.int.inj e))]; exact Bool.false_ne_true)).mpr x
theorem itY {a b : Int} {A B : Prop} (h : a = b) (x : A) : if decide (V.int a = V.int b) = true then A else B := (if_pos (decide_eq_true (congrArg V.int h))).mpr x
theorem sorted_back {H : Hp} {as0 : List Addr} {ts : List T3} {kk : V → T3} (pat : PAt H as0 ts) (hkk : ∀ (a : Addr) (p : T3) (i : Nat), as0[i]? = some a → ts[i]? = some p → kk (.ref a) = p) {ys : List V}
    (srt : SrtO.Srtd (fun x y => lex3 (kk x) (kk y)) ys) (stb : SrtO.Stb (fun x y => lex3 (kk x) (kk y)) ys (as0.map V.ref)) : ∃ (as : List Addr) (ss : List T3), ys = as.map V.ref ∧ (ss.Pairwise fun x y => lex3 y x = false) ∧ ss.Perm ts ∧ PAt H as ss := by
  obtain ⟨as, hys⟩ : ∃ as : List Addr, ys = as.map V.ref := by
    have mem : ∀ y ∈ ys, ∃ a, y = V.ref a := fun y hy => by
      obtain ⟨a, _, e⟩ := List.mem_map.mp (stb.perm.mem_iff.mp hy)
      exact ⟨a, e.symm⟩
    clear srt stb
    induction ys with
    | nil => exact ⟨[], rfl⟩
    | cons y ys ih =>
      obtain ⟨a, rfl⟩ := mem y List.mem_cons_self
      obtain ⟨as, e⟩ := ih fun z hz => mem z (List.mem_cons_of_mem _ hz)
      exact ⟨a :: as, by rw [e]; rfl⟩
  subst hys
  refine ⟨as, as.map fun a => kk (.ref a), rfl, List.pairwise_map.mpr (List.pairwise_map.mp srt), ?_, by rw [List.length_map], fun i a r e1 e2 => ?_⟩
  · have e1 := stb.perm.map kk
    rw [List.map_map, List.map_map] at e1
    have e2 : as0.map (kk ∘ V.ref) = ts := by
      refine List.ext_getElem? fun i => ?_
      rw [List.getElem?_map]
      cases e3 : as0[i]? with
      | none =>
        have := List.getElem?_eq_none_iff.mp e3
        rw [pat.1] at this
        rw [List.getElem?_eq_none_iff.mpr this]
        rfl
      | some a =>
        have il : i < ts.length := by rw [← pat.1]; exact (List.getElem?_eq_some_iff.mp e3).1
        have e4 := List.getElem?_eq_getElem il
        rw [e4]
        exact congrArg some (hkk a _ i e3 e4)
    rw [e2] at e1
    exact e1
  · rw [List.getElem?_map, e1] at e2
    have e3 := (Option.some.inj e2).symm
    subst e3
    have hm : V.ref a ∈ as0.map V.ref := stb.perm.mem_iff.mp (List.mem_map.mpr ⟨a, List.mem_of_getElem? e1, rfl⟩)
    obtain ⟨j, hj, e4⟩ := List.getElem_of_mem hm
    obtain ⟨a', r', e5, ha', hr', at_⟩ := pat.nth (by rw [List.getElem?_eq_getElem hj, e4])
    cases e5
    show H a = some (.tup [.int (kk (.ref a)).1, .int (kk (.ref a)).2.1, .int (kk (.ref a)).2.2])
    rw [hkk a r' j ha' hr']
    exact at_
theorem trips_say {H : Hp} {as0 : List Addr} {ts : List T3} {kk : V → T3} (pat : PAt H as0 ts) (hkk : ∀ (a : Addr) (p : T3) (i : Nat), as0[i]? = some a → ts[i]? = some p → kk (.ref a) = p) :
    ∀ x ∈ as0.map V.ref, ∃ t, x = V.ref t ∧ H t = some (.tup [.int (kk x).1, .int (kk x).2.1, .int (kk x).2.2]) := fun x hx => by
  obtain ⟨i, hi, e⟩ := List.getElem_of_mem hx
  obtain ⟨a, r, rfl, ha, hr', at_⟩ := pat.nth (by rw [List.getElem?_eq_getElem hi, e])
  refine ⟨a, rfl, ?_⟩
  rw [hkk a r i ha hr']
  exact at_
theorem up_one {a b : List Int} (h : a.Perm b) (ha : a.Pairwise (· ≤ ·)) (hb : b.Pairwise (· < ·)) : a = b := by
  have nb : b.Nodup := hb.imp fun {x y} h e => by omega
  have na : a.Nodup := h.nodup_iff.mpr nb
  refine rising_one ?_ hb fun x => h.mem_iff
  exact (List.pairwise_and_iff.mpr ⟨ha, na⟩).imp fun {x y} h => by have := h.1; have := h.2; omega
theorem PAt.butD {H H' : Hp} {d : Addr} {as : List Addr} {ts : List T3} (dr : Draws H d) (b : But d H H') (h : PAt H as ts) : PAt H' as ts := by
  obtain ⟨ds, q⟩ := dr
  exact ⟨h.1, fun i a p e1 e2 => b _ _ (ne_of (h.2 i a p e1 e2) q (by intro z; cases z)) (h.2 i a p e1 e2)⟩
theorem WAx.butD {H H' : Hp} {d wa sa pa : Addr} {fas pas : List Addr} {W : Wd} (dr : Draws H d) (b : But d H H') (n1 : sa ≠ d) (n2 : pa ≠ d) (n3 : ∀ a ∈ fas, a ≠ d) (h : WAx H wa sa pa fas pas W) : WAx H' wa sa pa fas pas W := by
  have pt := h.t.butD dr b
  obtain ⟨ds, q⟩ := dr
  exact ⟨b _ _ (ne_of h.w q (by intro z; cases z)) h.w, b _ _ n1 h.s, b _ _ n2 h.p, h.f.map fun a o ha e => b _ _ (n3 a ha) e, pt⟩
theorem FAt.tb {P : Addr} {H H' : Hp} {as : List Addr} {Xs : List (List Int)} (g : TabG H P) (t : Tb P H H') (h : FAt H as Xs) : FAt H' as Xs := ⟨h.1, fun i a X e1 e2 => t.1 _ _ (g.ne (h.2 i a X e1 e2) (by intro _ z; cases z)) (h.2 i a X e1 e2)⟩
theorem WAx.tb {P : Addr} {H H' : Hp} {wa sa pa : Addr} {fas pas : List Addr} {W : Wd} (g : TabG H P) (t : Tb P H H') (h : WAx H wa sa pa fas pas W) : WAx H' wa sa pa fas pas W :=
  ⟨t.1 _ _ (g.ne h.w (by intro _ z; cases z)) h.w, t.1 _ _ (g.ne h.s (by intro _ z; cases z)) h.s, t.1 _ _ (g.ne h.p (by intro _ z; cases z)) h.p, h.f.tb g t, h.t.tb g t⟩
theorem IsF.tb {K : PySem.W.Frag} {P : Addr} {H H' : Hp} (g : TabG H P) (t : Tb P H H') {v : V} {f : F} (h : IsF K H v f) : IsF K H' v f := h.map fun _ _ => SqT.tb g t
theorem WoE.tb {K : PySem.W.Frag} {WC P : Addr} {H0 H H' : Hp} {p dx : Addr} {l f : Int} {ta tb d : Addr} {ras as : List Addr} {Xs : List (List Int)} {ss : List T3} (g : TabG H P) (t : Tb P H H') (h : WoE K WC H0 H p dx l f ta tb d ras as Xs ss) : WoE K WC H0 H' p dx l f ta tb d ras as Xs ss :=
  ⟨t.1 _ _ (g.ne h.ob (by intro _ z; cases z)) h.ob, SqT.tb g t h.st, h.rw.tb g t, SqT.tb g t h.sp, h.tr.tb g t, h.en.tb g t⟩
theorem joinS {c : Bool} {A : Prop} {C : L2.St → Hp → Prop} {σ : L2.St} {G : Hp} (Fa : L2.St → Hp → Prop) (hr : ∀ σ5 G5, Fa σ5 G5 → C σ5 G5) (h1 : c = true → (∀ σ5 G5, Fa σ5 G5 → C σ5 G5) → A) (h2 : c = false → Fa σ G) : if c = true then A else C σ G := by
  cases c with
  | true => exact h1 rfl hr
  | false => exact hr _ _ (h2 rfl)
theorem WoE.wst {K : PySem.W.Frag} {WC : Addr} {H0 H : Hp} {p dx : Addr} {l f : Int} {ta tb d r : Addr} {ras as : List Addr} {Xs : List (List Int)} {ss : List T3} (h : WoE K WC H0 H p dx l f ta tb d ras as Xs ss) (e : H r = some (.tup [.ref ta, .ref tb])) : WSt K H (.ref r) ⟨Xs, ss⟩ :=
  ⟨r, ta, tb, ras, as, rfl, ⟨e, .inr h.st, .inr h.sp, ⟨h.rw.1, fun i a X e1 e2 => .inr (h.rw.2 i a X e1 e2)⟩, h.tr⟩⟩
section
variable {P : Program} {w : World} {K : PySem.W.Frag} {mg : Str → Option Value} {base : Heap} {C J B NC WC cA tA : Addr} {t1 t2 t3 : Tok}
def spMade (K : PySem.W.Frag) (WC tA : Addr) : Sp := fun vs H Q _ => ∃ (wa sa pa : Addr) (fas pas : List Addr) (W : Wd) (l f f0 : Int), vs = [.ref wa, .int l, .int f] ∧ WAx H wa sa pa fas pas W ∧ W.Fit ∧ W.Up f0 ∧ 2 ≤ l ∧ l ≤ 3 ∧ f0 ≤ f ∧ 0 ≤ f ∧ f ≤ 6 ∧ TabG H tA ∧
  ∀ (p dx ta tb d : Addr) (ras as : List Addr) H', Tb tA H H' → WoE K WC H H' p dx l f ta tb d ras as W.facts W.steps → RTp H' ras W.facts → Q (.ref p) H'
theorem ok_law_made {f : Addr} {fd : FuncData} (FF : Fun K "_law_made" "_law_made" s_law_made f fd) (T : Txt K mg C J B) (h_World : HasCX P w K mg base "World" WC 6 a_World_init (spWInit K NC WC tA)) : FnOk P w K mg base (L2.CX P w) 8 f fd a_law_made (spMade K WC tA) := by
  refine FF.okX sc_law_made (fun vs H Q E h => ?_) (fun cdv A outer s H vs Q E hr h => ?_)
  · obtain ⟨wa, sa, pa, fas, pas, W, l, f, f0, rfl, _⟩ := h
    rfl
  · obtain ⟨wa, sa, pa, fas, pas, W, l, f, f0, rfl, X, fit, up, l2, l3, ff, f1, f6, tg, k⟩ := h
    refine ⟨_, (pss_one (ps_ret (pe_makeX h_World (hr.mono (by omega)) (takes_of rfl rfl rfl rfl) (pa_cons (pv 1) (pa_cons (pv 2) (pa_cons (pe_lc (own := [("state", 3)]) (g := gName 3) rfl sc_law_made.nd (pi_list (pe_ix ix_tup (pv 0) pe_int (fun _ _ => rfl))) (blkOk_by (own := [("state", 3)]) (N := n_law_made) (sc := defScope s_law_made) (by decide +kernel)) (fun _ _ _ _ _ => (pg_name (i := 3) sc_law_made.nd rfl (.inl rfl))) (fun _ _ _ _ _ => pts_nil) (fun _ _ _ _ _ => (pe_callTy (@id (CallR _ (.type "list") (rListOf K)) call_list_of) rfl T.z_list (by decide +kernel) (pa_cons (pv 3) pa_nil)))) (pa_cons (pe_callTy call_list_of rfl T.z_list (by decide +kernel) (pa_cons (pe_ix ix_tup (pv 0) pe_int (fun _ _ => rfl)) pa_nil)) pa_nil))))))), ?_⟩
    refine ⟨.int l, rfl, .int f, rfl, .ref wa, rfl, wa, _, _, .ref sa, rfl, rfl, SqT.of X.w, rfl, sa, rfl, ⟨_, SqL.of X.s⟩, fun D hD => ?_⟩
    refine lc_list (xs := fas.map V.ref) (fun i G => ∃ gs : List Addr, Same H G ∧ G D = some (.lst (gs.map V.ref)) ∧ FAt G gs (W.facts.take i) ∧ ∀ a ∈ gs, a ≠ D) ⟨[], Same.new hD, upd_same, FAt.nil _, fun a h => by cases h⟩ (fun i G _ ⟨_, sG, _⟩ => SqL.of (sG _ _ X.s)) ?_ ?_
    · rintro i x G hx ⟨gs, sG, gD, fa, nd⟩
      obtain ⟨a, Y, rfl, ha, hY, il⟩ := (X.f.same sG).nth hx
      refine ⟨rfl, .ref a, rfl, a, _, rfl, .inl (SqL.of il), fun q hq => ?_⟩
      have s1 := Same.new (o := .lst (Y.map V.int)) hq
      have lt : i < W.facts.length := (List.getElem?_eq_some_iff.mp hY).1
      have n8 : W.facts.length ≤ 8 := fit.n8
      have nqD : q ≠ D := (ne_of_none gD hq).symm
      refine ⟨_, s1 _ _ gD, by rw [List.length_map, fa.1, List.length_take]; exact small1000 (by omega), gs ++ [q], fun b o e => by rw [upd_ne (ne_of_none e hD)]; exact s1 _ _ (sG b o e), by rw [upd_same, List.map_append]; rfl, ?_⟩
      rw [List.take_add_one, hY, Option.toList_some]
      refine ⟨?_, fun g hg => (List.mem_append.mp hg).elim (nd g) fun z => by rw [List.mem_singleton.mp z]; exact nqD⟩
      refine FAt.snoc (fa.map fun a' o' hm e => ?_) (by show _ = _; rw [upd_ne nqD, upd_same])
      rw [upd_ne (nd a' hm)]
      exact s1 _ _ e
    rintro G1 ⟨gs, sG, gD, fa, _⟩
    rw [List.length_map, X.f.1, List.take_length] at fa
    refine ⟨.ref wa, rfl, wa, _, _, .ref pa, rfl, rfl, SqT.of (sG _ _ X.w), rfl, pa, _, rfl, .inl (SqL.of (sG _ _ X.p)), fun L hL => fun x dx hx hdx ne => ?_⟩
    have s2 := Same.new (o := .lst (pas.map V.ref)) hL
    have s3 : Same (upd G1 L (.lst (pas.map V.ref))) (upd (upd (upd G1 L (.lst (pas.map V.ref))) dx (.own x)) x (.ins WC dx [])) := fun b u e => by rw [upd_ne (ne_of_none e hx), upd_ne (ne_of_none e hdx)]; exact e
    have s13 := sG.trans (s2.trans s3)
    have n8 : W.facts.length ≤ 8 := fit.n8
    have n1 : 1 ≤ W.facts.length := fit.one
    have good : okWorld l f W.facts W.steps = true := ok_of (by omega) (by omega) n1 (by omega) (fun Y hY => (up.rows Y hY).mono ff) up.steps fun q hq => by
      have := up.in_ q hq
      unfold StUp Wd.n at this
      omega
    refine ⟨x, dx, l, f, D, L, gs, pas, W.facts, W.steps, rfl, upd_same, .inl (SqL.of (s3 _ _ (s2 _ _ gD))), (fa.same (s2.trans s3)).sq, (fun i a X e1 e2 => .inl (s3 _ _ (s2 _ _ (fa.2 i a X e1 e2)))), .inl (SqL.of (s3 _ _ upd_same)), X.t.same s13, tg.same s13, by omega, fun Y hY => by have := fit.fc Y hY; omega, by have := fit.st; omega, fun ss ta tb d ras as H' so pe ok b2 tg' W2 RT => ⟨rfl, ?_⟩, fun ss so pe ok H' => ?_⟩
    · have e := sorted_one so up.steps pe
      subst e
      refine k x dx ta tb d ras as H' ⟨fun b u n e => b2 _ _ (ne_of_none (s2 _ _ (sG _ _ e)) hx) n (s13 _ _ e), tg'⟩ ⟨W2.ob, W2.st, W2.rw, W2.sp, W2.tr, W2.en.weak fun b hb => ?_⟩ RT
      cases q : H b with
      | none => rfl
      | some u => rw [s13 _ _ q] at hb; cases hb
    · have e := sorted_one so up.steps pe
      subst e
      rw [good] at ok
      cases ok
end
end Fw

/-! Sets of states as whole numbers: what the bit operations do. Pure mathematics. -/
namespace Fw
open PySem
theorem and_nat (a b : Nat) : Builtin.bitAnd (a : Int) (b : Int) = ((a &&& b : Nat) : Int) := by
  have := PyProof.Rows.bitAnd_pp (x := (a : Int)) (y := (b : Int)) (Int.natCast_nonneg a) (Int.natCast_nonneg b)
  simpa using this
theorem and_bit (a b x y : Nat) (hx : x < 2) (hy : y < 2) : (2 * a + x) &&& (2 * b + y) = 2 * (a &&& b) + (x &&& y) := by
  refine Nat.eq_of_testBit_eq fun k => ?_
  have hxy : x &&& y < 2 := by
    have : x = 0 ∨ x = 1 := by omega
    have : y = 0 ∨ y = 1 := by omega
    rcases ‹x = 0 ∨ x = 1› with rfl | rfl <;> rcases ‹y = 0 ∨ y = 1› with rfl | rfl <;> decide
  cases k with
  | zero =>
    rw [Nat.testBit_and]
    have p : ∀ c z : Nat, z < 2 → (2 * c + z).testBit 0 = decide (z = 1) := fun c z hz => by
      rw [Nat.testBit_zero]
      have : (2 * c + z) % 2 = z := by omega
      rw [this]
    rw [p a x hx, p b y hy, p _ _ hxy]
    have : x = 0 ∨ x = 1 := by omega
    have : y = 0 ∨ y = 1 := by omega
    rcases ‹x = 0 ∨ x = 1› with rfl | rfl <;> rcases ‹y = 0 ∨ y = 1› with rfl | rfl <;> decide
  | succ k =>
    rw [Nat.testBit_and]
    have p : ∀ c z : Nat, z < 2 → (2 * c + z).testBit (k + 1) = c.testBit k := fun c z hz => by
      rw [Nat.testBit_succ]
      have : (2 * c + z) / 2 = c := by omega
      rw [this]
    rw [p a x hx, p b y hy, p _ _ hxy, Nat.testBit_and]
theorem and_le (a b : Nat) : a &&& b ≤ a := Nat.and_le_left
/-- a without b -/
def wo (a b : Nat) : Nat := a - (a &&& b)
theorem wo_bit : ∀ (k a b : Nat), (wo a b).testBit k = (a.testBit k && !b.testBit k) := by
  have half : ∀ a b : Nat, ∃ x y, x < 2 ∧ y < 2 ∧ a = 2 * (a / 2) + x ∧ b = 2 * (b / 2) + y ∧ wo a b = 2 * wo (a / 2) (b / 2) + (x - (x &&& y)) ∧ x - (x &&& y) < 2 := fun a b => by
    refine ⟨a % 2, b % 2, by omega, by omega, by omega, by omega, ?_, by omega⟩
    have e := and_bit (a / 2) (b / 2) (a % 2) (b % 2) (by omega) (by omega)
    rw [show 2 * (a / 2) + a % 2 = a by omega, show 2 * (b / 2) + b % 2 = b by omega] at e
    have l1 := and_le (a / 2) (b / 2)
    have l2 := and_le (a % 2) (b % 2)
    unfold wo
    rw [e]
    omega
  intro k
  induction k with
  | zero =>
    intro a b
    obtain ⟨x, y, hx, hy, ea, eb, ew, hl⟩ := half a b
    rw [Nat.testBit_zero, Nat.testBit_zero, Nat.testBit_zero]
    have e1 : wo a b % 2 = x - (x &&& y) := by rw [ew]; omega
    have e2 : a % 2 = x := by omega
    have e3 : b % 2 = y := by omega
    rw [e1, e2, e3]
    have : x = 0 ∨ x = 1 := by omega
    have : y = 0 ∨ y = 1 := by omega
    rcases ‹x = 0 ∨ x = 1› with rfl | rfl <;> rcases ‹y = 0 ∨ y = 1› with rfl | rfl <;> decide
  | succ k ih =>
    intro a b
    obtain ⟨x, y, hx, hy, ea, eb, ew, hl⟩ := half a b
    rw [Nat.testBit_succ, Nat.testBit_succ, Nat.testBit_succ, ← ih]
    have e1 : wo a b / 2 = wo (a / 2) (b / 2) := by rw [ew]; omega
    rw [e1]
theorem wo_nat (a b : Nat) : Builtin.bitAnd (a : Int) (Builtin.bitNot (b : Int)) = ((wo a b : Nat) : Int) := by
  rw [PyProof.Rows.bitAnd_not, and_nat]
  have := and_le a b
  unfold wo
  omega
theorem or_add : ∀ a b : Nat, (a ||| b) + (a &&& b) = a + b := by
  intro a
  induction a using Nat.strongRecOn with
  | ind a ih =>
    intro b
    by_cases h : a = 0
    · subst h
      simp
    · have i := ih (a / 2) (by omega) (b / 2)
      have e := and_bit (a / 2) (b / 2) (a % 2) (b % 2) (by omega) (by omega)
      rw [show 2 * (a / 2) + a % 2 = a by omega, show 2 * (b / 2) + b % 2 = b by omega] at e
      have o1 : (a ||| b) / 2 = a / 2 ||| b / 2 := Nat.or_div_two
      have o2 : (a ||| b) % 2 = (a % 2 ||| b % 2) := by
        have h1 : (a ||| b).testBit 0 = (a.testBit 0 || b.testBit 0) := Nat.testBit_or ..
        rw [Nat.testBit_zero, Nat.testBit_zero, Nat.testBit_zero] at h1
        have ha : a % 2 = 0 ∨ a % 2 = 1 := by omega
        have hb : b % 2 = 0 ∨ b % 2 = 1 := by omega
        have ho : (a ||| b) % 2 = 0 ∨ (a ||| b) % 2 = 1 := by omega
        rcases ha with ha | ha <;> rcases hb with hb | hb <;> rcases ho with ho | ho <;> rw [ha, hb, ho] at h1 ⊢ <;> first | rfl | (exact absurd h1 (by decide))
      have l : (a % 2 ||| b % 2) + (a % 2 &&& b % 2) = a % 2 + b % 2 := by
        have ha : a % 2 = 0 ∨ a % 2 = 1 := by omega
        have hb : b % 2 = 0 ∨ b % 2 = 1 := by omega
        rcases ha with ha | ha <;> rcases hb with hb | hb <;> rw [ha, hb] <;> decide
      have : (a ||| b) = 2 * ((a ||| b) / 2) + (a ||| b) % 2 := by omega
      rw [o1, o2] at this
      omega
theorem or_nat (a b : Nat) : Builtin.bitOr (a : Int) (b : Int) = ((a ||| b : Nat) : Int) := by
  rw [PyProof.Rows.bitOr_and, and_nat]
  have := or_add a b
  omega
/-- the least bit -/
theorem low : ∀ m : Nat, m ≠ 0 → ∃ j, m.testBit j = true ∧ (∀ i, i < j → m.testBit i = false) ∧ (m &&& (m - 1)) = m - 2 ^ j ∧ 2 ^ j ≤ m := by
  intro m
  induction m using Nat.strongRecOn with
  | ind m ih =>
    intro h
    by_cases odd : m % 2 = 1
    · refine ⟨0, by rw [Nat.testBit_zero, odd]; rfl, fun i hi => absurd hi (Nat.not_lt_zero _), ?_, by omega⟩
      have e := and_bit (m / 2) (m / 2) 1 0 (by decide) (by decide)
      rw [show 2 * (m / 2) + 1 = m by omega, show 2 * (m / 2) + 0 = m - 1 by omega, Nat.and_self] at e
      rw [e]
      show 2 * (m / 2) + 0 = m - 1
      omega
    · obtain ⟨j, h1, h2, h3, h4⟩ := ih (m / 2) (by omega) (by omega)
      refine ⟨j + 1, by rw [Nat.testBit_succ]; exact h1, fun i hi => ?_, ?_, by rw [Nat.pow_succ]; omega⟩
      · cases i with
        | zero =>
          rw [Nat.testBit_zero]
          have : m % 2 = 0 := by omega
          rw [this]
          rfl
        | succ i =>
          rw [Nat.testBit_succ]
          exact h2 i (by omega)
      · have e := and_bit (m / 2) (m / 2 - 1) 0 1 (by decide) (by decide)
        rw [show 2 * (m / 2) + 0 = m by omega, show 2 * (m / 2 - 1) + 1 = m - 1 by omega, h3] at e
        rw [e, Nat.pow_succ]
        show 2 * (m / 2 - 2 ^ j) + 0 = _
        omega
theorem low_nat {m j : Nat} (h : (m &&& (m - 1)) = m - 2 ^ j) (hj : 2 ^ j ≤ m) : Builtin.bitAnd (m : Int) (-(m : Int)) = ((2 ^ j : Nat) : Int) := by
  have pos : 0 < m := Nat.lt_of_lt_of_le (Nat.two_pow_pos j) hj
  have e : (-(m : Int)) = Builtin.bitNot ((m - 1 : Nat) : Int) := by
    unfold Builtin.bitNot
    have : ((m - 1 : Nat) : Int) = (m : Int) - 1 := by omega
    rw [this]
    omega
  rw [e, wo_nat]
  unfold wo
  rw [h, Nat.sub_sub_self hj]
/-- without its bit j -/
theorem drop_bit {m j : Nat} (h : m.testBit j = true) (k : Nat) : (m - 2 ^ j).testBit k = (m.testBit k && decide (k ≠ j)) ∧ 2 ^ j ≤ m := by
  have a : m &&& 2 ^ j = 2 ^ j := by
    refine Nat.eq_of_testBit_eq fun i => ?_
    rw [Nat.testBit_and, Nat.testBit_two_pow]
    by_cases e : j = i
    · subst e
      simp [h]
    · simp [e]
  have le : 2 ^ j ≤ m := by
    have := and_le m (2 ^ j)
    rw [a] at this
    exact this
  have w := wo_bit k m (2 ^ j)
  unfold wo at w
  rw [a] at w
  refine ⟨?_, le⟩
  rw [w, Nat.testBit_two_pow]
  by_cases e : j = k
  · subst e
    simp
  · have e' : k ≠ j := fun z => e z.symm
    simp [e, e']
theorem xor_nat {m j : Nat} (h : m.testBit j = true) : Builtin.bitXor (m : Int) ((2 ^ j : Nat) : Int) = ((m - 2 ^ j : Nat) : Int) := by
  have a : m &&& 2 ^ j = 2 ^ j := by
    refine Nat.eq_of_testBit_eq fun i => ?_
    rw [Nat.testBit_and, Nat.testBit_two_pow]
    by_cases e : j = i
    · subst e
      simp [h]
    · simp [e]
  have le := (drop_bit h 0).2
  have o := or_add m (2 ^ j)
  show Builtin.bitOr _ _ - Builtin.bitAnd _ _ = _
  rw [or_nat, and_nat, a]
  rw [a] at o
  omega
/-- the states of a mask -/
def bitsOf (n m : Nat) : List Int := flt n fun s => m.testBit s.toNat
theorem mem_bits {n m : Nat} {s : Int} : s ∈ bitsOf n m ↔ (0 ≤ s ∧ s < (n : Int)) ∧ m.testBit s.toNat = true := mem_flt
theorem flt_succ (n : Nat) (p : Int → Bool) : flt (n + 1) p = flt n p ++ if p (n : Int) = true then [(n : Int)] else [] := by
  unfold flt
  rw [rng_succ, List.filter_append]
  congr 1
  cases c : p (n : Int) <;> simp [c]
theorem flt_nil {n : Nat} {p : Int → Bool} (h : ∀ i : Nat, i < n → p (i : Int) = false) : flt n p = [] := by
  unfold flt
  refine List.filter_eq_nil_iff.mpr fun x hx => ?_
  obtain ⟨h0, h1⟩ := rng_mem.mp hx
  have := h x.toNat (by omega)
  rw [Int.toNat_of_nonneg h0] at this
  rw [this]
  exact Bool.false_ne_true
theorem flt_low {j : Nat} {p : Int → Bool} (hp : p (j : Int) = true) (hl : ∀ i : Nat, i < j → p (i : Int) = false) : ∀ n : Nat, j < n → flt n p = (j : Int) :: flt n fun k => p k && decide (k ≠ (j : Int))
  | n + 1, h => by
    rw [flt_succ, flt_succ]
    by_cases e : j = n
    · subst e
      rw [flt_nil hl, flt_nil fun i hi => by rw [hl i hi]; rfl, hp]
      simp
    · rw [flt_low hp hl n (by omega)]
      have ne : ((n : Nat) : Int) ≠ (j : Int) := by omega
      have : (p (n : Int) && decide ((n : Int) ≠ (j : Int))) = p (n : Int) := by simp [ne]
      rw [this]
      rfl
/-- the least bit first -/
theorem bits_low {n m j : Nat} (h : m.testBit j = true) (hl : ∀ i, i < j → m.testBit i = false) (hn : m < 2 ^ n) : bitsOf n m = (j : Int) :: bitsOf n (m - 2 ^ j) := by
  have jn : j < n := by
    refine Classical.byContradiction fun c => ?_
    have := (drop_bit h 0).2
    have : 2 ^ n ≤ 2 ^ j := Nat.pow_le_pow_right (by decide) (by omega)
    omega
  unfold bitsOf
  rw [flt_low (j := j) (p := fun s => m.testBit s.toNat) (by simpa using h) (fun i hi => by simpa using hl i hi) n jn]
  congr 1
  refine flt_congr fun s h0 h1 => ?_
  rw [(drop_bit h s.toNat).1]
  congr 1
  have : (s ≠ (j : Int)) ↔ s.toNat ≠ j := by omega
  exact decide_eq_decide.mpr this
theorem bits_zero (n : Nat) : bitsOf n 0 = [] := flt_nil fun i _ => Nat.zero_testBit _
end Fw

namespace Fw
open PySem PySem.Spec PyProof.Rows L2
/-- a list's item as the base of an assignment that adds to it -/
theorem pget_list {X : Cx} : PGet X (rIxL X.K) := by
  intro pins s σ H x y v u Q I rx ry h
  obtain ⟨p, xs, i, z, rfl, rfl, hq, he, q⟩ := h
  cases rx
  obtain ⟨t, rfl⟩ := ry
  obtain ⟨its, r, pl, hz⟩ := I.list hq
  obtain ⟨j, h1, h2, h3, h4, h5⟩ := atI_get he
  obtain ⟨w, ew, rw'⟩ := r.get h2
  have hl := r.length
  have hn := line63
  have fin : EP X pins σ Q w s := ⟨z, H, I, rw', q⟩
  by_cases h0 : 0 ≤ i
  · have hj : i.toNat = j := by
      rw [seqIndex_of h0 h5] at h1
      exact Option.some.inj h1
    exact wpAny_getItem_list pl.isList h0 (by omega) (by rw [hj]; simpa using ew) fin
  · have hj : (i + (its.toArray.size : Int)).toNat = j := by
      rw [seqIndex_neg (by omega) h4] at h1
      rw [List.size_toArray, ← hl]
      exact Option.some.inj h1
    exact wpAny_getItem_list_neg pl.isList (by omega) (by rw [List.size_toArray] <;> omega) (by omega) (by rw [hj]; simpa using ew) fin
end Fw

set_option maxRecDepth 100000
set_option maxHeartbeats 2000000
namespace Fw
open PySem PySem.Spec PyProof.Rows L2
theorem ip_or {X : Cx} : PIp X .BitOr (rI0 fun i j => .int (Builtin.bitOr i j)) := fun pins s σ H x y v u Q I r1 r2 h => iop_or pins s σ H x y v u Q I r1 r2 h
theorem ip_xor {X : Cx} : PIp X .BitXor (rI0 fun i j => .int (Builtin.bitXor i j)) := fun pins s σ H x y v u Q I r1 r2 h => iop_xor pins s σ H x y v u Q I r1 r2 h
theorem bits_pow (j : Nat) : Builtin.Int.intBits ((2 ^ j : Nat) : Int) = j + 1 := by
  refine Nat.le_antisymm (PyProof.Rows.intBits_le ?_) ?_
  · rw [Int.natAbs_natCast]
    exact Nat.pow_lt_pow_right (by decide) (Nat.lt_succ_self j)
  · refine Classical.byContradiction fun c => ?_
    have h := PyProof.Rows.natAbs_lt_pow_bits ((2 ^ j : Nat) : Int)
    rw [Int.natAbs_natCast] at h
    have : 2 ^ Builtin.Int.intBits ((2 ^ j : Nat) : Int) ≤ 2 ^ j := Nat.pow_le_pow_right (by decide) (by omega)
    omega
theorem bitsOf_len (n m : Nat) : (bitsOf n m).length ≤ n := by
  unfold bitsOf flt
  exact Nat.le_trans (List.length_filter_le _ _) (by simp [rng])
def orAll : List Nat → Nat
  | [] => 0
  | x :: xs => x ||| orAll xs
theorem orAll_app : ∀ xs ys : List Nat, orAll (xs ++ ys) = (orAll xs ||| orAll ys)
  | [], ys => by simp [orAll]
  | x :: xs, ys => by simp [orAll, orAll_app xs ys, Nat.or_assoc]
theorem orAll_bit {i : Nat} : ∀ {xs : List Nat}, (orAll xs).testBit i = xs.any fun x => x.testBit i
  | [] => by simp [orAll]
  | x :: xs => by simp [orAll, orAll_bit (xs := xs)]
theorem orAll_lt {n : Nat} : ∀ {xs : List Nat}, (∀ x ∈ xs, x < 2 ^ n) → orAll xs < 2 ^ n
  | [], _ => Nat.two_pow_pos n
  | x :: xs, h => Nat.or_lt_two_pow (h x List.mem_cons_self) (orAll_lt fun y hy => h y (List.mem_cons_of_mem _ hy))
section
variable {P : Program} {w : World} {K : PySem.W.Frag} {mg : Str → Option Value} {base : Heap} {C J B : Addr}
def spSt : Sp := fun vs H Q _ => ∃ (n m : Nat), vs = [.int (m : Nat)] ∧ m < 2 ^ n ∧ n ≤ 900 ∧ ∀ (l : Addr) H', Same H H' → H l = none → H' l = some (.lst ((bitsOf n m).map V.int)) → Q (.ref l) H'
theorem ok_states_in {f : Addr} {fd : FuncData} (FF : Fun K "states_in" "states_in" s_states_in f fd) : FnOk P w K mg base CX0 1 f fd a_states_in spSt := by
  refine FF.ok sc_states_in (fun vs H Q E h => ?_) (fun cdv A outer s H vs Q E hr h => ?_)
  · obtain ⟨n, m, rfl, _⟩ := h
    rfl
  · obtain ⟨n, m, rfl, hm, hn, k⟩ := h
    refine ⟨_, (pss_cons (ps_set (i := 1) sc_states_in.nd rfl (.inl rfl) (pe_lst pa_nil))
      (pss_cons (ps_while PassesOwn.never (pt_truth (pv 0) (by intro _; rfl)) (pss_cons (ps_set (i := 2) sc_states_in.nd rfl (.inl rfl) (pe_op op_and (pv 0) (pe_un un_neg (pv 0))))
      (pss_cons (ps_expr (pe_bm PySem.F.plainAttrs_list PySem.F.slot_list_append PySem.F.type_list_append mt_append (pv 1) (pa_cons (pe_op op_sub (pe_bits (pv 2)) pe_int) pa_nil)))
      (pss_one (ps_aug (i := 0) sc_states_in.nd rfl (.inl rfl) (pv 2) ip_xor)))))
      (pss_one (ps_ret (pv 1))))), ?_⟩
    refine ⟨Nat.zero_le _, fun l hl => ?_⟩
    have s1 := Same.new (o := .lst []) hl
    have g1 : (upd H l (.lst [])) l = some (.lst (([] : List Int).map V.int)) := upd_same
    generalize upd H l (.lst []) = H1 at s1 g1
    refine ⟨fun d σ G => ∃ (m' : Nat) (L : List Int) (y2 : Option V), σ = [some (.int (m' : Nat)), some (.ref l), y2] ∧ Same H G ∧ G l = some (.lst (L.map V.int)) ∧ m' < 2 ^ n ∧ L ++ bitsOf n m' = bitsOf n m ∧ d = m', ⟨_, m, [], none, rfl, s1, g1, hm, rfl, rfl⟩, ?_⟩
    rintro d σ G ⟨m', L, y2, rfl, sG, gl, hm', hL, rfl⟩
    refine ⟨.int (d : Nat), rfl, (((d : Nat) : Int) != 0), rfl, ?_⟩
    by_cases z : d = 0
    · subst z
      have e : L = bitsOf n m := by rw [← hL, bits_zero, List.append_nil]
      refine ⟨.ref l, rfl, k l G sG hl ?_⟩
      rw [gl, e]
    · obtain ⟨j, h1, h2, h3, h4⟩ := low d z
      have hb : (((d : Nat) : Int) != 0) = true := by
        simp [bne_iff_ne]; omega
      have pj := Nat.two_pow_pos j
      have hlow := low_nat h3 h4
      have len : L.length < sizeLine := by
        have a : L.length ≤ (bitsOf n m).length := by rw [← hL, List.length_append]; omega
        have b := bitsOf_len n m
        exact Nat.lt_of_le_of_lt (Nat.le_trans a (Nat.le_trans b hn)) (by decide)
      have cons := bits_low h1 h2 hm'
      rw [hb, if_pos rfl]
      refine ⟨fun σ' G' => ∃ y, σ' = [some (.int ((d - 2 ^ j : Nat) : Int)), some (.ref l), y] ∧ G' = upd G l (.lst ((L ++ [(j : Int)]).map V.int)), ?_, ?_⟩
      · rintro σ' G' ⟨y, rfl, rfl⟩
        refine ⟨d - 2 ^ j, by omega, d - 2 ^ j, L ++ [(j : Int)], y, rfl, fun b o e => ?_, upd_same, by omega, ?_, rfl⟩
        · have nb : b ≠ l := fun c => by rw [c, hl] at e; cases e
          rw [upd_ne nb]
          exact sG b o e
        · rw [List.append_assoc, ← hL, cons]; rfl
      · refine ⟨.int (d : Nat), rfl, .int (d : Nat), rfl, _, rfl, _, _, rfl, rfl, ?_⟩
        have hg : (fun i j : Int => V.int (Builtin.bitAnd i j)) ((d : Nat) : Int) (-((d : Nat) : Int)) = V.int ((2 ^ j : Nat) : Int) := by show V.int _ = _; rw [hlow]
        rw [hg]
        refine ⟨.ref l, rfl, ?_, _, rfl, _, rfl, _, _, rfl, rfl, l, _, _, rfl, rfl, gl, by rw [List.length_map]; exact len, ?_⟩
        · exact .inl ⟨rfl, _, SqL.of gl⟩
        refine ⟨_, rfl, _, rfl, _, _, rfl, rfl, some (.int ((2 ^ j : Nat) : Int)), ?_, ?_⟩
        · have hx : (fun i j : Int => V.int (Builtin.bitXor i j)) ((d : Nat) : Int) ((2 ^ j : Nat) : Int) = V.int ((d - 2 ^ j : Nat) : Int) := by show V.int _ = _; rw [xor_nat h1]
          rw [hx]; rfl
        · rw [bits_pow, List.map_append]
          have e : (fun i j : Int => V.int (i - j)) ((j + 1 : Nat) : Int) 1 = V.int (j : Int) := by
            show V.int _ = _
            congr 1
            omega
          rw [e]; rfl
/-- the union of the rows of the states of a mask -/
def unionOf (n : Nat) (rs : List Nat) (m : Nat) : Nat := orAll ((bitsOf n m).map fun i => rs.getD i.toNat 0)
def spLed : Sp := fun vs H Q _ => ∃ (n m : Nat) (a : Addr) (rs : List Nat), vs = [.ref a, .int (m : Nat)] ∧ H a = some (.lst (rs.map fun x => V.int (x : Nat))) ∧ rs.length = n ∧ n ≤ 900 ∧ m < 2 ^ n ∧ (∀ x ∈ rs, x < 2 ^ n) ∧ ∀ H', Same H H' → Q (.int (unionOf n rs m : Nat)) H'
theorem ok_led {f : Addr} {fd : FuncData} (FF : Fun K "led" "led" s_led f fd) (h_states_in : Has P w K mg base "states_in" 1 a_states_in spSt) : FnOk P w K mg base CX0 2 f fd a_led spLed := by
  refine FF.ok sc_led (fun vs H Q E h => ?_) (fun cdv A outer s H vs Q E hr h => ?_)
  · obtain ⟨n, m, a, rs, rfl, _⟩ := h
    rfl
  · obtain ⟨n, m, a, rs, rfl, ha, hl, hn, hm, hx, k⟩ := h
    refine ⟨_, (pss_cons (ps_set (i := 2) sc_led.nd rfl (.inl rfl) pe_int)
      (pss_cons (ps_for PassesOwn.never rfl (pi_list (pe_callH h_states_in (hr.mono (by omega)) (pa_cons (pv 1) pa_nil))) (pg_name (i := 3) sc_led.nd rfl (.inl rfl)) (pss_one (ps_aug (i := 2) sc_led.nd rfl (.inl rfl) (pe_ix ix_list (pv 0) (pv 3) (fun _ _ => rfl)) ip_or)))
      (pss_one (ps_ret (pv 2))))), ?_⟩
    refine ⟨.int (m : Nat), rfl, n, m, rfl, hm, hn, fun l G s1 nl gl => ?_⟩
    refine ⟨l, rfl, ⟨_, SqL.of gl⟩, fun i c σ F => ∃ y, c = (bitsOf n m).length - i ∧ i ≤ (bitsOf n m).length ∧ σ = [some (.ref a), some (.int (m : Nat)), some (.int (orAll (((bitsOf n m).take i).map fun q => rs.getD q.toNat 0) : Nat)), y] ∧ F = G, ⟨_, none, rfl, Nat.zero_le _, rfl, rfl⟩, ?_⟩
    rintro i c σ F ⟨y, rfl, hi, rfl, rfl⟩
    by_cases e : i < (bitsOf n m).length
    · refine .inr ⟨⟨_, .int (bitsOf n m)[i], SqL.of gl, by rw [List.getElem?_map, List.getElem?_eq_getElem e]; rfl⟩, fun σ' F' => ∃ y, σ' = [some (.ref a), some (.int (m : Nat)), some (.int (orAll (((bitsOf n m).take (i + 1)).map fun q => rs.getD q.toNat 0) : Nat)), y] ∧ F' = F, ?_, ?_⟩
      · rintro σ' F' ⟨y, rfl, rfl⟩
        exact ⟨_, by omega, y, rfl, by omega, rfl, rfl⟩
      · rintro x F' ⟨rfl, hx2⟩
        have hx3 := hx2 _ (SqL.of gl)
        rw [List.getElem?_map, List.getElem?_eq_getElem e] at hx3
        cases hx3
        have mem := mem_bits.mp (List.getElem_mem e)
        generalize hs : (bitsOf n m)[i] = q at mem ⊢
        obtain ⟨t, rfl⟩ := Int.eq_ofNat_of_zero_le mem.1.1
        have tl : t < rs.length := by omega
        refine ⟨_, rfl, .ref a, rfl, .int (t : Nat), rfl, a, _, _, _, rfl, rfl, SqL.of (s1 _ _ ha), atI_nat (j := t) (by rw [List.getElem?_map, List.getElem?_eq_getElem tl]; rfl), _, _, rfl, rfl, some (.int (t : Nat)), ?_, rfl⟩
        have ho : (fun i j : Int => V.int (Builtin.bitOr i j)) ((orAll (((bitsOf n m).take i).map fun q => rs.getD q.toNat 0) : Nat) : Int) ((rs[t] : Nat) : Int) = V.int ((orAll (((bitsOf n m).take (i + 1)).map fun q => rs.getD q.toNat 0) : Nat) : Int) := by
          show V.int _ = _
          rw [or_nat, List.take_add_one, List.getElem?_eq_getElem e, hs, List.map_append, orAll_app]
          simp [orAll, List.getD, List.getElem?_eq_getElem tl]
        rw [ho]; rfl
    · have e2 : i = (bitsOf n m).length := by omega
      subst e2
      refine .inl ⟨⟨_, SqL.of gl, by rw [List.length_map]; exact Nat.le_refl _⟩, ?_⟩
      refine ⟨_, rfl, ?_⟩
      rw [List.take_length]
      exact k _ s1
end
end Fw

set_option maxRecDepth 100000
set_option maxHeartbeats 4000000
/-! list(d.values()), the dict's keys being tuples -/
namespace Fw
open PySem PySem.Spec PyProof.Rows L2
section
variable {prog : Program} {w : World} {d r : Addr} {es : Array DictEntry} {ep : Nat}
theorem src_vals : PySem.W.KdlSrc prog w "dict_values" r d es.size (fun i v => ∃ hi : i < es.size, v = es[i].val) (fun h => h.IsValuesView r d ∧ h.DictRaw d es ep) where
  type := fun _ z => z.1.typeIs
  there := fun _ z => ⟨(fun ⟨_, e, _⟩ => Heap.lt_size e) z.1, (fun ⟨_, e, _⟩ => Heap.lt_size e) z.2⟩
  keep := fun _ _ z kp => ⟨(fun ⟨o, e, y⟩ => ⟨o, kp r (.inl rfl) o e, y⟩) z.1, z.2.at fun o e => kp d (.inr rfl) o e⟩
  notList := by decide
  notTuple := by decide
  hint := fun _ _ _ _ z q => PySem.W.kdl_hint_values z.1.typeIs q
  iter := fun _ s hh z => ⟨_, _, (fun _ _ q => wpAny_pyIter_values_raw z.1 z.2 q), Walks.rawValues hh _ d (Nat.ne_of_lt ((fun ⟨_, e, _⟩ => Heap.lt_size e) z.2)) es ep, ⟨⟨_, Heap.get?_push_size _ rfl, rfl, rfl⟩, z.2.at fun o e => Heap.get?_push_of_some _ e⟩⟩
end
def tListVals (te : TE) : TE := fun σ H Q => te σ H fun x H1 => ∃ (d : Addr) (kvs : List (List Key × V)), x = .ref d ∧ H1 d = some (.dT kvs) ∧ ∀ p, H1 p = none → Q (.ref p) (upd H1 p (.lst (kvs.map fun e => e.2)))
theorem vals_second {α : Type} {F : α × V → α × Addr × Value → Prop} {kvs : List (α × V)} {xs : List (α × Addr × Value)} (h : Paired F kvs xs) (hF : ∀ p q, F p q → RelV p.2 q.2.2) : Vals (kvs.map fun e => e.2) (xs.map fun e => e.2.2) := by
  induction h with
  | nil => exact .nil
  | cons a _ ih => exact .cons (hF _ _ a) ih
section
variable {X : Cx} {e : Expr} {te : TE} {p apos cpos pos : Pos}
theorem pe_listValsT (hc : X.calm = true) (he : PE X e te) (hg : Gl X "list") (hm : X.mg "list" = none) (hv : bootBuiltins "list" = some (.type "list")) (hbase : attributeBase e "values" X.env (eval e X.env) = eval e X.env := by rfl) (hline : (apos.endLine == cpos.line) = true := by rfl)
    (hs : starEach [.Call (.Attribute e "values" apos) [] [] cpos] X.env = (false, eval (.Call (.Attribute e "values" apos) [] [] cpos) X.env) :: starEach [] X.env := by rfl) :
    PE X (.Call (.Name "list" p) [.Call (.Attribute e "values" apos) [] [] cpos] [] pos) (tListVals te) := by
  refine ⟨fun pins s σ H Q I hq => ?_⟩
  refine wpAny_Call_Name_kw (ld_blt I hg hm hv ?_)
  refine PyProof.Rows.callWith_type1 ?_ hs rfl
  rw [hs]
  show wpAny _ _ (spliced ((false, eval (.Call (.Attribute e "values" apos) [] [] cpos) X.env) :: backTo pos (starEach [] X.env))) _ _ s
  refine Calls.spliced_cons ?_
  refine wpAny_Call_method (T := "dict") (id := "dict.values") hbase rfl hline F.plainAttrs_dict F.slot_dict_values F.type_dict_values (thn (he.run pins s σ H _ I hq) fun u s1 ⟨x, H1, I1, rx, d, kvs, ex, hd, q⟩ => ?_)
  subst ex
  obtain rfl : u = Value.ref d := rx
  obtain ⟨z, hs0, ks, pr, o, es, ep, ho, hx, hdt, he', hn⟩ := I1.hok d _ hd
  have raw : s1.heap.DictRaw d es ep := ⟨o, ho, hx, hdt⟩
  have I2 : Inv X pins σ H1 { s1 with heap := s1.heap.push { cls := .type "dict_values", data := .fields #[.ref d] } } := I1.kept (t' := s1.toks) fun b ob q => Heap.get?_push_of_some _ q
  refine ⟨raw.typeIs, fun b y => ?_, ?_⟩
  · cases y
    exact ⟨o, ho, hx.2.1⟩
  show wpAny _ _ (callWith cpos (.builtin "dict.values") [.ref d] [] []) _ X.xe s1
  refine method_meetsIn F.slot_dict_values F.entry_dict_values rfl (PySem.evalArgs_none ⟨rfl, raw.typeIs, F.args_dict_values_1 _, _, meets_dict_values_raw d hs0, ⟨⟨es, ep, raw⟩, ?_⟩⟩)
  refine Calls.spliced_nil ?_
  have l1 : es.size = ks.length := size_of_entries he'
  have l2 : kvs.length = ks.length := Paired.length pr
  refine PySem.W.kdl_call (src_vals (es := es) (ep := ep)) (I1.ok.hd hc) ⟨⟨_, Heap.get?_push_size _ rfl, rfl, rfl⟩, raw.at fun o y => Heap.get?_push_of_some _ y⟩ (by omega) fun h' tk acc c kp hS hacc => ?_
  have ea : acc.toList = ks.map fun y => y.2.2 := by
    have hl : acc.toList.length = ks.length := by rw [Array.length_toList, hacc.1]; exact l1
    refine List.ext_getElem? fun j => ?_
    rw [List.getElem?_map]
    cases hj : acc.toList[j]? with
    | none =>
      have := List.getElem?_eq_none_iff.mp hj
      rw [List.getElem?_eq_none (by omega)]
      rfl
    | some v =>
      obtain ⟨hi, hv'⟩ := hacc.2 j v (by rw [← Array.getElem?_toList]; exact hj)
      have qe := entry_at he' j
      rw [Array.getElem?_eq_getElem hi] at qe
      cases hb : ks[j]? with
      | none =>
        rw [hb] at qe
        cases (show some es[j] = none from qe)
      | some b =>
        rw [hb] at qe
        have e2 : es[j] = entryOfKey (tupleKind (mixKind X.prog X.w)) b := Option.some.inj qe
        rw [hv', e2]
        rfl
  have rv : Vals (kvs.map fun y => y.2) acc.toList := by
    rw [ea]
    exact vals_second pr fun _ _ y => y.2.2
  refine ⟨.ref _, _, I2.laid (t' := tk) (o := .lst (kvs.map fun y => y.2)) kp (Nat.le_refl _) ⟨?_, acc.toList, c, rv, by rw [Array.toArray_toList]; exact hS⟩, rfl, q _ (I2.hok.fresh (Nat.le_refl _))⟩
  rw [List.length_map]
  exact z
end
end Fw

set_option maxRecDepth 100000
set_option maxHeartbeats 4000000
/-! enumerate(t), t a tuple: my own rule for it, beside the library's for lists -/
namespace Fw
open PySem PySem.Spec PyProof.Rows L2 AutoSeq1
set_option maxHeartbeats 1000000 in
theorem new_enumT (t : Addr) (its : Array Value) (m : Nat) (dc : Option Addr) (sl : Array (Option Value)) :
    Meets (Builtin.«enumerate.__new__» ⟨[.type "enumerate", .ref t], []⟩) (fun _ R s => s.heap.get? t = some { cls := .type "tuple", dict := dc, data := .seq its m, slots := sl } ∧
      R (.ok (.ret (.ref (s.heap.push { cls := .type "tuple_iterator", data := .fields #[.ref t, .int 0 0] }).objs.size)))
        { s with heap := (s.heap.push { cls := .type "tuple_iterator", data := .fields #[.ref t, .int 0 0] }).push { cls := .type "enumerate", data := .fields #[.none, .bool false, .ref s.heap.objs.size, rawInt 0, .none, .none] } }) :=
  .of_wp fun prog w A R s z => by
    obtain ⟨hp, g, d, tk, os⟩ := s
    obtain ⟨ht, z⟩ := z
    have sub := sub_enumerate
    have tup : Heap.IsTuple (Shared.heap ⟨hp, g, d, tk, os⟩) t its := ⟨_, ht, rfl, m, rfl⟩
    wp_walk using wpAny_loadPart' ht
    refine wpAny_stack_any fun st => wpAny_pure ?_
    split
    · rename_i c _ _ _ _ _
      cases (c == Value.type "enumerate")
      · wp_walk using wpAny_loadPart' ht, wpAny_pyIter_tuple tup
        exact ⟨_, rfl, z⟩
      · wp_walk using wpAny_loadPart' ht, wpAny_pyIter_tuple tup
        exact ⟨_, rfl, z⟩
    · wp_walk using wpAny_loadPart' ht, wpAny_pyIter_tuple tup
      exact ⟨_, rfl, z⟩
theorem call_enumT {prog : Program} {w : World} {A : Around} {E : Value → Shared → Prop} {s : Shared} {t : Addr} {its : Array Value} {Q : Value → Shared → Prop} (hT : s.heap.IsTuple t its)
    (h : ∀ h', IsEnum h' (s.heap.objs.size + 1) s.heap.objs.size 0 .none → h'.IsTupleIter s.heap.objs.size t 0 → h'.objs.size = s.heap.objs.size + 2 → (∀ b o, s.heap.get? b = some o → h'.get? b = some o) → Q (.ref (s.heap.objs.size + 1)) { s with heap := h' }) :
    wpAny (model prog w) A (call (.type "enumerate") [.ref t]) Q E s := by
  obtain ⟨⟨c, dc, dt, sl⟩, ht, hc, m, hd⟩ := hT
  obtain rfl : c = .type "tuple" := hc
  obtain rfl : dt = .seq its m := hd
  refine callType_new F.called_enumerate (by decide) (F.typeCall_enumerate_1 _) (F.newCall_enumerate_1 _) (fun obj => F.args_object_init_2 obj _) F.entry_enumerate_new (new_enumT t its m dc sl) ⟨ht, ?_⟩
  have sz : (s.heap.push { cls := .type "tuple_iterator", data := .fields #[.ref t, .int 0 0] }).objs.size = s.heap.objs.size + 1 := Heap.size_push ..
  show _ ∧ _
  rw [sz]
  have en : IsEnum ((s.heap.push { cls := .type "tuple_iterator", data := .fields #[.ref t, .int 0 0] }).push { cls := .type "enumerate", data := .fields #[.none, .bool false, .ref s.heap.objs.size, rawInt 0, .none, .none] }) (s.heap.objs.size + 1) s.heap.objs.size 0 .none := by
    have e := Heap.get?_push_size (s.heap.push { cls := .type "tuple_iterator", data := .fields #[.ref t, .int 0 0] }) (o := { cls := .type "enumerate", data := .fields #[.none, .bool false, .ref s.heap.objs.size, rawInt 0, .none, .none] }) rfl
    rwa [sz] at e
  exact ⟨⟨_, en, rfl⟩, h _ en ⟨_, Heap.get?_push_of_some _ (Heap.get?_push_size _ rfl), rfl, rfl⟩ (by rw [Heap.size_push, sz]) fun b o x => Heap.get?_push_of_some _ (Heap.get?_push_of_some _ x)⟩
/-- the tuple at a as it stands at each turn, each item in a new pair -/
def IteT (K : PySem.W.Frag) (a : Addr) : It :=
  ⟨fun i H => ∃ (xs : List V) (x : V), SqT K H a xs ∧ xs[i]? = some x, fun i H v H' => ∃ T x, v = .ref T ∧ H T = none ∧ H' = upd H T (.tup [.int (i : Nat), x]) ∧ ∀ xs, SqT K H a xs → xs[i]? = some x, fun i H => ∃ xs : List V, SqT K H a xs ∧ xs.length = i⟩
theorem turn_enumT {P : Program} {w : World} {K : PySem.W.Frag} {elts : List Expr} {kk : Nat} {tpos : Pos} (a e it : Addr) :
    Turn P w K (.Tuple elts kk tpos) (IteT K a) [e, it] e (fun i h => (∃ old, IsEnum h e it ((i : Nat) : Int) old) ∧ h.IsTupleIter it a i ∧ e ≠ it) where
  mem := by simp
  obj := fun i h st b hb => by
    obtain ⟨⟨old, he⟩, ⟨o, ho, hc, hd⟩, _⟩ := st
    rcases (show b = e ∨ b = it by simpa using hb) with z | z
    · rw [z]; exact ⟨_, he, fun v q => nomatch q⟩
    · rw [z]; exact ⟨o, ho, fun v q => by rw [hd] at q; cases q⟩
  keep := fun i h h' st k => let ⟨⟨old, he⟩, hi, hne⟩ := st; ⟨⟨old, k e (by simp) _ he⟩, hi.at fun o q => k it (by simp) o q, hne⟩
  item := by
    intro X hP hw hK hc i pins s σ H E I hf st hg
    subst hP hw hK
    obtain ⟨⟨old, he⟩, hit, hne⟩ := st
    obtain ⟨xs, x, hq, hx⟩ := hg
    obtain ⟨its, rv, p, hz⟩ := I.tuple hq
    obtain ⟨u, hu, ru⟩ := rv.get hx
    have hel : e < s.heap.objs.size := Heap.lt_size he
    have hil : it < s.heap.objs.size := by obtain ⟨_, q, _⟩ := hit; exact Heap.lt_size q
    have D := Draws.tuple (prog := X.prog) (w := X.w) (A := X.A.in1) (I.ok.hd hc) it a (fun z => by
      obtain ⟨o, e1, c1, _⟩ := p
      obtain ⟨o2, e2, c2, _⟩ := hit
      rw [z, e2] at e1
      cases e1
      rw [c2] at c1
      exact absurd (Value.type.inj c1) (by decide)) its.toArray
    have hea : e ∉ [it, a] := fun z => by
      rcases (show e = it ∨ e = a by simpa using z) with z | z
      · exact hne z
      · obtain ⟨o, e1, c1, _⟩ := p
        rw [← z, he] at e1
        cases e1
        exact absurd (Value.type.inj c1) (by decide)
    have hlen : i < its.toArray.size := by
      have := (List.getElem?_eq_some_iff.mp hu).1
      simpa using this
    refine wpAny_pyNext_enum_itemC D he ⟨hit, p⟩ hlen hne hea fun x' h' tk hP ho st' hT hsz hk => ?_
    obtain ⟨hit', _⟩ := st'
    have hxu : x' = u := by
      have : its.toArray[i]? = some x' := hP
      rw [List.getElem?_toArray, hu] at this
      exact (Option.some.inj this).symm
    subst hxu
    refine ⟨_, rfl, wpAny_letOwnedTupleGo_enum (s := { s with heap := h', toks := tk + 1 }) ho fun h'' he' sb => ?_⟩
    have hT2 : h''.get? s.heap.objs.size = some { cls := .type "tuple", data := .seq #[.int i tk, x'] } := (sb.2 _ (Nat.ne_of_gt hel)).trans hT
    have fresh := I.hok.fresh (Nat.le_refl s.heap.objs.size)
    have laid : ObjOk X.prog X.w (upd H s.heap.objs.size (.tup [.int (i : Nat), x])) h'' s.heap.objs.size (.tup [.int (i : Nat), x]) :=
      ⟨by show 2 ≤ sizeLine; decide, [.int i tk, x'], .cons ⟨_, rfl⟩ (.cons ru .nil), ⟨_, hT2, rfl, _, rfl⟩⟩
    have I1 : Inv X pins σ (upd H s.heap.objs.size (.tup [.int (i : Nat), x])) { s with heap := h'', toks := tk + 1 } :=
      I.turnedNew (ch := [e, it]) (fun b ob hb q => (sb.2 b (fun z => hb (by simp [z]))).trans (hk b ob (fun z => hb (by simp [z])) (fun z => hb (by simp [z])) q)) hf (Nat.le_refl _) laid
    refine ⟨.ref s.heap.objs.size, _, I1, rfl, ⟨_, x, rfl, fresh, rfl, fun ys hy => ?_⟩, ⟨⟨x', ?_⟩, hit'.at fun o q => (sb.2 it (Ne.symm hne)).trans q, hne⟩, fun b hb => ?_⟩
    · rw [I.tuple_inj hy hq]
      exact hx
    · rw [show ((i + 1 : Nat) : Int) = (i : Int) + 1 by omega]
      exact he'
    · have hb' : b < s.heap.objs.size := by
        rcases (show b = e ∨ b = it by simpa using hb) with z | z
        · rw [z]; exact hel
        · rw [z]; exact hil
      rw [upd_ne (Nat.ne_of_lt hb')]
      exact (hf b hb).1
  done := by
    intro X hP hw hK hc i pins s σ H E I hf st hg
    subst hP hw hK
    obtain ⟨⟨old, he⟩, hit, hne⟩ := st
    obtain ⟨xs, hq, hx⟩ := hg
    obtain ⟨its, rv, p, hz⟩ := I.tuple hq
    obtain ⟨f0, f1, f2, f3, f4, f5⟩ := hf it (by simp)
    have hl := rv.length
    have D := Draws.tuple (prog := X.prog) (w := X.w) (A := X.A.in1) (I.ok.hd hc) it a (fun z => by
      obtain ⟨o, e1, c1, _⟩ := p
      obtain ⟨o2, e2, c2, _⟩ := hit
      rw [z, e2] at e1
      cases e1
      rw [c2] at c1
      exact absurd (Value.type.inj c1) (by decide)) its.toArray
    have ei : its.toArray.size = i := by rw [List.size_toArray, ← hl]; exact hx
    refine wpAny_pyNext_enum_endD D he (by rw [ei]; exact ⟨hit, p⟩) fun h' eb => ⟨rfl, I.turned (t' := s.toks) (fun b o hb q => eb b o hb q) f0 f1 f3 f4 f5⟩
  self := fun A i s Q E st h => let ⟨⟨_, he⟩, _⟩ := st; wpAny_pyIter_enum he h
def iEnumT (K : PySem.W.Frag) (ta : TA) : TI := fun σ H R => ta σ H fun vs H1 => ∃ a xs, vs = [.ref a] ∧ SqT K H1 a xs ∧ R (IteT K a) H1
theorem pi_enumT {X : Cx} {e : Expr} {ta : TA} {p pos tpos : Pos} {elts : List Expr} {kk : Nat} (hg : Gl X "enumerate") (hm : X.mg "enumerate" = none) (ha : PA X [e] ta) (hs : starEach [e] X.env = [(false, eval e X.env)] := by rfl) :
    PI X (.Tuple elts kk tpos) (.Call (.Name "enumerate" p) [e] [] pos) (iEnumT X.K ta) := by
  refine ⟨fun pins s σ H R I h => ?_⟩
  refine Call_ (ld_blt I hg hm boot_enumerate (PyProof.Rows.callWith_type1 (thn (ha.run pos pins s σ H _ I h) fun us s1 ⟨vs, H1, I1, r1, a, xs, ex, hq, q⟩ => ?_) hs rfl))
  subst ex
  obtain ⟨u, rfl, ru⟩ := vals1 r1
  obtain rfl : u = Value.ref a := ru
  obtain ⟨its, rv, p', hz⟩ := I1.tuple hq
  refine call_enumT (show s1.heap.IsTuple a its.toArray from p') fun h' en hit hsz kp => wpAny_pyIter_enum en ?_
  have I2 : Inv X pins σ H1 { s1 with heap := h' } := I1.kept (t' := s1.toks) kp
  refine ⟨s1.heap.objs.size + 1, [s1.heap.objs.size + 1, s1.heap.objs.size], _, _, H1, rfl, I2, turn_enumT a (s1.heap.objs.size + 1) s1.heap.objs.size, ⟨⟨.none, en⟩, hit, Nat.succ_ne_self _⟩, fun b hb => ?_, q⟩
  have le : s1.heap.objs.size ≤ b := by
    rcases (show b = s1.heap.objs.size + 1 ∨ b = s1.heap.objs.size by simpa using hb) with z | z
    · rw [z]; exact Nat.le_succ _
    · rw [z]; exact Nat.le_refl _
  exact I1.fpOk le (I1.hok.fresh le)
theorem walk_enumT {K : PySem.W.Frag} {a : Addr} {xs : List V} : Walk (IteT K a) xs.length (fun H => SqT K H a xs) (YPair (fun i => some (V.int ((i : Nat) : Int))) fun i => xs[i]?) where
  goes := fun i H hi h => ⟨xs, xs[i], h, List.getElem?_eq_getElem hi⟩
  stops := fun H h => ⟨xs, h, rfl⟩
  yields := fun i H x H' hi h ⟨T, y, e1, e2, e3, e4⟩ => ⟨T, _, y, e1, e2, e3, rfl, e4 xs h⟩
end Fw

set_option maxRecDepth 100000
set_option maxHeartbeats 4000000
namespace Fw
open PySem PySem.Spec PyProof.Rows L2 GxR
theorem or_bit (m s : Nat) : Builtin.bitOr (m : Int) ((2 : Int) ^ s) = ((m ||| 2 ^ s : Nat) : Int) := by
  have hp : ((2 : Int) ^ s) = ((2 ^ s : Nat) : Int) := by rw [Int.natCast_pow]; rfl
  rw [hp, or_nat]
def mIn (m : Nat) (s : Int) : Bool := m.testBit s.toNat
def maskOf (X : List Int) : Nat := orAll (X.map fun x => 2 ^ x.toNat)
theorem maskOf_app (X Y : List Int) : maskOf (X ++ Y) = (maskOf X ||| maskOf Y) := by unfold maskOf; rw [List.map_append, orAll_app]
theorem maskOf_one (x : Int) : maskOf [x] = 2 ^ x.toNat := by simp [maskOf, orAll]
theorem maskOf_in {X : List Int} (h0 : ∀ x ∈ X, 0 ≤ x) {s : Int} (hs : 0 ≤ s) : mIn (maskOf X) s = sIn X s := by
  unfold mIn maskOf
  rw [orAll_bit]
  cases e : sIn X s with
  | true =>
    refine List.any_eq_true.mpr ⟨2 ^ s.toNat, List.mem_map.mpr ⟨s, sIn_iff.mp e, rfl⟩, ?_⟩
    rw [Nat.testBit_two_pow]
    exact decide_eq_true rfl
  | false =>
    refine List.any_eq_false.mpr fun y hy h => ?_
    obtain ⟨x, hx, rfl⟩ := List.mem_map.mp hy
    rw [Nat.testBit_two_pow, decide_eq_true_eq] at h
    have := h0 x hx
    have : x = s := by omega
    subst this
    rw [sIn_iff.mpr hx] at e
    cases e
theorem maskOf_lt {X : List Int} {n : Nat} (h : ∀ x ∈ X, 0 ≤ x ∧ x < (n : Int)) : maskOf X < 2 ^ n := orAll_lt fun y hy => by
  obtain ⟨x, hx, rfl⟩ := List.mem_map.mp hy
  have := h x hx
  exact Nat.pow_lt_pow_right (by decide) (by omega)
theorem ixN_nat {n j : Nat} (h : j < n) : ixN n ((j : Nat) : Int) = some j := by
  unfold ixN
  rw [if_pos (Int.natCast_nonneg j), if_pos (Int.ofNat_lt.mpr h), Int.toNat_natCast]
/-- masks at an address -/
def MsAt (H : Hp) (a : Addr) (ms : List Nat) : Prop := H a = some (.lst (ms.map fun m => V.int (m : Nat)))
def befS (ss : List T3) (s l : Int) : List Int := (ss.filter fun p => decide (p.2.2 = s) && decide (p.2.1 = l)).map fun p => p.1
theorem befS_snoc (ps : List T3) (p : T3) (s l : Int) : befS (ps ++ [p]) s l = befS ps s l ++ (if (decide (p.2.2 = s) && decide (p.2.1 = l)) = true then [p.1] else []) := by
  unfold befS
  rw [List.filter_append, List.map_append]
  congr 1
  cases c : (decide (p.2.2 = s) && decide (p.2.1 = l)) <;> simp [c]
/-- the masks behind and before each state -/
def rowsM (f : Int → List Int) (n : Nat) : List Nat := (List.range n).map fun i : Nat => maskOf (f (i : Int))
theorem rowsM_len (f : Int → List Int) (n : Nat) : (rowsM f n).length = n := by simp [rowsM]
theorem rowsM_get {f : Int → List Int} {n i : Nat} (h : i < n) : (rowsM f n)[i]? = some (maskOf (f (i : Int))) := by
  unfold rowsM
  rw [List.getElem?_map, List.getElem?_range h]
  rfl
theorem rowsM_set {f g : Int → List Int} {n k : Nat} {m : Nat} (hk : maskOf (g (k : Int)) = m) (ho : ∀ i : Nat, i ≠ k → g (i : Int) = f (i : Int)) : (rowsM f n).set k m = rowsM g n := by
  refine List.ext_getElem? fun i => ?_
  rw [List.getElem?_set]
  by_cases c : k = i
  · subst c
    rw [if_pos rfl, rowsM_len]
    by_cases l : k < n
    · rw [if_pos l, rowsM_get l, hk]
    · rw [if_neg l, List.getElem?_eq_none (by rw [rowsM_len]; omega)]
  · rw [if_neg c]
    by_cases l : i < n
    · rw [rowsM_get l, rowsM_get l, ho i (fun z => c z.symm)]
    · rw [List.getElem?_eq_none (by rw [rowsM_len]; omega), List.getElem?_eq_none (by rw [rowsM_len]; omega)]
section
variable {P : Program} {w : World} {K : PySem.W.Frag} {mg : Str → Option Value} {base : Heap} {C J B WC : Addr}
def spMask : Sp := fun vs H Q _ => ∃ (a : Addr) (X : List Int), vs = [.ref a] ∧ IL H a X ∧ (∀ x ∈ X, 0 ≤ x ∧ x ≤ 900) ∧ Q (.int (maskOf X : Nat)) H
theorem ok_mask_of {f : Addr} {fd : FuncData} (FF : Fun K "mask_of" "mask_of" s_mask_of f fd) : FnOk P w K mg base CX0 1 f fd a_mask_of spMask := by
  refine FF.ok sc_mask_of (fun vs H Q E h => ?_) (fun cdv A outer s H vs Q E hr h => ?_)
  · obtain ⟨a, X, rfl, _⟩ := h
    rfl
  · obtain ⟨a, X, rfl, gl, hX, k⟩ := h
    refine ⟨_, (pss_cons (ps_set (i := 1) sc_mask_of.nd rfl (.inl rfl) pe_int)
      (pss_cons (ps_for PassesOwn.never rfl (pi_list (pv 0)) (pg_name (i := 2) sc_mask_of.nd rfl (.inl rfl)) (pss_one (ps_aug (i := 1) sc_mask_of.nd rfl (.inl rfl) (pe_op op_oneShl pe_int (pv 2)) ip_or)))
      (pss_one (ps_ret (pv 1))))), ?_⟩
    refine ⟨.ref a, rfl, a, rfl, ⟨_, SqL.of gl⟩, for_list (xs := X.map V.int) (fun i σ G => ∃ y, G = H ∧ σ = [some (.ref a), some (.int (maskOf (X.take i) : Nat)), y]) ⟨none, rfl, rfl⟩ (fun i σ G _ ⟨_, e, _⟩ => by rw [e]; exact SqL.of gl) ?_ ?_⟩
    · rintro i x σ G hx ⟨y, rfl, rfl⟩
      obtain ⟨z, hz, rfl⟩ := ints_nth hx
      obtain ⟨z0, z9⟩ := hX z (List.mem_of_getElem? hz)
      obtain ⟨n, rfl⟩ := Int.eq_ofNat_of_zero_le z0
      refine ⟨_, rfl, .int (n : Nat), rfl, n, rfl, rfl, by omega, _, _, rfl, rfl, some (.int (n : Nat)), rfl, ?_⟩
      have ho : (fun i j : Int => V.int (Builtin.bitOr i j)) ((maskOf (X.take i) : Nat) : Int) ((2 : Int) ^ n) = V.int ((maskOf (X.take (i + 1)) : Nat) : Int) := by
        show V.int _ = _
        rw [or_bit, List.take_add_one, hz, Option.toList_some, maskOf_app, maskOf_one]
        rfl
      rw [ho]
      rfl
    · rintro σ G ⟨y, rfl, rfl⟩
      refine ⟨_, rfl, ?_⟩
      rw [List.length_map, List.take_length]
      exact k
def spSM (K : PySem.W.Frag) : Sp := fun vs H Q _ => ∃ (n : Nat) (ta : Addr) (l : Int) (as : List Addr) (ss : List T3), vs = [.int (n : Nat), .ref ta, .int l] ∧ SqT K H ta (as.map V.ref) ∧ PAt H as ss ∧ (∀ p ∈ ss, 0 ≤ p.1 ∧ p.1 < (n : Int) ∧ 0 ≤ p.2.2 ∧ p.2.2 < (n : Int)) ∧ n ≤ 900 ∧
  ∀ (r ba fa : Addr) H', Same H H' → H r = none → H ba = none → H fa = none → H' r = some (.tup [.ref ba, .ref fa]) → MsAt H' ba (rowsM (fun s => begS ss s l) n) → MsAt H' fa (rowsM (fun s => befS ss s l) n) → Q (.ref r) H'
theorem ok_step_masks {f : Addr} {fd : FuncData} (FF : Fun K "step_masks" "step_masks" s_step_masks f fd) : FnOk P w K mg base CX0 1 f fd a_step_masks (spSM K) := by
  refine FF.ok sc_step_masks (fun vs H Q E h => ?_) (fun cdv A outer s H vs Q E hr h => ?_)
  · obtain ⟨n, ta, l, as, ss, rfl, _⟩ := h
    rfl
  · obtain ⟨n, ta, l, as, ss, rfl, hta, pat, hin, hn, k⟩ := h
    refine ⟨_, (pss_cons (ps_set (i := 3) sc_step_masks.nd rfl (.inl rfl) (pe_op op_rep (pe_lst (pa_cons pe_int pa_nil)) (pv 0)))
      (pss_cons (ps_set (i := 4) sc_step_masks.nd rfl (.inl rfl) (pe_op op_rep (pe_lst (pa_cons pe_int pa_nil)) (pv 0)))
      (pss_cons (ps_for PassesOwn.never rfl (pi_tup (pv 1)) (pg_tup rfl (pgs_cons (pg_name (i := 5) sc_step_masks.nd rfl (.inl rfl)) (pgs_cons (pg_name (i := 6) sc_step_masks.nd rfl (.inl rfl)) (pgs_cons (pg_name (i := 7) sc_step_masks.nd rfl (.inl rfl)) pgs_nil)))) (pss_one (ps_if (pt_cmpR op_eq (pv 6) (pv 2) (nomark _)) (pss_cons (ps_augS (pv 3) (pv 5) pget_list (pe_op op_oneShl pe_int (pv 7)) ip_or set_list)
      (pss_one (ps_augS (pv 4) (pv 7) pget_list (pe_op op_oneShl pe_int (pv 5)) ip_or set_list))) pss_nil)))
      (pss_one (ps_ret (pe_tup (pa_cons (pv 3) (pa_cons (pv 4) pa_nil)))))))), ?_⟩
    have zero : ∀ f : Int → List Int, (∀ x, f x = []) → (List.replicate ((n : Nat) : Int).toNat [V.int 0]).flatten = (rowsM f n).map fun m => V.int (m : Nat) := fun f hf => by
      rw [Int.toNat_natCast]
      have e : rowsM f n = List.replicate n 0 := by
        unfold rowsM
        refine List.ext_getElem? fun i => ?_
        rw [List.getElem?_map, List.getElem?_replicate]
        by_cases c : i < n
        · rw [if_pos c, List.getElem?_range c]
          show some (maskOf (f _)) = _
          rw [hf]
          rfl
        · rw [if_neg c, List.getElem?_eq_none (by rw [List.length_range]; omega)]
          rfl
      rw [e, List.map_replicate]
      clear hin hn k e
      induction n with
      | zero => rfl
      | succ n ih => rw [List.replicate_succ, List.flatten_cons, ih, List.replicate_succ]; rfl
    refine ⟨by show 1 ≤ sizeLine; decide, fun z0 hz0 => ⟨.int (n : Nat), rfl, ?_⟩⟩
    have s1 := Same.new (o := .lst [.int 0]) hz0
    refine ⟨z0, n, _, rfl, rfl, upd_same, by omega, by omega, Nat.le_trans (Nat.le_of_eq (show 1 * ((n : Nat) : Int).toNat = n by omega)) (Nat.le_trans hn (by decide)), fun ba hba => ?_⟩
    rw [zero (fun s => begS [] s l) fun _ => rfl]
    have s2 := s1.trans (Same.new (o := .lst ((rowsM (fun s => begS [] s l) n).map fun m => V.int (m : Nat))) hba)
    have gb : MsAt (upd (upd H z0 (.lst [.int 0])) ba (.lst ((rowsM (fun s => begS [] s l) n).map fun m => V.int (m : Nat)))) ba (rowsM (fun s => begS [] s l) n) := upd_same
    generalize upd (upd H z0 (.lst [.int 0])) ba (.lst ((rowsM (fun s => begS [] s l) n).map fun m => V.int (m : Nat))) = H2 at s2 gb
    refine ⟨by show 1 ≤ sizeLine; decide, fun z1 hz1 => ⟨.int (n : Nat), rfl, ?_⟩⟩
    have s3 := Same.new (o := .lst [.int 0]) hz1
    refine ⟨z1, n, _, rfl, rfl, upd_same, by omega, by omega, Nat.le_trans (Nat.le_of_eq (show 1 * ((n : Nat) : Int).toNat = n by omega)) (Nat.le_trans hn (by decide)), fun fa hfa => ?_⟩
    rw [zero (fun s => befS [] s l) fun _ => rfl]
    have s4 := s3.trans (Same.new (o := .lst ((rowsM (fun s => befS [] s l) n).map fun m => V.int (m : Nat))) hfa)
    have gf : MsAt (upd (upd H2 z1 (.lst [.int 0])) fa (.lst ((rowsM (fun s => befS [] s l) n).map fun m => V.int (m : Nat)))) fa (rowsM (fun s => befS [] s l) n) := upd_same
    have gb4 := s4 _ _ gb
    have nbf : ba ≠ fa := ne_of_none (s3 _ _ gb) hfa
    have nHb : H ba = none := by
      cases e : H ba with
      | none => rfl
      | some u => rw [s1 _ _ e] at hba; cases hba
    have nHf : H fa = none := by
      cases e : H fa with
      | none => rfl
      | some u => rw [s3 _ _ (s2 _ _ e)] at hfa; cases hfa
    have s24 := s2.trans s4
    generalize upd (upd H2 z1 (.lst [.int 0])) fa (.lst ((rowsM (fun s => befS [] s l) n).map fun m => V.int (m : Nat))) = H4 at gf gb4 s24
    refine ⟨.ref ta, rfl, ta, rfl, ⟨_, SqT.same s24 hta⟩, for_it walk_tup (fun i σ G => ∃ y5 y6 y7, σ = [some (.int (n : Nat)), some (.ref ta), some (.int l), some (.ref ba), some (.ref fa), y5, y6, y7] ∧ Same H G ∧ MsAt G ba (rowsM (fun s => begS (ss.take i) s l) n) ∧ MsAt G fa (rowsM (fun s => befS (ss.take i) s l) n))
      ⟨none, none, none, rfl, s24, gb4, gf⟩ (fun i σ G _ ⟨_, _, _, _, sG, _⟩ => SqT.same sG hta) ?_ ?_⟩
    · rintro i x σ G0 G hi ⟨y5, y6, y7, rfl, sG, gb, gf⟩ ⟨rfl, hx⟩
      obtain ⟨a, p, rfl, ha, hp, at_⟩ := (pat.same sG).nth hx
      obtain ⟨p1, p2, p3⟩ := p
      obtain ⟨i1, i2, i3, i4⟩ := hin _ (List.mem_of_getElem? hp)
      simp only at i1 i2 i3 i4 at_
      obtain ⟨a1, rfl⟩ := Int.eq_ofNat_of_zero_le i1
      obtain ⟨a3, rfl⟩ := Int.eq_ofNat_of_zero_le i3
      have e1 : ∀ s, begS (ss.take (i + 1)) s l = begS (ss.take i) s l ++ (if (decide ((a1 : Int) = s) && decide (p2 = l)) = true then [(a3 : Int)] else []) := fun s => by
        rw [List.take_add_one, hp, Option.toList_some, begS_snoc]
      have e2 : ∀ s, befS (ss.take (i + 1)) s l = befS (ss.take i) s l ++ (if (decide ((a3 : Int) = s) && decide (p2 = l)) = true then [(a1 : Int)] else []) := fun s => by
        rw [List.take_add_one, hp, Option.toList_some, befS_snoc]
      refine ⟨a, _, rfl, SqT.of at_, rfl, .int (a1 : Nat), _, rfl, .int p2, _, rfl, .int (a3 : Nat), _, rfl, rfl, ?_⟩
      refine ⟨.int p2, rfl, .int l, rfl, rfl, _, rfl, ite2 (fun c => ?_) (fun c => ?_)⟩
      · have cl : p2 = l := V.int.inj (of_decide_eq_true c)
        subst cl
        have l1 : a1 < n := by omega
        have l3 : a3 < n := by omega
        refine ⟨.ref ba, rfl, .int (a1 : Nat), rfl, ba, _, _, _, rfl, rfl, SqL.of gb, atI_nat (j := a1) (by rw [List.getElem?_map, rowsM_get l1]; rfl), .int (a3 : Nat), rfl, a3, rfl, rfl, by omega, _, _, rfl, rfl, ?_⟩
        have o1 : (fun i j : Int => V.int (Builtin.bitOr i j)) ((maskOf (begS (ss.take i) (a1 : Int) p2) : Nat) : Int) ((2 : Int) ^ a3) = V.int ((maskOf (begS (ss.take (i + 1)) (a1 : Int) p2) : Nat) : Int) := by
          show V.int _ = _
          rw [or_bit, e1, decide_eq_true rfl, decide_eq_true rfl, Bool.true_and, if_pos rfl, maskOf_app, maskOf_one]
          rfl
        have o2 : (fun i j : Int => V.int (Builtin.bitOr i j)) ((maskOf (befS (ss.take i) (a3 : Int) p2) : Nat) : Int) ((2 : Int) ^ a1) = V.int ((maskOf (befS (ss.take (i + 1)) (a3 : Int) p2) : Nat) : Int) := by
          show V.int _ = _
          rw [or_bit, e2, decide_eq_true rfl, decide_eq_true rfl, Bool.true_and, if_pos rfl, maskOf_app, maskOf_one]
          rfl
        rw [o1]
        refine ⟨ba, _, _, a1, rfl, rfl, gb, ixN_nat (by rw [List.length_map, rowsM_len]; exact l1), ?_⟩
        have gb2 : MsAt (upd G ba (.lst (((rowsM (fun s => begS (ss.take i) s p2) n).map fun m => V.int ((m : Nat) : Int)).set a1 (V.int ((maskOf (begS (ss.take (i + 1)) (a1 : Int) p2) : Nat) : Int))))) ba (rowsM (fun s => begS (ss.take (i + 1)) s p2) n) := by
          show _ = _
          rw [upd_same, ← List.map_set (f := fun m : Nat => V.int ((m : Nat) : Int)), rowsM_set (f := fun s => begS (ss.take i) s p2) (g := fun s => begS (ss.take (i + 1)) s p2) rfl fun j hj => ?_]
          show begS (ss.take (i + 1)) _ p2 = _
          rw [e1, decide_eq_false (fun z : (a1 : Int) = (j : Int) => hj (by omega)), Bool.false_and, if_neg Bool.false_ne_true, List.append_nil]
        have gf2 : MsAt (upd G ba (.lst (((rowsM (fun s => begS (ss.take i) s p2) n).map fun m => V.int ((m : Nat) : Int)).set a1 (V.int ((maskOf (begS (ss.take (i + 1)) (a1 : Int) p2) : Nat) : Int))))) fa (rowsM (fun s => befS (ss.take i) s p2) n) := by
          show _ = _
          rw [upd_ne nbf.symm]
          exact gf
        have sG2 : Same H (upd G ba (.lst (((rowsM (fun s => begS (ss.take i) s p2) n).map fun m => V.int ((m : Nat) : Int)).set a1 (V.int ((maskOf (begS (ss.take (i + 1)) (a1 : Int) p2) : Nat) : Int))))) := fun b o e => by rw [upd_ne (ne_of_none e nHb)]; exact sG b o e
        generalize upd G ba (.lst (((rowsM (fun s => begS (ss.take i) s p2) n).map fun m => V.int ((m : Nat) : Int)).set a1 (V.int ((maskOf (begS (ss.take (i + 1)) (a1 : Int) p2) : Nat) : Int)))) = G2 at gb2 gf2 sG2
        refine ⟨.ref fa, rfl, .int (a3 : Nat), rfl, fa, _, _, _, rfl, rfl, SqL.of gf2, atI_nat (j := a3) (by rw [List.getElem?_map, rowsM_get l3]; rfl), .int (a1 : Nat), rfl, a1, rfl, rfl, by omega, _, _, rfl, rfl, ?_⟩
        rw [o2]
        refine ⟨fa, _, _, a3, rfl, rfl, gf2, ixN_nat (by rw [List.length_map, rowsM_len]; exact l3), _, _, _, rfl, fun b o e => by rw [upd_ne (ne_of_none e nHf)]; exact sG2 b o e, ?_, ?_⟩
        · show _ = _
          rw [upd_ne nbf]
          exact gb2
        · show _ = _
          rw [upd_same, ← List.map_set (f := fun m : Nat => V.int ((m : Nat) : Int)), rowsM_set (f := fun s => befS (ss.take i) s p2) (g := fun s => befS (ss.take (i + 1)) s p2) rfl fun j hj => ?_]
          show befS (ss.take (i + 1)) _ p2 = _
          rw [e2, decide_eq_false (fun z : (a3 : Int) = (j : Int) => hj (by omega)), Bool.false_and, if_neg Bool.false_ne_true, List.append_nil]
      · have cl : ¬ p2 = l := fun e => c (decide_eq_true (congrArg V.int e))
        refine ⟨_, _, _, rfl, sG, ?_, ?_⟩
        · have : rowsM (fun s => begS (ss.take (i + 1)) s l) n = rowsM (fun s => begS (ss.take i) s l) n := by
            congr 1
            funext s
            rw [e1, decide_eq_false cl, Bool.and_false, if_neg Bool.false_ne_true, List.append_nil]
          rw [this]
          exact gb
        · have : rowsM (fun s => befS (ss.take (i + 1)) s l) n = rowsM (fun s => befS (ss.take i) s l) n := by
            congr 1
            funext s
            rw [e2, decide_eq_false cl, Bool.and_false, if_neg Bool.false_ne_true, List.append_nil]
          rw [this]
          exact gf
    · rintro σ G ⟨y5, y6, y7, rfl, sG, gb, gf⟩
      rw [List.length_map, pat.1, List.take_length] at gb gf
      refine ⟨.ref ba, rfl, .ref fa, rfl, by show 2 ≤ sizeLine; decide, fun r hr => ?_⟩
      have nHr : H r = none := by
        cases e : H r with
        | none => rfl
        | some u => rw [sG _ _ e] at hr; cases hr
      exact k r ba fa _ (sG.trans (Same.new hr)) nHr nHb nHf upd_same (Same.new hr _ _ gb) (Same.new hr _ _ gf)
end
end Fw

set_option maxRecDepth 100000
set_option maxHeartbeats 4000000
namespace Fw
open PySem PySem.Spec PyProof.Rows L2 GxR
/-- a row as a key -/
def kS (X : List Int) : List Key := X.map fun x => (Sum.inl x : Key)
theorem kS_kV (X : List Int) : (kS X).map kV = X.map V.int := by unfold kS; rw [List.map_map]; rfl
theorem kS_inj {X Y : List Int} (h : kS X = kS Y) : X = Y := (List.map_inj_right (f := fun x : Int => (Sum.inl x : Key)) fun a b e => Sum.inl.inj e).mp h
/-- the states below i with this row -/
def posI (Xs : List (List Int)) (i : Nat) (X : List Int) : List Int := (rng i).filter fun j => decide (Xs[j.toNat]? = some X)
theorem posI_succ {Xs : List (List Int)} {i : Nat} {X Y : List Int} (h : Xs[i]? = some Y) : posI Xs (i + 1) X = posI Xs i X ++ (if Y = X then [(i : Int)] else []) := by
  unfold posI
  rw [rng_succ, List.filter_append]
  congr 1
  by_cases c : Y = X
  · rw [if_pos c, List.filter_cons_of_pos (by rw [Int.toNat_natCast, h, c]; exact decide_eq_true rfl)]
    rfl
  · rw [if_neg c, List.filter_cons_of_neg (by rw [Int.toNat_natCast, h]; simpa using c)]
    rfl
theorem mem_posI {Xs : List (List Int)} {i : Nat} {X : List Int} {j : Int} : j ∈ posI Xs i X ↔ (0 ≤ j ∧ j < (i : Int)) ∧ Xs[j.toNat]? = some X := by
  unfold posI
  rw [List.mem_filter, rng_mem, decide_eq_true_eq]
def clsM (Xs : List (List Int)) (i : Nat) (X : List Int) : Nat := maskOf (posI Xs i X)
theorem cls_bit {Xs : List (List Int)} {i : Nat} {X : List Int} {j : Nat} : (clsM Xs i X).testBit j = true ↔ j < i ∧ Xs[j]? = some X := by
  have h := maskOf_in (X := posI Xs i X) (fun x hx => (mem_posI.mp hx).1.1) (s := (j : Int)) (Int.natCast_nonneg j)
  unfold mIn at h
  rw [Int.toNat_natCast] at h
  unfold clsM
  rw [h, sIn_iff, mem_posI, Int.toNat_natCast]
  constructor
  · rintro ⟨a, b⟩; exact ⟨by omega, b⟩
  · rintro ⟨a, b⟩; exact ⟨⟨Int.natCast_nonneg j, by omega⟩, b⟩
theorem cls_lt {Xs : List (List Int)} {i : Nat} {X : List Int} : clsM Xs i X < 2 ^ i := maskOf_lt fun x hx => (mem_posI.mp hx).1
theorem cls_none {Xs : List (List Int)} {i : Nat} {X : List Int} (h : ∀ j, j < i → Xs[j]? ≠ some X) : clsM Xs i X = 0 := by
  have : posI Xs i X = [] := List.eq_nil_iff_forall_not_mem.mpr fun j hj => by
    have := mem_posI.mp hj
    exact h j.toNat (by omega) this.2
  unfold clsM
  rw [this]
  rfl
def kvsC (Xs : List (List Int)) (i : Nat) (Ks : List (List Int)) : List (List Key × V) := Ks.map fun Y => (kS Y, V.int ((clsM Xs i Y : Nat) : Int))
theorem valV_C {Xs : List (List Int)} {i : Nat} {X : List Int} : ∀ {Ks : List (List Int)}, valV (kvsC Xs i Ks) (kS X) = if X ∈ Ks then some (V.int ((clsM Xs i X : Nat) : Int)) else none
  | [] => rfl
  | Y :: Ks => by
    have ih := valV_C (Xs := Xs) (i := i) (X := X) (Ks := Ks)
    by_cases c : Y = X
    · subst c
      rw [if_pos List.mem_cons_self]
      exact valV_pos rfl
    · rw [show valV (kvsC Xs i (Y :: Ks)) (kS X) = valV (kvsC Xs i Ks) (kS X) from valV_neg fun e => c (kS_inj e), ih]
      by_cases m : X ∈ Ks
      · rw [if_pos m, if_pos (List.mem_cons_of_mem _ m)]
      · rw [if_neg m, if_neg fun z => (List.mem_cons.mp z).elim (fun e => c e.symm) m]
def addK (Ks : List (List Int)) (X : List Int) : List (List Int) := if X ∈ Ks then Ks else Ks ++ [X]
theorem put_C {Xs : List (List Int)} {i : Nat} {X : List Int} {Ks : List (List Int)} (h : Xs[i]? = some X) : putK (kvsC Xs i Ks) (kS X) (V.int ((clsM Xs (i + 1) X : Nat) : Int)) = kvsC Xs (i + 1) (addK Ks X) := by
  have other : ∀ Y, Y ≠ X → clsM Xs (i + 1) Y = clsM Xs i Y := fun Y n => by
    unfold clsM
    rw [posI_succ h, if_neg fun e => n e.symm, List.append_nil]
  unfold putK addK
  rw [valV_any, valV_C]
  by_cases m : X ∈ Ks
  · rw [if_pos m, if_pos m]
    simp only [Option.isSome_some, if_true]
    unfold kvsC
    rw [List.map_map]
    refine List.map_congr_left fun Y hY => ?_
    simp only [Function.comp]
    by_cases c : Y = X
    · subst c
      simp
    · have : ¬ kS Y = kS X := fun e => c (kS_inj e)
      simp [this, other Y c]
  · rw [if_neg m, if_neg m]
    simp only [Option.isSome_none, Bool.false_eq_true, if_false]
    unfold kvsC
    rw [List.map_append]
    congr 1
    refine List.map_congr_left fun Y hY => ?_
    rw [other Y fun e => m (by rw [← e]; exact hY)]
section
variable {P : Program} {w : World} {K : PySem.W.Frag} {mg : Str → Option Value} {base : Heap} {C J B WC : Addr}
def spLike (K : PySem.W.Frag) : Sp := fun vs H Q _ => ∃ (ta : Addr) (ras : List Addr) (Xs : List (List Int)), vs = [.ref ta] ∧ SqT K H ta (ras.map V.ref) ∧ RTp H ras Xs ∧ Xs.length ≤ 900 ∧
  ∀ (l : Addr) (Ks : List (List Int)) H', Same H H' → H l = none → MsAt H' l (Ks.map (clsM Xs Xs.length)) → Ks.Nodup → (∀ X, X ∈ Ks ↔ X ∈ Xs) → Q (.ref l) H'
theorem ok_like_at_once {f : Addr} {fd : FuncData} (FF : Fun K "like_at_once" "like_at_once" s_like_at_once f fd) (T : Txt K mg C J B) : FnOk P w K mg base CX0 1 f fd a_like_at_once (spLike K) := by
  refine FF.ok sc_like_at_once (fun vs H Q E h => ?_) (fun cdv A outer s H vs Q E hr h => ?_)
  · obtain ⟨ta, ras, Xs, rfl, _⟩ := h
    rfl
  · obtain ⟨ta, ras, Xs, rfl, hta, rt, hn, k⟩ := h
    have hu := hu_of hr
    refine ⟨_, (pss_cons (ps_set (i := 1) sc_like_at_once.nd rfl (.inl rfl) pe_dnewT)
      (pss_cons (ps_for PassesOwn.never rfl (pi_enumT rfl T.z_enumerate (pa_cons (pv 0) pa_nil)) (pg_tup rfl (pgs_cons (pg_name (i := 2) sc_like_at_once.nd rfl (.inl rfl)) (pgs_cons (pg_name (i := 3) sc_like_at_once.nd rfl (.inl rfl)) pgs_nil))) (pss_one (ps_dput hu (pv 1) (pv 3) (pe_op op_or (pe_dget2 hu (pv 1) (pv 3) pe_int ⟨rfl, rfl, rfl, rfl⟩) (pe_op op_oneShl pe_int (pv 2))) rfl)))
      (pss_one (ps_ret (pe_listValsT rfl (pv 1) rfl T.z_list (by decide +kernel)))))), ?_⟩
    intro D hD
    refine ⟨.ref ta, rfl, ta, _, rfl, SqT.same (Same.new hD) hta, for_it walk_enumT (fun i σ G => ∃ (y2 y3 : Option V) (Ks : List (List Int)), σ = [some (.ref ta), some (.ref D), y2, y3] ∧ Same H G ∧ G D = some (.dT (kvsC Xs i Ks)) ∧ Ks.Nodup ∧ (∀ X, X ∈ Ks ↔ X ∈ Xs.take i) ∧ Ks.length ≤ i)
      ⟨none, none, [], rfl, Same.new hD, upd_same, List.nodup_nil, fun X => by simp, Nat.le_refl 0⟩ (fun i σ G _ ⟨_, _, _, _, sG, _⟩ => SqT.same sG hta) ?_ ?_⟩
    · rintro i x σ G0 G hi ⟨y2, y3, Ks, rfl, sG, gD, nd, mem, kl⟩ ⟨tp, x1, x2, rfl, htp, rfl, e1, e2⟩
      rw [List.length_map] at hi
      cases (show some (V.int ((i : Nat) : Int)) = some x1 from e1)
      have hra : ras[i]? = some ras[i] := List.getElem?_eq_getElem hi
      have e2' : (ras.map V.ref)[i]? = some x2 := e2
      rw [List.getElem?_map, hra] at e2'
      cases e2'
      have ix : i < Xs.length := by rw [← rt.1]; exact hi
      have hX : Xs[i]? = some Xs[i] := List.getElem?_eq_getElem ix
      have row := rt.2 i _ _ hra hX
      have st := Same.new (o := .tup [.int ((i : Nat) : Int), .ref ras[i]]) htp
      have tT : SqT K (upd G0 tp (.tup [.int ((i : Nat) : Int), .ref ras[i]])) tp [.int ((i : Nat) : Int), .ref ras[i]] := SqT.of upd_same
      have sG1 := sG.trans st
      have gD1 := st _ _ gD
      generalize upd G0 tp (.tup [.int ((i : Nat) : Int), .ref ras[i]]) = G at tT sG1 gD1
      generalize Xs[i] = X at hX row
      have row1 := sG1 _ _ row
      have rk : G ras[i] = some (.tup ((kS X).map kV)) := by rw [kS_kV]; exact row1
      refine ⟨tp, _, rfl, tT, rfl, .int (i : Nat), _, rfl, .ref ras[i], _, rfl, rfl, ?_⟩
      refine ⟨.ref D, rfl, D, rfl, .inr ⟨_, .inl gD1⟩, .ref ras[i], rfl, _, DGet.t gD1 rk, .int (i : Nat), rfl, i, rfl, rfl, by omega, ?_⟩
      have cur : (valV (kvsC Xs i Ks) (kS X)).getD (V.int 0) = V.int ((clsM Xs i X : Nat) : Int) := by
        rw [valV_C]
        by_cases m : X ∈ Ks
        · rw [if_pos m]
          rfl
        · rw [if_neg m, cls_none fun j hj e => m ((mem X).mpr (List.mem_of_getElem? (i := j) (by rw [List.getElem?_take, if_pos hj]; exact e)))]
          rfl
      rw [cur]
      refine ⟨_, _, rfl, rfl, ?_⟩
      have o1 : (fun a b : Int => V.int (Builtin.bitOr a b)) ((clsM Xs i X : Nat) : Int) ((2 : Int) ^ i) = V.int ((clsM Xs (i + 1) X : Nat) : Int) := by
        show V.int _ = _
        rw [or_bit]
        unfold clsM
        rw [posI_succ hX, if_pos rfl, maskOf_app, maskOf_one, Int.toNat_natCast]
      rw [o1]
      refine ⟨.ref D, rfl, .ref ras[i], rfl, D, _, rfl, DPut.t gD1 rk (by unfold kvsC; rw [List.length_map]; exact small1000 (by omega)), ?_⟩
      rw [put_C hX]
      refine ⟨_, _, addK Ks X, rfl, fun b o e => by rw [upd_ne (ne_of_none e hD)]; exact sG1 b o e, upd_same, ?_, fun Y => ?_, ?_⟩
      · unfold addK
        split
        · exact nd
        · rename_i m
          exact List.nodup_append.mpr ⟨nd, by simp, fun a ha b hb e => m (by rw [← List.mem_singleton.mp hb, ← e]; exact ha)⟩
      · rw [List.take_add_one, hX, Option.toList_some, List.mem_append, ← mem]
        unfold addK
        split
        · rename_i m
          constructor
          · exact .inl
          · rintro (h | h)
            · exact h
            · rw [List.mem_singleton.mp h]; exact m
        · rw [List.mem_append]
      · unfold addK
        split
        · omega
        · rw [List.length_append, List.length_singleton]; omega
    · rintro σ G ⟨y2, y3, Ks, rfl, sG, gD, nd, mem, kl⟩
      rw [List.length_map, rt.1] at gD mem
      rw [List.take_length] at mem
      refine ⟨.ref D, rfl, D, _, rfl, gD, fun l hl => ?_⟩
      have nHl : H l = none := by
        cases e : H l with
        | none => rfl
        | some u => rw [sG _ _ e] at hl; cases hl
      refine k l Ks _ (sG.trans (Same.new hl)) nHl ?_ nd mem
      show _ = _
      rw [upd_same]
      unfold kvsC
      rw [List.map_map, List.map_map]
      rfl
end
end Fw

set_option maxRecDepth 100000
set_option maxHeartbeats 4000000
/-! max(xs, default=d) of whole numbers; name = {k: v for ..} on one line; a dict comprehension over any walk -/
namespace Fw
open PySem PySem.Spec PyProof.Rows L2
theorem reads_ints {h : Heap} : ∀ {its : List Value} {ns : List Int}, IntsAre its ns → ReadsAll h its (ns.map PyData.int) []
  | _, _, .nil => .nil
  | _, _, .cons k t r => by
    have := ReadsAll.cons (Reads.int (h := h) k t) (reads_ints r)
    exact this
theorem alike_ints (ns : List Int) : PySem.W.AlikeAll (ns.map PyData.int) := by
  refine ⟨fun x hx y hy => ?_, fun x hx => ?_⟩
  · obtain ⟨a, _, rfl⟩ := List.mem_map.mp hx
    obtain ⟨b, _, rfl⟩ := List.mem_map.mp hy
    simp [PySem.W.alike]
  · obtain ⟨a, _, rfl⟩ := List.mem_map.mp hx
    intro e
    cases e
theorem depth_ints : ∀ ns : List Int, PyData.depthAll (ns.map PyData.int) = 0
  | [] => by simp [PyData.depthAll]
  | n :: ns => by simp [PyData.depthAll, PyData.depth, depth_ints ns]
theorem fold_max (n : Int) : ∀ ns : List Int, ns.foldl max n ∈ n :: ns ∧ ∀ y ∈ n :: ns, y ≤ ns.foldl max n
  | [] => by simp
  | k :: r => by
    obtain ⟨h1, h2⟩ := fold_max (max n k) r
    rw [List.foldl_cons]
    refine ⟨?_, fun y hy => ?_⟩
    · rcases List.mem_cons.mp h1 with e | e
      · rw [e]
        rcases Int.le_total n k with q | q
        · rw [Int.max_eq_right q]
          exact List.mem_cons_of_mem _ List.mem_cons_self
        · rw [Int.max_eq_left q]
          exact List.mem_cons_self
      · exact List.mem_cons_of_mem _ (List.mem_cons_of_mem _ e)
    · have top := h2 (max n k) List.mem_cons_self
      rcases List.mem_cons.mp hy with rfl | hy
      · exact Int.le_trans (Int.le_max_left _ _) top
      · rcases List.mem_cons.mp hy with rfl | hy
        · exact Int.le_trans (Int.le_max_right _ _) top
        · exact h2 y (List.mem_cons_of_mem _ hy)
theorem reads_int {h : Heap} {v : Value} {n : Int} {bs : List Addr} (r : Reads h v (.int n) bs) : ∃ t, v = .int n t := by
  cases r
  exact ⟨_, rfl⟩
section
variable {X : Cx}
def rMaxDf (K : PySem.W.Frag) : List V → List V → Hp → VK → Prop := fun vs zs H Q => ∃ (a : Addr) (ns : List Int) (d : Int), vs = [V.ref a] ∧ zs = [V.int d] ∧ SqL K H a (ns.map V.int) ∧
  ∀ m : Int, ((ns = [] ∧ m = d) ∨ (m ∈ ns ∧ ∀ y ∈ ns, y ≤ m)) → Q (.int m) H
theorem cr_maxDf (calm : X.calm = true) (room : X.A.units + 1 < cLine) : CallRK X (.builtin "max") [PySem.Str.ofString "default"] (rMaxDf X.K) := by
  intro pins s σ H vs zs us ws Q I r rz h
  obtain ⟨a, ns, d, rfl, rfl, hs, q⟩ := h
  obtain ⟨its, rv, hl, _⟩ := I.list hs
  rw [Vals.ref1 r]
  obtain ⟨w, rfl, ew⟩ := vals1 rz
  obtain ⟨td, rfl⟩ : ∃ t, w = Value.int d t := ew
  have iv := intsOfVals rv
  refine PySem.W.max_list_default (I.ok.hd calm) hl.isList (reads_ints iv) (alike_ints ns) (by rw [depth_ints]; exact room) (fun e h' tk kp => ?_) (fun y ys i v h' tk bs e hi rd kp => ?_)
  · have e' : ns = [] := List.map_eq_nil_iff.mp e
    exact ⟨.int d, H, I.kept kp, ⟨_, rfl⟩, q d (.inl ⟨e', rfl⟩)⟩
  · cases ns with
    | nil => cases e
    | cons n ns =>
      rw [List.map_cons] at e
      injection e with e1 e2
      subst e1
      subst e2
      rw [PySem.W.maxD_ints] at rd
      obtain ⟨t, rfl⟩ := reads_int rd
      exact ⟨.int _, H, I.kept kp, ⟨_, rfl⟩, q _ (.inr (fold_max n ns))⟩
/-- name = {..} on one line, the name a local -/
theorem ps_setDc {i : Nat} {y : PySem.Str} {py : Pos} {kx vx tg iter : Expr} {ifs : List Expr} {scope : Scope} {own : List (PySem.Str × Nat)} {pos spos : Pos} {wi : TI} {g : TG} {tt : TT} {tk tv : TE}
    (calm : X.calm = true) (nd : X.N.Nodup) (hy : X.N[i]? = some y) (loc : X.env.scope.names.lookup y = some .local)
    (sw : swapsWith (.DictComp kx vx [⟨tg, iter, ifs, 0⟩] scope pos) (some (.Name y py)) spos.line X.env = pure true) (walk : PI X tg iter wi) (blk : BlkOk X.N X.env.scope scope own)
    (gg : ∀ s H C cl fp, PG (X.blk s H scope (compEnvC scope cl C X.env) fp) tg g)
    (tts : ∀ s H C cl fp, PTs (X.blk s H scope (compEnvC scope cl C X.env) fp) ifs tt)
    (kk : ∀ s H C cl fp, PE (X.blk s H scope (compEnvC scope cl C X.env) fp) kx tk)
    (vv : ∀ s H C cl fp, PE (X.blk s H scope (compEnvC scope cl C X.env) fp) vx tv)
    (fold : ∀ x, foldedSetIterable iter X.env x = pure x := by intro _; rfl) :
    PS X (.Assign [.Name y py] (.DictComp kx vx [⟨tg, iter, ifs, 0⟩] scope pos) spos) (tAsg (tDc wi g tt tk tv (own.map (·.2))) (gName i)) := by
  refine ⟨fun pins s σ H D I asked => ?_⟩
  rw [exec_Assign_Name_used _ _ _ _ sw]
  refine wpAny_bind (wpAny_standAt (wpAny_bind ?_))
  show wpAny _ X.A (do
    let _ ← comprehension (.DictComp kx vx [⟨tg, iter, ifs, 0⟩] scope pos) scope X.env (firstIterPos [⟨tg, iter, ifs, 0⟩] pos) newDict false (eval iter X.env) (some (assign (.Name y py) X.env))) _ _ s
  have asked' : tDc wi g tt tk tv (own.map (·.2)) σ H (fun x H1 => gName i x σ H1 D.nx) := asked
  refine wpAny_bind (thn (dc_core (Qf := fun _ z => SP X pins D .next z) calm nd I walk blk gg tts kk vv fold asked' fun L C z m G I' q ns f => ?_) fun _ z hq => wpAny_pure (wpAny_pure hq))
  show wpAny _ _ (assign (.Name y py) X.env (.ref L)) _ _ _
  refine wpAny_assign_Name (store_ok2 (v := V.ref L) I' nd hy (.inl loc) rfl (fun z2 I2 told => ?_) (.inr loc))
  obtain ⟨a, sb, ha⟩ := told
  obtain ⟨f0, f1, f2, f3, f4, f5⟩ := f
  have other : C ≠ a := ha.elim (fun e => by rw [e]; exact f1) fun e q => f4 y a e q.symm
  refine ⟨m, ns.sameBut sb other, fun h3 sb3 => ⟨_, G, ?_, q⟩⟩
  exact I2.turned (t' := z2.toks) (fun b o hb e => (sb3.2 b hb).trans e) f0 f1 f3 f4 f5
theorem swD_true {kx vx : Expr} {gs : List Comprehension} {scope : Scope} {pos py : Pos} {y : PySem.Str} {l : Nat} {env : Env} (hk : env.scope.kind = .function) (hy : env.scope.names.lookup y = some .local) (hl : (py.line == pos.line) = true)
    (ha : (scope.names.any fun (n, k) => n == y && (k == .local || k == .cell)) = false) : swapsWith (.DictComp kx vx gs scope pos) (some (.Name y py)) l env = pure true := by
  have k1 : env.kindOf y = some .local := hy
  have k2 : env.blockKind = .function := by
    unfold Env.blockKind
    rw [hk]
    rfl
  unfold swapsWith
  simp only [k2, k1, ha, Expr.pos, hl]
  rfl
end
/-- over any walk: Pv by the turn and the heap -/
theorem dc_it {J : It} {n : Nat} {G : Hp → Prop} {Y : Nat → Hp → V → Hp → Prop} (w : Walk J n G Y) {g : TG} {tt : TT} {tk tv : TE} {vs : List Nat} {σ : L2.St} {H1 : Hp} {D : Addr} {Qd : Hp → Prop} (Pv : Nat → Hp → Prop)
    (h0 : Pv 0 (upd H1 D (.dK []))) (hG : ∀ i H, i ≤ n → Pv i H → G H)
    (hs : ∀ i x H H', i < n → Pv i H → Y i H x H' → g x (wipe σ vs) H' fun σ2 H2 => wipe σ2 vs = wipe σ vs ∧ tt σ2 H2 fun b H3 =>
      if b = true then tk σ2 H3 fun y H4 => tv σ2 H4 fun z H5 => ∃ kvs k, y = kV k ∧ H5 D = some (.dK kvs) ∧ kvs.length < sizeLine ∧ Pv (i + 1) (upd H5 D (.dK (putK kvs k z))) else Pv (i + 1) H3) (hd : ∀ H, Pv n H → Qd H) :
    ∃ Wm : Nat → Nat → Hp → Prop, (∃ m, Wm 0 m (upd H1 D (.dK []))) ∧ ∀ i m H, Wm i m H →
      (J.stop i H ∧ Qd H) ∨ (J.go i H ∧ ∃ Nx : Hp → Prop, (∀ H', Nx H' → ∃ m', m' < m ∧ Wm (i + 1) m' H') ∧
        ∀ x H', J.yld i H x H' → g x (wipe σ vs) H' fun σ2 H2 => wipe σ2 vs = wipe σ vs ∧ tt σ2 H2 fun b H3 =>
        if b = true then tk σ2 H3 fun y H4 => tv σ2 H4 fun z H5 => ∃ kvs k, y = kV k ∧ H5 D = some (.dK kvs) ∧ kvs.length < sizeLine ∧ Nx (upd H5 D (.dK (putK kvs k z))) else Nx H3) := by
  refine ⟨fun i m H => m + i = n ∧ Pv i H, ⟨n, rfl, h0⟩, fun i m H hW => ?_⟩
  obtain ⟨e, p⟩ := hW
  have q := hG i H (by omega) p
  cases m with
  | zero =>
    have e2 : i = n := by omega
    subst e2
    exact .inl ⟨w.stops H q, hd H p⟩
  | succ m =>
    have lt : i < n := by omega
    exact .inr ⟨w.goes i H lt q, Pv (i + 1), fun H' p' => ⟨m, Nat.lt_succ_self m, by omega, p'⟩, fun x H' y => hs i x H H' lt p (w.yields i H x H' lt q y)⟩
end Fw

set_option maxRecDepth 100000
set_option maxHeartbeats 4000000
/-! dicts whose keys are tuples within tuples -/
namespace Fw
open PySem PySem.Spec PyProof.Rows L2
mutual
/-- v is such a key, in the heap H -/
inductive KIs (K : PySem.W.Frag) (H : Hp) : V → NestedKey → Prop
  | int (i : Int) : KIs K H (.int i) (.num i)
  | str (x : PySem.Str) : KIs K H (.str x) (.text x)
  | tup {a : Addr} {xs : List V} {ks : List NestedKey} : SqT K H a xs → KAll K H xs ks → KIs K H (.ref a) (.tup ks)
inductive KAll (K : PySem.W.Frag) (H : Hp) : List V → List NestedKey → Prop
  | nil : KAll K H [] []
  | cons {x : V} {k : NestedKey} {xs : List V} {ks : List NestedKey} : KIs K H x k → KAll K H xs ks → KAll K H (x :: xs) (k :: ks)
end
mutual
theorem KIs.map {K : PySem.W.Frag} {H H' : Hp} (s : ∀ a xs, SqT K H a xs → SqT K H' a xs) : ∀ {v : V} {k : NestedKey}, KIs K H v k → KIs K H' v k
  | _, _, .int i => .int i
  | _, _, .str x => .str x
  | _, _, .tup h r => .tup (s _ _ h) (KAll.map s r)
theorem KAll.map {K : PySem.W.Frag} {H H' : Hp} (s : ∀ a xs, SqT K H a xs → SqT K H' a xs) : ∀ {vs : List V} {ks : List NestedKey}, KAll K H vs ks → KAll K H' vs ks
  | _, _, .nil => .nil
  | _, _, .cons h r => .cons (KIs.map s h) (KAll.map s r)
end
section
variable {X : Cx} {pins : List (Addr × Obj)} {σ : L2.St} {H : Hp} {s : Shared}
mutual
theorem kis_real (I : Inv X pins σ H s) : ∀ {v : V} {k : NestedKey} {u : Value}, KIs X.K H v k → RelV v u → NestedIs s.heap k u
  | _, _, _, .int i, r => by
    obtain ⟨t, rfl⟩ : ∃ t, _ = Value.int i t := r
    exact .int i t
  | _, _, _, .str x, r => by
    obtain ⟨t, rfl⟩ : ∃ t, _ = Value.str x t := r
    exact .text x t
  | _, _, _, .tup h all, r => by
    obtain rfl : _ = Value.ref _ := r
    obtain ⟨its, rv, ⟨o, e, c, n, d⟩, _⟩ := I.tuple h
    exact .tup e c d (by simpa using kall_real I all rv)
theorem kall_real (I : Inv X pins σ H s) : ∀ {vs : List V} {ks : List NestedKey} {us : List Value}, KAll X.K H vs ks → Vals vs us → NestedAll s.heap ks us
  | _, _, _, .nil, .nil => .nil
  | _, _, _, .cons h r, .cons a b => .cons (kis_real I h a) (kall_real I r b)
end
end
abbrev NK := NestedKey × Addr × V
/-- what stands at a key -/
def valN (kvs : List NK) (k : NestedKey) : Option V := (kvs.find? fun e => decide (e.1 = k)).map fun e => e.2.2
def PairN (p : NK) (q : NestedKey × Addr × Value) : Prop := p.1 = q.1 ∧ p.2.1 = q.2.1 ∧ RelV p.2.2 q.2.2
def DNh (P : Program) (w : World) (a : Addr) (kvs : List NK) (h : Heap) : Prop := (a == sysModules) = false ∧ kvs.length ≤ sizeLine ∧ ∃ xs : List (NestedKey × Addr × Value), Paired PairN kvs xs ∧
  ∃ o es ep, h.get? a = some o ∧ o.ExactDict ∧ o.data = .dict es ep ∧ es.toList = xs.map (entryOfKey (nestedKind P w)) ∧ (xs.map (·.1)).Nodup
/-- a dict with such keys, each with the place of its tuple -/
def DNs (P : Program) (w : World) (a : Addr) (kvs : List NK) : HO := .ext (DNh P w a kvs)
def KeysOk (K : PySem.W.Frag) (H : Hp) (kvs : List NK) : Prop := ∀ e ∈ kvs, KIs K H (.ref e.2.1) e.1 ∧ e.1.depth ≤ 8
theorem DNh.ok {P : Program} {w : World} {H : Hp} {h : Heap} {a : Addr} {kvs : List NK} (x : DNh P w a kvs h) : ObjOk P w H h a (DNs P w a kvs) := by
  obtain ⟨z, y, xs, r, o, es, ep, e, c⟩ := id x
  refine ⟨x, ⟨o, e⟩, fun h1 h2 q k => ?_⟩
  obtain ⟨z, y, xs, r, o, es, ep, e, c⟩ := q
  exact ⟨z, y, xs, r, o, es, ep, k _ e, c⟩
theorem pair_val {kvs : List NK} {xs : List (NestedKey × Addr × Value)} (r : Paired PairN kvs xs) (k : NestedKey) : RelO (valN kvs k) ((atKey xs k).map (·.2)) := by
  induction r with
  | nil => exact trivial
  | @cons p q ps qs h t ih =>
    obtain ⟨h1, h2, h3⟩ := h
    unfold valN atKey at ih ⊢
    by_cases e : p.1 = k
    · have e2 : q.1 = k := h1.symm.trans e
      simp only [List.find?_cons, e, e2, decide_true, Option.map_some]
      exact h3
    · have e2 : ¬ q.1 = k := fun z => e (h1.trans z)
      simp only [List.find?_cons, decide_eq_false e, decide_eq_false e2]
      exact ih
theorem valN_snoc {kvs : List NK} {k : NestedKey} {b : Addr} {v : V} (h : valN kvs k = none) (j : NestedKey) : valN (kvs ++ [(k, b, v)]) j = if j = k then some v else valN kvs j := by
  unfold valN at h ⊢
  rw [List.find?_append]
  by_cases e : j = k
  · subst e
    have : kvs.find? (fun e => decide (e.1 = j)) = none := Option.map_eq_none_iff.mp h
    simp [this, List.find?_cons]
  · rw [if_neg e]
    have : ¬ k = j := fun z => e z.symm
    cases kvs.find? (fun e => decide (e.1 = j)) <;> simp [List.find?_cons, this]
section
variable {X : Cx}
theorem dn_dict {pins : List (Addr × Obj)} {σ : L2.St} {H : Hp} {s : Shared} {a : Addr} {kvs : List NK} (I : Inv X pins σ H s) (e : H a = some (DNs X.prog X.w a kvs)) (ok : KeysOk X.K H kvs) :
    (a == sysModules) = false ∧ kvs.length ≤ sizeLine ∧ ∃ xs, Paired PairN kvs xs ∧ s.heap.DictOfH (nestedKind X.prog X.w) a xs := by
  obtain ⟨z, y, xs, r, o, es, ep, h1, h2, h3, h4, h5⟩ := (I.hok a _ e).1
  refine ⟨z, y, xs, r, o, es, ep, h1, h2, h3, h4, fun x hx => ?_, h5⟩
  have all : ∀ {l : List NK} {m : List (NestedKey × Addr × Value)}, Paired PairN l m → (∀ e ∈ l, KIs X.K H (.ref e.2.1) e.1 ∧ e.1.depth ≤ 8) → ∀ x ∈ m, (nestedKind X.prog X.w).is s.heap x.1 x.2.1 := by
    intro l m q
    induction q with
    | nil => intro _ x hx; exact nomatch hx
    | @cons p q ps qs hq t ih =>
      intro okl x hx
      rcases List.mem_cons.mp hx with e | hx
      · subst e
        obtain ⟨k1, k2⟩ := okl p List.mem_cons_self
        rw [hq.1, hq.2.1] at k1
        exact ⟨kis_real I k1 rfl, by rw [← hq.1]; exact k2⟩
      · exact ih (fun e he => okl e (List.mem_cons_of_mem _ he)) x hx
  exact all r ok x hx
def rInN (P : Program) (w : World) (K : PySem.W.Frag) (neg : Bool) : R2 := fun x y H Q => ∃ (a b : Addr) (kvs : List NK) (k : NestedKey), y = .ref a ∧ x = .ref b ∧ H a = some (DNs P w a kvs) ∧ KeysOk K H kvs ∧ KIs K H (.ref b) k ∧ k.depth ≤ 8 ∧
  Q (.bl (if neg = true then !(valN kvs k).isSome else (valN kvs k).isSome)) H
theorem op_inN (hu : X.A.units + 64 < cLine) : OpR X (compareOp .In) (rInN X.prog X.w X.K false) := by
  intro pins s σ H x y v u Q I rx ry h
  obtain ⟨a, b, kvs, k, rfl, rfl, e, ok, hk, dk, q⟩ := h
  obtain rfl : v = Value.ref b := rx
  obtain rfl : u = Value.ref a := ry
  obtain ⟨z, _, xs, r, dd⟩ := dn_dict I e ok
  refine wpAny_in_heap (knd := nestedKind X.prog X.w) (show X.A.units + 1 + 8 < cLine by omega) ⟨kis_real I hk rfl, dk⟩ z dd ?_
  have q2 := (pair_val r k).isSome_eq
  rw [Option.isSome_map] at q2
  refine ⟨.bl _, H, I.tok _, rfl, ?_⟩
  rw [← q2]
  exact q
theorem op_notInN (hu : X.A.units + 64 < cLine) : OpR X (compareOp .NotIn) (rInN X.prog X.w X.K true) := by
  intro pins s σ H x y v u Q I rx ry h
  obtain ⟨a, b, kvs, k, rfl, rfl, e, ok, hk, dk, q⟩ := h
  obtain rfl : v = Value.ref b := rx
  obtain rfl : u = Value.ref a := ry
  obtain ⟨z, _, xs, r, dd⟩ := dn_dict I e ok
  refine wpAny_notIn_heap (knd := nestedKind X.prog X.w) (show X.A.units + 1 + 8 < cLine by omega) ⟨kis_real I hk rfl, dk⟩ z dd ?_
  have q2 := (pair_val r k).isSome_eq
  rw [Option.isSome_map] at q2
  refine ⟨.bl _, H, I.tok _, rfl, ?_⟩
  rw [← q2]
  exact q
def rIxN (P : Program) (w : World) (K : PySem.W.Frag) : R2 := fun x y H Q => ∃ (a b : Addr) (kvs : List NK) (k : NestedKey) (v : V), x = .ref a ∧ y = .ref b ∧ H a = some (DNs P w a kvs) ∧ KeysOk K H kvs ∧ KIs K H (.ref b) k ∧ k.depth ≤ 8 ∧ valN kvs k = some v ∧ Q v H
theorem ix_nest (hu : X.A.units + 64 < cLine) : IxR X (rIxN X.prog X.w X.K) := by
  intro value slice pins s σ H x y v u Q I rx ry h hs
  obtain ⟨a, b, kvs, k, z0, rfl, rfl, e, ok, hk, dk, hv, q⟩ := h
  obtain rfl : v = Value.ref a := rx
  obtain rfl : u = Value.ref b := ry
  obtain ⟨z, _, xs, r, dd⟩ := dn_dict I e ok
  obtain ⟨w', hw, rw'⟩ := RelO.some_of (v := z0) (o := (atKey xs k).map (·.2)) (by rw [← hv]; exact pair_val r k)
  obtain ⟨p, hp, hp2⟩ := Option.map_eq_some_iff.mp hw
  refine tail_any dd.typeIs PySem.F.slot_dict_getitem.lookup (wpAny_getItem_heap (knd := nestedKind X.prog X.w) (show X.A.units + 1 + 8 < cLine by omega) ⟨kis_real I hk rfl, dk⟩ dd hp ?_) hs
  rw [hp2]
  exact ⟨z0, H, I.tok _, rw', q⟩
/-- d[key] = v, the key not yet there -/
def rSetN (P : Program) (w : World) (K : PySem.W.Frag) : TSet := fun o i v H Q => ∃ (a b : Addr) (kvs : List NK) (k : NestedKey), o = .ref a ∧ i = .ref b ∧ H a = some (DNs P w a kvs) ∧ KeysOk K H kvs ∧ KIs K H (.ref b) k ∧ k.depth ≤ 8 ∧ valN kvs k = none ∧ kvs.length < sizeLine ∧
  Q (upd H a (DNs P w a (kvs ++ [(k, b, v)])))
theorem set_nest (hu : X.A.units + 64 < cLine) : PSet X (rSetN X.prog X.w X.K) := by
  intro pins s σ H o i v ov iv u Q I ro ri rv h
  obtain ⟨a, b, kvs, k, rfl, rfl, e, ok, hk, dk, hn, hl, q⟩ := h
  obtain rfl : ov = Value.ref a := ro
  obtain rfl : iv = Value.ref b := ri
  obtain ⟨z, sz, xs, r, dd⟩ := dn_dict I e ok
  have none' : atKey xs k = none := by
    have q2 := (pair_val r k).isSome_eq
    rw [Option.isSome_map, hn] at q2
    cases h : atKey xs k with
    | none => rfl
    | some p => rw [h] at q2; cases q2
  refine wpAny_setItem_heap (knd := nestedKind X.prog X.w) (hsz := by rw [← Paired.length r]; exact sz) (show X.A.units + 1 + 8 < cLine by omega) ⟨kis_real I hk rfl, dk⟩ dd fun h' dd' hs => ⟨_, ?_, q⟩
  rw [storedH_new none'] at dd'
  obtain ⟨o', es, ep, e1, e2, e3, e4, _, e5⟩ := dd'
  refine d_write I (by rw [e]; trivial) hs ⟨o', e1⟩ (DNh.ok ⟨z, ?_, _, Paired.snoc r ⟨rfl, rfl, rv⟩, o', es, ep, e1, e2, e3, e4, e5⟩)
  rw [List.length_append, List.length_singleton]
  exact hl
/-- {} -/
def tDNewN (P : Program) (w : World) : TE := fun _ H Q => ∀ p, H p = none → Q (.ref p) (upd H p (DNs P w p []))
theorem pe_dnewN {pos : Pos} : PE X (.Dict [] [] pos) (tDNewN X.prog X.w) :=
  ⟨fun pins s σ H Q I h => wpAny_Dict_empty ⟨.ref s.heap.objs.size, _, I.laid (a := s.heap.objs.size) (t' := s.toks) (fun _ _ q => Heap.get?_push_of_some _ q) (Nat.le_refl _) (DNh.ok (by
    obtain ⟨z, y, xs, r, o, es, ep, e, c⟩ := dt_empty (P := X.prog) (w := X.w) (H := H) s.heap I.big
    cases r
    exact ⟨y, Nat.zero_le _, [], .nil, o, es, ep, e, c.1, c.2.1, c.2.2.1, List.nodup_nil⟩)), rfl, h _ (I.hok.fresh (Nat.le_refl _))⟩⟩
end
end Fw

set_option maxRecDepth 100000
set_option maxHeartbeats 2000000
/-! Two clauses of a comprehension over any walks; x in a tuple, deep; what is kept of tuples. -/
namespace Fw
open PySem PySem.Spec PyProof.Rows L2
section
variable {X : Cx}
def rInT (K : PySem.W.Frag) : R2 := fun x y H Q => ∃ d ds, Dp K H x d ∧ Dp K H y (.tuple ds) ∧ SeqAt.shaped d = true ∧ SeqAt.shaped (.tuple ds) = true ∧ Q (.bl (ds.any fun z => PyData.eqv z d)) H
theorem op_inT (hu : X.A.units + 64 < cLine) : OpR X (compareOp .In) (rInT X.K) := by
  intro pins s σ H x y v u Q I rx ry h
  obtain ⟨d, ds, hd, he, sd, se, q⟩ := h
  obtain ⟨as, r1⟩ := Dp.reads I d x v hd rx
  obtain ⟨bs, r2⟩ := Dp.reads I (.tuple ds) y u he ry
  have hz := SeqAt.shaped
  have : X.A.units + 1 + min (PyData.depthAll ds) d.depth < cLine := by
    have e : (PyData.canLay0 (.tuple ds) && decide (PyData.depth (.tuple ds) ≤ 64)) = true := se
    have := of_decide_eq_true (Bool.and_eq_true_iff.mp e).2
    simp only [PyData.depth] at this
    omega
  exact SeqAt.in_tuple_reads r2 r1 (SeqAt.canLay_of_shaped se) (SeqAt.canLay_of_shaped sd) this ⟨.bl _, H, I, rfl, q⟩
def rNotInL (K : PySem.W.Frag) : R2 := fun x y H Q => ∃ d ds, Dp K H x d ∧ Dp K H y (.list ds) ∧ SeqAt.shaped d = true ∧ SeqAt.shaped (.list ds) = true ∧ Q (.bl (!ds.any fun z => PyData.eqv z d)) H
theorem op_notInL (hu : X.A.units + 64 < cLine) : OpR X (compareOp .NotIn) (rNotInL X.K) := by
  intro pins s σ H x y v u Q I rx ry h
  obtain ⟨d, ds, hd, he, sd, se, q⟩ := h
  obtain ⟨as, r1⟩ := Dp.reads I d x v hd rx
  obtain ⟨bs, r2⟩ := Dp.reads I (.list ds) y u he ry
  have : X.A.units + 1 + min (PyData.depthAll ds) d.depth < cLine := by
    have e : (PyData.canLay0 (.list ds) && decide (PyData.depth (.list ds) ≤ 64)) = true := se
    have := of_decide_eq_true (Bool.and_eq_true_iff.mp e).2
    simp only [PyData.depth] at this
    omega
  exact SeqAt.notIn_list_reads r2 r1 (SeqAt.canLay_of_shaped se) (SeqAt.canLay_of_shaped sd) this ⟨.bl _, H, I, rfl, q⟩
end
theorem in2_it {J : It} {n : Nat} {G : Hp → Prop} {Y : Nat → Hp → V → Hp → Prop} (w : Walk J n G Y) {g : TG} {tt : TT} {te : TE} {vs : List Nat} {σ : L2.St} {H1 : Hp} {D : Addr} {Nx : Hp → Prop} (Pv : Nat → Hp → Prop) (h0 : Pv 0 H1) (hG : ∀ i H, i ≤ n → Pv i H → G H)
    (hs : ∀ i x H H', i < n → Pv i H → Y i H x H' → g x (wipe σ vs) H' fun σ2 H2 => wipe σ2 vs = wipe σ vs ∧ tt σ2 H2 fun b H3 =>
      if b = true then te σ2 H3 fun y H4 => ∃ acc, H4 D = some (.lst acc) ∧ acc.length < sizeLine ∧ Pv (i + 1) (upd H4 D (.lst (acc ++ [y]))) else Pv (i + 1) H3) (hd : ∀ H, Pv n H → Nx H) :
    ∃ W : Nat → Nat → Hp → Prop, (∃ m, W 0 m H1) ∧ ∀ i m H, W i m H →
      (J.stop i H ∧ Nx H) ∨ (J.go i H ∧ ∃ Nx1 : Hp → Prop, (∀ H', Nx1 H' → ∃ m', m' < m ∧ W (i + 1) m' H') ∧ ∀ x H', J.yld i H x H' → g x (wipe σ vs) H' fun σ2 H2 => wipe σ2 vs = wipe σ vs ∧ tt σ2 H2 fun b H3 =>
        if b = true then te σ2 H3 fun y H4 => ∃ acc, H4 D = some (.lst acc) ∧ acc.length < sizeLine ∧ Nx1 (upd H4 D (.lst (acc ++ [y]))) else Nx1 H3) := by
  refine ⟨fun i m H => m = n - i ∧ i ≤ n ∧ Pv i H, ⟨n, by simp, Nat.zero_le _, h0⟩, ?_⟩
  rintro i m H ⟨rfl, hi, p⟩
  have q := hG i H hi p
  by_cases hlt : i < n
  · refine .inr ⟨w.goes i H hlt q, Pv (i + 1), fun H' p' => ⟨n - (i + 1), by omega, rfl, hlt, p'⟩, fun x H' y => hs i x H H' hlt p (w.yields i H x H' hlt q y)⟩
  · have e : i = n := by omega
    subst e
    exact .inl ⟨w.stops H q, hd H p⟩
theorem lc2_it {J : It} {n : Nat} {G : Hp → Prop} {Y : Nat → Hp → V → Hp → Prop} (w : Walk J n G Y) {wi1 : TI} {g g1 : TG} {tt tt1 : TT} {te : TE} {vs vs1 : List Nat} {σ : L2.St} {H1 : Hp} {D : Addr} {Qd : Hp → Prop} (Pv : Nat → Hp → Prop) (h0 : Pv 0 (upd H1 D (.lst []))) (hG : ∀ i H, i ≤ n → Pv i H → G H)
    (hs : ∀ i x H H', i < n → Pv i H → Y i H x H' → g x (wipe σ vs) H' fun σ2 H2 => wipe σ2 vs = wipe σ vs ∧ tt σ2 H2 fun b H3 =>
      if b = true then wi1 σ2 H3 fun J1 H4 => ∃ W1 : Nat → Nat → Hp → Prop, (∃ m, W1 0 m H4) ∧ ∀ j k H, W1 j k H →
        (J1.stop j H ∧ Pv (i + 1) H) ∨ (J1.go j H ∧ ∃ Nx1 : Hp → Prop, (∀ H', Nx1 H' → ∃ k', k' < k ∧ W1 (j + 1) k' H') ∧ ∀ x H', J1.yld j H x H' → g1 x (wipe σ2 vs1) H' fun σ3 H5 => wipe σ3 vs1 = wipe σ2 vs1 ∧ tt1 σ3 H5 fun b H6 =>
          if b = true then te σ3 H6 fun y H7 => ∃ acc, H7 D = some (.lst acc) ∧ acc.length < sizeLine ∧ Nx1 (upd H7 D (.lst (acc ++ [y]))) else Nx1 H6)
      else Pv (i + 1) H3) (hd : ∀ H, Pv n H → Qd H) :
    ∃ W : Nat → Nat → Hp → Prop, (∃ m, W 0 m (upd H1 D (.lst []))) ∧ ∀ i m H, W i m H →
      (J.stop i H ∧ Qd H) ∨ (J.go i H ∧ ∃ Nx : Hp → Prop, (∀ H', Nx H' → ∃ m', m' < m ∧ W (i + 1) m' H') ∧ ∀ x H', J.yld i H x H' → g x (wipe σ vs) H' fun σ2 H2 => wipe σ2 vs = wipe σ vs ∧ tt σ2 H2 fun b H3 =>
        if b = true then wi1 σ2 H3 fun J1 H4 => ∃ W1 : Nat → Nat → Hp → Prop, (∃ m, W1 0 m H4) ∧ ∀ j k H, W1 j k H →
          (J1.stop j H ∧ Nx H) ∨ (J1.go j H ∧ ∃ Nx1 : Hp → Prop, (∀ H', Nx1 H' → ∃ k', k' < k ∧ W1 (j + 1) k' H') ∧ ∀ x H', J1.yld j H x H' → g1 x (wipe σ2 vs1) H' fun σ3 H5 => wipe σ3 vs1 = wipe σ2 vs1 ∧ tt1 σ3 H5 fun b H6 =>
            if b = true then te σ3 H6 fun y H7 => ∃ acc, H7 D = some (.lst acc) ∧ acc.length < sizeLine ∧ Nx1 (upd H7 D (.lst (acc ++ [y]))) else Nx1 H6)
        else Nx H3) := by
  refine ⟨fun i m H => m = n - i ∧ i ≤ n ∧ Pv i H, ⟨n, by simp, Nat.zero_le _, h0⟩, ?_⟩
  rintro i m H ⟨rfl, hi, p⟩
  have q := hG i H hi p
  by_cases hlt : i < n
  · refine .inr ⟨w.goes i H hlt q, Pv (i + 1), fun H' p' => ⟨n - (i + 1), by omega, rfl, hlt, p'⟩, fun x H' y => hs i x H H' hlt p (w.yields i H x H' hlt q y)⟩
  · have e : i = n := by omega
    subst e
    exact .inl ⟨w.stops H q, hd H p⟩
/-- tuples are as they were -/
def TKp (K : PySem.W.Frag) (H H' : Hp) : Prop := ∀ a xs, SqT K H a xs → SqT K H' a xs
theorem TKp.refl (K : PySem.W.Frag) (H : Hp) : TKp K H H := fun _ _ h => h
theorem TKp.trans {K : PySem.W.Frag} {H H1 H2 : Hp} (a : TKp K H H1) (b : TKp K H1 H2) : TKp K H H2 := fun c xs h => b c xs (a c xs h)
theorem TKp.put {K : PySem.W.Frag} {H : Hp} {d : Addr} {o o' : HO} (e : H d = some o) (n1 : ∀ xs, o ≠ .tup xs) (n2 : ∀ u xs, o ≠ .frz u (.tup xs)) : TKp K H (upd H d o') := by
  intro a xs h
  rcases h with h | h
  · rcases h with h | ⟨u, h⟩
    · exact .inl (.inl (by rw [upd_ne (ne_of h e (n1 _).symm)]; exact h))
    · exact .inl (.inr ⟨u, by rw [upd_ne (ne_of h e (n2 _ _).symm)]; exact h⟩)
  · exact .inr h
theorem TKp.lst {K : PySem.W.Frag} {H : Hp} {d : Addr} {ys : List V} {o' : HO} (e : H d = some (.lst ys)) : TKp K H (upd H d o') := TKp.put e (fun _ z => by cases z) (fun _ _ z => by cases z)
theorem TKp.ext {K : PySem.W.Frag} {H : Hp} {d : Addr} {p : Heap → Prop} {o' : HO} (e : H d = some (.ext p)) : TKp K H (upd H d o') := TKp.put e (fun _ z => by cases z) (fun _ _ z => by cases z)
theorem TKp.ins {K : PySem.W.Frag} {H : Hp} {d C dx : Addr} {fs : List (Str × V)} {o' : HO} (e : H d = some (.ins C dx fs)) : TKp K H (upd H d o') := TKp.put e (fun _ z => by cases z) (fun _ _ z => by cases z)
end Fw

set_option maxRecDepth 100000
set_option maxHeartbeats 4000000
/-! dict comprehensions over anything that is walked; dicts of marks -/
namespace Fw
open PySem PySem.Spec PyProof.Rows L2
/-- numbers marked -/
def kvT (S : List Int) : List (Key × V) := S.map fun n => ((Sum.inl n : Key), V.bl true)
theorem valV_T {x : Int} : ∀ {S : List Int}, valV (kvT S) (Sum.inl x) = if x ∈ S then some (V.bl true) else none
  | [] => rfl
  | n :: S => by
    have ih := valV_T (x := x) (S := S)
    by_cases c : n = x
    · subst c
      rw [if_pos List.mem_cons_self]
      exact valV_pos rfl
    · rw [show valV (kvT (n :: S)) (Sum.inl x) = valV (kvT S) (Sum.inl x) from valV_neg fun e => c (Sum.inl.inj e), ih]
      by_cases m : x ∈ S
      · rw [if_pos m, if_pos (List.mem_cons_of_mem _ m)]
      · rw [if_neg m, if_neg fun z => (List.mem_cons.mp z).elim (fun e => c e.symm) m]
def addT (S : List Int) (x : Int) : List Int := if x ∈ S then S else S ++ [x]
theorem put_T (S : List Int) (x : Int) : putK (kvT S) (Sum.inl x) (.bl true) = kvT (addT S x) := by
  unfold putK addT
  rw [valV_any, valV_T]
  by_cases m : x ∈ S
  · rw [if_pos m, if_pos m]
    simp only [Option.isSome_some, if_true]
    unfold kvT
    rw [List.map_map]
    refine List.map_congr_left fun n hn => ?_
    simp only [Function.comp]
    split <;> rfl
  · rw [if_neg m, if_neg m]
    simp only [Option.isSome_none, Bool.false_eq_true, if_false]
    unfold kvT
    rw [List.map_append]
    rfl
theorem addT_new {S : List Int} {x : Int} (h : x ∉ S) : addT S x = S ++ [x] := if_neg h
theorem addT_mem {S : List Int} {x y : Int} : y ∈ addT S x ↔ y ∈ S ∨ y = x := by
  unfold addT
  split
  · rename_i m
    exact ⟨.inl, fun h => h.elim id fun e => by rw [e]; exact m⟩
  · rw [List.mem_append, List.mem_singleton]
theorem addT_nodup {S : List Int} {x : Int} (h : S.Nodup) : (addT S x).Nodup := by
  unfold addT
  split
  · exact h
  · rename_i m
    exact List.nodup_append.mpr ⟨h, by simp, fun a ha b hb e => m (by rw [← List.mem_singleton.mp hb, ← e]; exact ha)⟩
theorem kvT_len (S : List Int) : (kvT S).length = S.length := by simp [kvT]
/-- numbers, each with a list of its own -/
def kvW (ns : List Int) (la : Int → Addr) : List (Key × V) := ns.map fun n => ((Sum.inl n : Key), V.ref (la n))
theorem valV_W {la : Int → Addr} {x : Int} : ∀ {ns : List Int}, valV (kvW ns la) (Sum.inl x) = if x ∈ ns then some (.ref (la x)) else none
  | [] => rfl
  | n :: ns => by
    have ih := valV_W (la := la) (x := x) (ns := ns)
    by_cases c : n = x
    · subst c
      rw [if_pos List.mem_cons_self]
      exact valV_pos rfl
    · rw [show valV (kvW (n :: ns) la) (Sum.inl x) = valV (kvW ns la) (Sum.inl x) from valV_neg fun e => c (Sum.inl.inj e), ih]
      by_cases m : x ∈ ns
      · rw [if_pos m, if_pos (List.mem_cons_of_mem _ m)]
      · rw [if_neg m, if_neg fun z => (List.mem_cons.mp z).elim (fun e => c e.symm) m]
theorem kvW_snoc {ns : List Int} {la : Int → Addr} {x : Int} {a : Addr} (h : x ∉ ns) : putK (kvW ns la) (Sum.inl x) (.ref a) = kvW (ns ++ [x]) (fun y => if y = x then a else la y) := by
  unfold putK
  rw [valV_any, valV_W, if_neg h]
  simp only [Option.isSome_none, Bool.false_eq_true, if_false]
  unfold kvW
  rw [List.map_append]
  congr 1
  · refine List.map_congr_left fun n hn => ?_
    show ((Sum.inl n : Key), V.ref (la n)) = (Sum.inl n, V.ref (if n = x then a else la n))
    rw [if_neg fun e => h (by rw [← e]; exact hn)]
  · show _ = [((Sum.inl x : Key), V.ref (if x = x then a else la x))]
    rw [if_pos rfl]
theorem kvW_len (ns : List Int) (la : Int → Addr) : (kvW ns la).length = ns.length := by simp [kvW]
end Fw

set_option maxRecDepth 100000
set_option maxHeartbeats 8000000
namespace Fw
open PySem PySem.Spec PyProof.Rows L2 GxR
/-- numbers with lists of their own: ways -/
structure Wy (H : Hp) (d : Addr) (ns : List Int) (la : Int → Addr) (E : Int → List Int) : Prop where
  d : H d = some (.dK (kvW ns la))
  ls : ∀ n ∈ ns, IL H (la n) (E n)
  inj : ∀ n ∈ ns, ∀ m ∈ ns, la n = la m → n = m
  nd : ns.Nodup
theorem Wy.same {H H' : Hp} {d : Addr} {ns : List Int} {la : Int → Addr} {E : Int → List Int} (s : Same H H') (h : Wy H d ns la E) : Wy H' d ns la E := ⟨s _ _ h.d, fun n hn => s _ _ (h.ls n hn), h.inj, h.nd⟩
theorem kvW_get {ns : List Int} {la : Int → Addr} {i : Nat} {n : Int} (h : ns[i]? = some n) : (kvW ns la)[i]? = some (Sum.inl n, .ref (la n)) := by unfold kvW; rw [List.getElem?_map, h]; rfl
theorem take_new {ns : List Int} (nd : ns.Nodup) {i : Nat} {n : Int} (h : ns[i]? = some n) : n ∉ ns.take i := fun m => by
  obtain ⟨j, hj, e⟩ := List.getElem_of_mem m
  rw [List.length_take] at hj
  rw [List.getElem_take] at e
  have il := (List.getElem?_eq_some_iff.mp h).1
  have e2 : ns[i] = n := (List.getElem?_eq_some_iff.mp h).2
  have := (List.nodup_iff_pairwise_ne.mp nd)
  have := List.pairwise_iff_getElem.mp this j i (by omega) il (by omega)
  exact this (e.trans e2.symm)
def KpD (d : Addr) (H G : Hp) : Prop := ∀ b o, b ≠ d → H b = some o → G b = some o
section
variable {P : Program} {w : World} {K : PySem.W.Frag} {mg : Str → Option Value} {base : Heap} {C J B WC : Addr}
def spTurn : Sp := fun vs H Q _ => ∃ (d : Addr) (ns : List Int) (la : Int → Addr) (E : Int → List Int), vs = [.ref d] ∧ Wy H d ns la E ∧ ns.length ≤ 900 ∧ (∀ n ∈ ns, (E n).length ≤ 300) ∧
  ∀ (b : Addr) (lb : Int → Addr) (E' : Int → List Int) H', Same H H' → Wy H' b ns lb E' → (∀ n ∈ ns, H (lb n) = none) → (∀ n ∈ ns, ∀ x ∈ E' n, x ∈ ns) → Q (.ref b) H'
theorem ok_turned {f : Addr} {fd : FuncData} (FF : Fun K "turned" "turned" s_turned f fd) (T : Txt K mg C J B) : FnOk P w K mg base CX0 1 f fd a_turned spTurn := by
  refine FF.ok sc_turned (fun vs H Q E h => ?_) (fun cdv A outer s H vs Q E hr h => ?_)
  · obtain ⟨d, ns, la, E, rfl, _⟩ := h
    rfl
  · obtain ⟨d, ns, la, E, rfl, wy, hn, hE, k⟩ := h
    have hu := hu_of hr
    refine ⟨_, (pss_cons (ps_lock (ps_setDc (i := 2) (own := [("node", 1)]) (g := gName 1) rfl sc_turned.nd rfl rfl (swD_true rfl rfl rfl (by decide +kernel)) (pi_keys (pv 0)) (blkOk_by (own := [("node", 1)]) (N := n_turned) (sc := defScope s_turned) (by decide +kernel)) (fun _ _ _ _ _ => (pg_name (i := 1) sc_turned.nd rfl (.inl rfl))) (fun _ _ _ _ _ => pts_nil) (fun _ _ _ _ _ => (pv 1)) (fun _ _ _ _ _ => (pe_lst pa_nil))))
      (pss_cons (ps_lock (ps_for PassesOwn.never rfl (pi_items (pv 0)) (pg_tup rfl (pgs_cons (pg_name (i := 1) sc_turned.nd rfl (.inl rfl)) (pgs_cons (pg_name (i := 3) sc_turned.nd rfl (.inl rfl)) pgs_nil))) (pss_one (ps_for PassesOwn.never rfl (pi_list (pv 3)) (pg_name (i := 4) sc_turned.nd rfl (.inl rfl)) (pss_one (ps_if (pt_cmp (pc_din hu (pv 4) (pv 2))) (pss_one (ps_expr (pe_bm PySem.F.plainAttrs_list PySem.F.slot_list_append PySem.F.type_list_append mt_append (pe_dget hu (pv 2) (pv 4) (fun _ _ => rfl)) (pa_cons (pv 1) pa_nil)))) pss_nil))))))
      (pss_one (ps_ret (pv 2))))), ?_⟩
    have kl := kvW_len ns la
    refine ⟨d, _, wy.d, trivial, fun od => ?_⟩
    refine ⟨.ref d, rfl, d, od, rfl, .inl ⟨kvW ns la, upd_same, fun D hD => ?_⟩⟩
    have nDd : D ≠ d := fun e => by rw [e, upd_same] at hD; cases hD
    have hD0 : H D = none := by rw [upd_ne nDd] at hD; exact hD
    refine dc_it (walk_keys (d := d) (o := od) (kvs := kvW ns la)) (fun i G => ∃ lb : Int → Addr, KpD d H G ∧ G d = some (.frz od (.dK (kvW ns la))) ∧ G D = some (.dK (kvW (ns.take i) lb)) ∧ (∀ n ∈ ns.take i, IL G (lb n) [] ∧ H (lb n) = none) ∧ ∀ n ∈ ns.take i, ∀ m ∈ ns.take i, lb n = lb m → n = m)
      ⟨fun _ => D, fun b o n e => by rw [upd_ne (ne_of_none e hD0), upd_ne n]; exact e, by rw [upd_ne nDd.symm, upd_same], by rw [upd_same]; rfl, (fun n hn => by simp at hn), fun n hn => by simp at hn⟩ (fun i G _ ⟨_, _, g, _⟩ => g) ?_ ?_
    · rintro i x G0 G hi ⟨lb, kp, gd, gD, ls, inj⟩ ⟨rfl, kk, vv, hkv, rfl⟩
      rw [kl] at hi
      have hx : ns[i]? = some ns[i] := List.getElem?_eq_getElem hi
      rw [kvW_get hx] at hkv
      obtain ⟨rfl, rfl⟩ := Prod.mk.inj (Option.some.inj hkv)
      generalize ns[i] = n at hx
      have nn := take_new wy.nd hx
      have tk : ns.take (i + 1) = ns.take i ++ [n] := by rw [List.take_add_one, hx]; rfl
      refine ⟨rfl, .int n, rfl, Nat.zero_le _, fun q hq => ?_⟩
      have s1 := Same.new (o := .lst []) hq
      have nqD : q ≠ D := (ne_of_none gD hq).symm
      have nqd : q ≠ d := (ne_of_none gd hq).symm
      have nHq : H q = none := by
        cases e : H q with
        | none => rfl
        | some u => rw [kp _ _ nqd e] at hq; cases hq
      refine ⟨_, Sum.inl n, rfl, s1 _ _ gD, by rw [kvW_len, List.length_take]; exact small1000 (by omega), fun y => if y = n then q else lb y, fun b o nb e => by rw [upd_ne (ne_of_none e hD0)]; exact s1 _ _ (kp b o nb e), by rw [upd_ne nDd.symm]; exact s1 _ _ gd, by rw [upd_same, kvW_snoc nn, tk], fun m hm => ?_, fun m hm m' hm' e => ?_⟩
      · show IL _ (if m = n then q else lb m) [] ∧ H (if m = n then q else lb m) = none
        rw [tk] at hm
        rcases List.mem_append.mp hm with hm | hm
        · have hne : m ≠ n := fun e => nn (by rw [← e]; exact hm)
          obtain ⟨l1, l2⟩ := ls m hm
          rw [if_neg hne]
          refine ⟨?_, l2⟩
          show _ = _
          rw [upd_ne (ne_of l1 gD (by intro z; cases z))]
          exact s1 _ _ l1
        · rw [List.mem_singleton] at hm
          subst hm
          rw [if_pos rfl]
          refine ⟨?_, nHq⟩
          show _ = _
          rw [upd_ne nqD, upd_same]
          rfl
      · have old : ∀ z ∈ ns.take i, lb z ≠ q := fun z hz e => by
          have := (ls z hz).1
          rw [e] at this
          have z2 : G q = some _ := this
          rw [hq] at z2
          cases z2
        rw [tk] at hm hm'
        simp only at e
        rcases List.mem_append.mp hm with hm | hm <;> rcases List.mem_append.mp hm' with hm' | hm'
        · rw [if_neg fun z => nn (by rw [← z]; exact hm), if_neg fun z => nn (by rw [← z]; exact hm')] at e
          exact inj m hm m' hm' e
        · rw [List.mem_singleton] at hm'
          rw [if_neg fun z => nn (by rw [← z]; exact hm), if_pos hm'] at e
          exact absurd e (old m hm)
        · rw [List.mem_singleton] at hm
          rw [if_pos hm, if_neg fun z => nn (by rw [← z]; exact hm')] at e
          exact absurd e.symm (old m' hm')
        · rw [List.mem_singleton] at hm hm'
          rw [hm, hm']
    rintro G ⟨lb, kp, gd, gD, ls, inj⟩
    rw [kl, List.take_length] at gD ls inj
    refine ⟨gd, ?_⟩
    have s1 : Same H (upd G d (.dK (kvW ns la))) := fun b o e => by
      by_cases c : b = d
      · rw [c, upd_same, ← wy.d, ← c, e]
      · rw [upd_ne c]
        exact kp b o c e
    have w1 : Wy (upd G d (.dK (kvW ns la))) D ns lb (fun _ => []) := ⟨by rw [upd_ne nDd]; exact gD, fun n hn => by
      show _ = _
      rw [upd_ne (ne_of (ls n hn).1 gd (by intro z; cases z))]
      exact (ls n hn).1, inj, wy.nd⟩
    have nlb : ∀ n ∈ ns, H (lb n) = none := fun n hn => (ls n hn).2
    generalize upd G d (.dK (kvW ns la)) = H1 at s1 w1
    have wy1 := wy.same s1
    refine ⟨d, _, wy1.d, trivial, fun od2 => ?_⟩
    have nDd1 : ∀ n ∈ ns, lb n ≠ d := fun n hn e => by
      have := wy.d
      rw [← e, nlb n hn] at this
      cases this
    refine ⟨.ref d, rfl, d, od2, kvW ns la, rfl, upd_same, for_it (walk_items (d := d) (o := od2) (kvs := kvW ns la)) (fun i σ G => ∃ (y1 y3 y4 : Option V) (E' : Int → List Int), σ = [some (.ref d), y1, some (.ref D), y3, y4] ∧ KpD d H G ∧ G d = some (.frz od2 (.dK (kvW ns la))) ∧ G D = some (.dK (kvW ns lb)) ∧ ∀ n ∈ ns, IL G (lb n) (E' n) ∧ (∀ x ∈ E' n, x ∈ ns) ∧ (E' n).length ≤ 300 * i)
      ⟨none, none, none, fun _ => [], rfl, fun b o n e => by rw [upd_ne n]; exact s1 _ _ e, upd_same, by rw [upd_ne nDd]; exact w1.d, fun n hn => ⟨by show _ = _; rw [upd_ne (nDd1 n hn)]; exact w1.ls n hn, (fun x hx => by cases hx), Nat.zero_le _⟩⟩ (fun i σ G _ ⟨_, _, _, _, _, _, g, _⟩ => g) ?_ ?_⟩
    · rintro i x σ G0 G hi ⟨y1, y3, y4, E', rfl, kp, gd, gD, ls⟩ ⟨tp, x1, x2, rfl, htp, rfl, e1, e2⟩
      rw [kl] at hi
      have hx : ns[i]? = some ns[i] := List.getElem?_eq_getElem hi
      simp only [kvW_get hx, Option.map_some, Option.some.injEq] at e1 e2
      subst e1
      subst e2
      have hnm : ns[i] ∈ ns := List.getElem_mem hi
      generalize ns[i] = n at hx hnm
      have st := Same.new (o := .tup [V.int n, .ref (la n)]) htp
      have tT : SqT K (upd G0 tp (.tup [V.int n, .ref (la n)])) tp [.int n, .ref (la n)] := SqT.of upd_same
      have kp1 : KpD d H (upd G0 tp (.tup [V.int n, .ref (la n)])) := fun b o nb e => st _ _ (kp b o nb e)
      have gd1 := st _ _ gd
      have gD1 := st _ _ gD
      have ls1 : ∀ n' ∈ ns, IL (upd G0 tp (.tup [V.int n, .ref (la n)])) (lb n') (E' n') ∧ (∀ x ∈ E' n', x ∈ ns) ∧ (E' n').length ≤ 300 * i := fun n' h' => ⟨st _ _ (ls n' h').1, (ls n' h').2⟩
      show gTup _ _ _ _ _ (upd G0 tp (.tup [V.int n, .ref (la n)])) _
      generalize upd G0 tp (.tup [V.int n, .ref (la n)]) = G1 at tT kp1 gd1 gD1 ls1
      refine ⟨tp, _, rfl, tT, rfl, .int n, _, rfl, .ref (la n), _, rfl, rfl, ?_⟩
      have nla : ∀ n' ∈ ns, la n' ≠ d := fun n' h' => ne_of (wy.ls n' h') wy.d (by intro z; cases z)
      have eL := hE n hnm
      refine ⟨.ref (la n), rfl, la n, rfl, ⟨_, SqL.of (kp1 _ _ (nla n hnm) (wy.ls n hnm))⟩, for_list (xs := (E n).map V.int) (fun j σ G => ∃ (y4 : Option V) (E' : Int → List Int), σ = [some (.ref d), some (.int n), some (.ref D), some (.ref (la n)), y4] ∧ KpD d H G ∧ G d = some (.frz od2 (.dK (kvW ns la))) ∧ G D = some (.dK (kvW ns lb)) ∧ ∀ n ∈ ns, IL G (lb n) (E' n) ∧ (∀ x ∈ E' n, x ∈ ns) ∧ (E' n).length ≤ 300 * i + j)
        ⟨_, E', rfl, kp1, gd1, gD1, ls1⟩ (fun j σ G _ ⟨_, _, _, kp2, _⟩ => SqL.of (kp2 _ _ (nla n hnm) (wy.ls n hnm))) ?_ ?_⟩
      · rintro j x σ G hj ⟨y4, E2, rfl, kp2, gd2, gD2, ls2⟩
        obtain ⟨x, hxj, rfl⟩ := ints_nth hj
        have jl := (List.getElem?_eq_some_iff.mp hxj).1
        refine ⟨.int x, rfl, .ref D, rfl, D, _, rfl, DGet.k (k := Sum.inl x) gD2, _, rfl, ?_⟩
        rw [valV_W]
        by_cases m : x ∈ ns
        · rw [if_pos m]
          refine iteT ?_
          obtain ⟨g1, g2, g3⟩ := ls2 x m
          refine ⟨.ref D, rfl, .int x, rfl, D, .ref (lb x), rfl, by have := DGet.k (k := Sum.inl x) gD2; rw [valV_W, if_pos m] at this; exact this, .inl ⟨rfl, _, SqL.of g1⟩, .int n, rfl, lb x, _, _, rfl, rfl, g1, ?_, ?_⟩
          · rw [List.length_map]
            show _ < 16777216
            omega
          · refine ⟨_, fun y => if y = x then E2 x ++ [n] else E2 y, rfl, fun b o nb e => ?_, ?_, ?_, fun y hy => ?_⟩
            · rw [upd_ne (ne_of_none e (nlb x m))]
              exact kp2 b o nb e
            · rw [upd_ne (nDd1 x m).symm]
              exact gd2
            · rw [upd_ne (ne_of gD2 g1 (by intro z; cases z))]
              exact gD2
            · show IL _ (lb y) (if y = x then E2 x ++ [n] else E2 y) ∧ (∀ z ∈ (if y = x then E2 x ++ [n] else E2 y), z ∈ ns) ∧ (if y = x then E2 x ++ [n] else E2 y).length ≤ _
              by_cases c : y = x
              · subst c
                rw [if_pos rfl]
                refine ⟨by show _ = _; rw [upd_same, List.map_append]; rfl, fun z hz => ?_, by rw [List.length_append, List.length_singleton]; omega⟩
                rcases List.mem_append.mp hz with hz | hz
                · exact g2 z hz
                · rw [List.mem_singleton.mp hz]; exact hnm
              · rw [if_neg c]
                obtain ⟨h1, h2, h3⟩ := ls2 y hy
                exact ⟨by show _ = _; rw [upd_ne fun e => c (w1.inj y hy x m e)]; exact h1, h2, by omega⟩
        · rw [if_neg m]
          refine iteF ?_
          exact ⟨_, E2, rfl, kp2, gd2, gD2, fun y hy => ⟨(ls2 y hy).1, (ls2 y hy).2.1, by have := (ls2 y hy).2.2; omega⟩⟩
      · rintro σ G ⟨y4, E2, rfl, kp2, gd2, gD2, ls2⟩
        rw [List.length_map] at ls2
        exact ⟨_, _, _, E2, rfl, kp2, gd2, gD2, fun y hy => ⟨(ls2 y hy).1, (ls2 y hy).2.1, by have := (ls2 y hy).2.2; omega⟩⟩
    · rintro σ G ⟨y1, y3, y4, E', rfl, kp, gd, gD, ls⟩
      refine ⟨gd, .ref D, rfl, ?_⟩
      have sF : Same H (upd G d (.dK (kvW ns la))) := fun b o e => by
        by_cases c : b = d
        · rw [c, upd_same, ← wy.d, ← c, e]
        · rw [upd_ne c]
          exact kp b o c e
      exact k D lb E' _ sF ⟨by rw [upd_ne nDd]; exact gD, fun n hn => by show _ = _; rw [upd_ne (nDd1 n hn)]; exact (ls n hn).1, w1.inj, wy.nd⟩ nlb fun n hn => (ls n hn).2.1
end
end Fw

set_option maxRecDepth 100000
set_option maxHeartbeats 8000000
namespace Fw
open PySem PySem.Spec PyProof.Rows L2 GxR
theorem getW {H : Hp} {d : Addr} {ns : List Int} {la : Int → Addr} {E : Int → List Int} (h : Wy H d ns la E) {x : Int} (m : x ∈ ns) : DGet H d (.int x) (some (.ref (la x))) := by
  have := DGet.k (k := Sum.inl x) h.d
  rwa [valV_W, if_pos m] at this
theorem getT {H : Hp} {t : Addr} {S : List Int} (h : H t = some (.dK (kvT S))) (x : Int) : DGet H t (.int x) (if x ∈ S then some (V.bl true) else none) := by
  have := DGet.k (k := Sum.inl x) h
  rwa [valV_T] at this
theorem putTn {H : Hp} {t : Addr} {S : List Int} (h : H t = some (.dK (kvT S))) (x : Int) (l : S.length ≤ 900) : DPut H t (.int x) (.bl true) (upd H t (.dK (kvT (addT S x)))) := by
  have := DPut.k (k := Sum.inl x) (v := V.bl true) h (by rw [kvT_len]; exact small1000 (by omega))
  rwa [put_T] at this
section
variable {P : Program} {w : World} {K : PySem.W.Frag} {mg : Str → Option Value} {base : Heap} {C J B WC : Addr}
def spFlood : Sp := fun vs H Q _ => ∃ (s : Int) (d t : Addr) (ns : List Int) (la : Int → Addr) (E : Int → List Int) (S : List Int), vs = [.int s, .ref d, .ref t] ∧ Wy H d ns la E ∧ (∀ n ∈ ns, ∀ x ∈ E n, x ∈ ns) ∧ ns.length ≤ 900 ∧ H t = some (.dK (kvT S)) ∧ S.Nodup ∧ (∀ x ∈ S, x ∈ ns) ∧ s ∈ ns ∧ s ∉ S ∧
  ∀ (l : Addr) (F : List Int) H', (∀ b o, b ≠ t → H b = some o → H' b = some o) → H' t = some (.dK (kvT (S ++ F))) → H l = none → IL H' l F → (S ++ F).Nodup → (∀ x ∈ F, x ∈ ns) → s ∈ F → Q (.ref l) H'
theorem ok_flood {f : Addr} {fd : FuncData} (FF : Fun K "flood" "flood" s_flood f fd) (T : Txt K mg C J B) : FnOk P w K mg base CX0 1 f fd a_flood spFlood := by
  refine FF.ok sc_flood (fun vs H Q E h => ?_) (fun cdv A outer s H vs Q E hr h => ?_)
  · obtain ⟨s, d, t, ns, la, E, S, rfl, _⟩ := h
    rfl
  · obtain ⟨s, d, t, ns, la, E, S, rfl, wy, cl, hn, ht, nd, sub, hs, hsS, k⟩ := h
    have hu := hu_of hr
    have room : ∀ {X : List Int}, X.Nodup → (∀ x ∈ X, x ∈ ns) → X.length ≤ ns.length := fun n m => nodup_le n m
    refine ⟨_, (pss_cons (ps_set (i := 3) sc_flood.nd rfl (.inl rfl) (pe_lst (pa_cons (pv 0) pa_nil)))
      (pss_cons (ps_dput hu (pv 2) (pv 0) pe_bl rfl)
      (pss_cons (ps_set (i := 4) sc_flood.nd rfl (.inl rfl) pe_int)
      (pss_cons (ps_while PassesOwn.never (pt_cmpR op_lt (pv 4) (pe_callB call_len_seq rfl T.z_len (by decide +kernel) (pa_cons (pv 3) pa_nil)) (nomark _)) (pss_cons (ps_for PassesOwn.never rfl (pi_list (pe_dget hu (pv 1) (pe_ix ix_list (pv 3) (pv 4) (fun _ _ => rfl)) (fun _ _ => rfl))) (pg_name (i := 5) sc_flood.nd rfl (.inl rfl)) (pss_one (ps_if (pt_cmp (pc_dnotin hu (pv 5) (pv 2))) (pss_cons (ps_dput hu (pv 2) (pv 5) pe_bl rfl)
      (pss_one (ps_expr (pe_bm PySem.F.plainAttrs_list PySem.F.slot_list_append PySem.F.type_list_append mt_append (pv 3) (pa_cons (pv 5) pa_nil))))) pss_nil)))
      (pss_one (ps_aug (i := 4) sc_flood.nd rfl (.inl rfl) pe_int ip_add))))
      (pss_one (ps_ret (pv 3))))))), ?_⟩
    refine ⟨.int s, rfl, by show 1 ≤ sizeLine; decide, fun l hl => ?_⟩
    have s1 := Same.new (o := .lst [.int s]) hl
    have l1 : IL (upd H l (.lst [.int s])) l [s] := upd_same
    have ntl : t ≠ l := ne_of_none ht hl
    have nld : l ≠ d := fun e => by rw [e, wy.d] at hl; cases hl
    refine ⟨.ref t, rfl, .int s, rfl, t, _, rfl, putTn (s1 _ _ ht) s (by have := room nd sub; omega), ?_⟩
    rw [addT_new hsS]
    have ndt : d ≠ t := fun e => by
      have h1 := wy.d
      rw [e, ht] at h1
      have h2 := congrArg (fun o => match o with | some (HO.dK kvs) => valV kvs (Sum.inl s) | _ => none) h1
      simp only [valV_W, valV_T, if_pos hs, if_neg hsS] at h2
      cases h2
    have nlt : ∀ n ∈ ns, la n ≠ t := fun n h => ne_of (wy.ls n h) ht (by intro z; cases z)
    have bt : ∀ b o, b ≠ t → H b = some o → (upd (upd H l (.lst [.int s])) t (.dK (kvT (S ++ [s])))) b = some o := fun b o n e => by rw [upd_ne n]; exact s1 _ _ e
    have gt : (upd (upd H l (.lst [.int s])) t (.dK (kvT (S ++ [s])))) t = some (.dK (kvT (S ++ [s]))) := upd_same
    have gl : IL (upd (upd H l (.lst [.int s])) t (.dK (kvT (S ++ [s])))) l [s] := by show _ = _; rw [upd_ne ntl.symm]; exact l1
    generalize upd (upd H l (.lst [.int s])) t (.dK (kvT (S ++ [s]))) = H1 at bt gt gl
    have nd1 : (S ++ [s]).Nodup := List.nodup_append.mpr ⟨nd, by simp, fun a ha b hb e => hsS (by rw [← List.mem_singleton.mp hb, ← e]; exact ha)⟩
    refine ⟨fun m σ G => ∃ (dn : Nat) (F : List Int) (y5 : Option V), σ = [some (.int s), some (.ref d), some (.ref t), some (.ref l), some (.int (dn : Nat)), y5] ∧ (∀ b o, b ≠ t → H b = some o → G b = some o) ∧ G t = some (.dK (kvT (S ++ F))) ∧ IL G l F ∧ (S ++ F).Nodup ∧ (∀ x ∈ F, x ∈ ns) ∧ s ∈ F ∧ dn ≤ F.length ∧ m = ns.length - dn,
      ⟨_, 0, [s], none, rfl, bt, gt, gl, nd1, fun x hx => by rw [List.mem_singleton.mp hx]; exact hs, List.mem_singleton.mpr rfl, Nat.zero_le _, rfl⟩, ?_⟩
    rintro m σ G ⟨dn, F, y5, rfl, bG, gt, gl, nF, sF, hsF, dF, rfl⟩
    have lF : F.length ≤ ns.length := room (List.nodup_append.mp nF).2.1 sF
    refine ⟨.int (dn : Nat), rfl, .ref l, rfl, l, _, rfl, .inl (SqL.of gl), _, _, rfl, rfl, _, rfl, ?_⟩
    rw [List.length_map]
    refine ite2 (fun c => ?_) (fun c => ?_)
    · have lt : dn < F.length := by have := of_decide_eq_true c; omega
      refine ⟨_, fun σ' H' z => z, ?_⟩
      have hx : F[dn]? = some F[dn] := List.getElem?_eq_getElem lt
      have hm := sF _ (List.getElem_mem lt)
      generalize F[dn] = n at hx hm
      have wyG : Wy G d ns la E := ⟨bG _ _ ndt wy.d, fun n h => bG _ _ (nlt n h) (wy.ls n h), wy.inj, wy.nd⟩
      refine ⟨.ref d, rfl, .ref l, rfl, .int (dn : Nat), rfl, l, _, _, .int n, rfl, rfl, SqL.of gl, atI_nat (j := dn) (by rw [List.getElem?_map, hx]; rfl), d, .ref (la n), rfl, getW wyG hm, la n, rfl, ⟨_, SqL.of (wyG.ls n hm)⟩, ?_⟩
      refine for_list (xs := (E n).map V.int) (fun j σ G => ∃ (F2 : List Int) (y5 : Option V), σ = [some (.int s), some (.ref d), some (.ref t), some (.ref l), some (.int (dn : Nat)), y5] ∧ (∀ b o, b ≠ t → H b = some o → G b = some o) ∧ G t = some (.dK (kvT (S ++ F2))) ∧ IL G l F2 ∧ (S ++ F2).Nodup ∧ (∀ x ∈ F2, x ∈ ns) ∧ s ∈ F2 ∧ dn < F2.length)
        ⟨F, y5, rfl, bG, gt, gl, nF, sF, hsF, lt⟩ (fun j σ G _ ⟨_, _, _, b2, _⟩ => SqL.of (b2 _ _ (nlt n hm) (wy.ls n hm))) ?_ ?_
      · rintro j x σ G hj ⟨F2, y5, rfl, bG, gt, gl, nF, sF, hsF, lt⟩
        obtain ⟨x, hxj, rfl⟩ := ints_nth hj
        have xn : x ∈ ns := cl n hm x (List.mem_of_getElem? hxj)
        have lS : (S ++ F2).length ≤ ns.length := room nF fun z hz => (List.mem_append.mp hz).elim (sub z) (sF z)
        refine ⟨.int x, rfl, .ref t, rfl, t, _, rfl, getT gt x, _, rfl, ?_⟩
        by_cases mm : x ∈ S ++ F2
        · rw [if_pos mm]
          refine iteF ?_
          exact ⟨F2, _, rfl, bG, gt, gl, nF, sF, hsF, lt⟩
        · rw [if_neg mm]
          refine iteT ?_
          refine ⟨.ref t, rfl, .int x, rfl, t, _, rfl, putTn gt x (by omega), ?_⟩
          rw [addT_new mm]
          have gl2 : IL (upd G t (.dK (kvT (S ++ F2 ++ [x])))) l F2 := by show _ = _; rw [upd_ne ntl.symm]; exact gl
          refine ⟨.ref l, rfl, .inl ⟨rfl, _, SqL.of gl2⟩, .int x, rfl, l, _, _, rfl, rfl, gl2, by rw [List.length_map]; rw [List.length_append] at lS; exact small1000 (by omega), F2 ++ [x], _, rfl, fun b o nb e => ?_, ?_, ?_, ?_, fun z hz => ?_, List.mem_append_left _ hsF, ?_⟩
          · rw [upd_ne (ne_of_none e hl), upd_ne nb]
            exact bG b o nb e
          · rw [upd_ne ntl, upd_same, List.append_assoc]
          · show _ = _
            rw [upd_same, List.map_append]
            rfl
          · rw [← List.append_assoc]
            exact List.nodup_append.mpr ⟨nF, by simp, fun a ha b hb e => mm (by rw [← List.mem_singleton.mp hb, ← e]; exact ha)⟩
          · rcases List.mem_append.mp hz with hz | hz
            · exact sF z hz
            · rw [List.mem_singleton.mp hz]; exact xn
          · rw [List.length_append]; omega
      · rintro σ G ⟨F2, y5, rfl, bG, gt, gl, nF, sF, hsF, lt⟩
        have lF2 : F2.length ≤ ns.length := room (List.nodup_append.mp nF).2.1 sF
        refine ⟨_, rfl, _, _, rfl, rfl, ns.length - (dn + 1), by omega, dn + 1, F2, y5, rfl, bG, gt, gl, nF, sF, hsF, by omega, rfl⟩
    · exact ⟨.ref l, rfl, k l F G bG gt hl gl nF sF hsF⟩
end
end Fw

set_option maxRecDepth 100000
set_option maxHeartbeats 8000000
namespace Fw
open PySem PySem.Spec PyProof.Rows L2 GxR
theorem at_last {xs : List V} {y : V} : atI (xs ++ [y]) (-1) = some y := by
  unfold atI ixN
  rw [if_neg (by decide), List.length_append, List.length_singleton, if_pos (by omega)]
  show (xs ++ [y])[_]? = _
  rw [show (-1 + ((xs.length + 1 : Nat) : Int)).toNat = xs.length by omega, List.getElem?_append_right (Nat.le_refl _), Nat.sub_self]
  rfl
theorem getF {G : Hp} {d : Addr} {od : Obj} {ns : List Int} {la : Int → Addr} (gd : G d = some (.frz od (.dK (kvW ns la)))) (x : Int) : DGet G d (.int x) (if x ∈ ns then some (.ref (la x)) else none) :=
  .inl ⟨kvW ns la, Sum.inl x, .inr ⟨od, gd⟩, rfl, valV_W.symm⟩
theorem putTg {H : Hp} {t : Addr} {S : List Int} (h : H t = some (.dK (kvT S))) (x : Int) (l : S.length ≤ 900) : DPut H t (.int x) (.bl true) (upd H t (.dK (kvT (addT S x)))) := putTn h x l
/-- what is still to be seen -/
def wgt (E : Int → List Int) (S : List Int) : List Int → Nat
  | [] => 0
  | n :: ns => (if n ∈ S then 0 else 1 + (E n).length) + wgt E S ns
theorem wgt_le {E : Int → List Int} {S : List Int} {x : Int} : ∀ ns : List Int, wgt E (S ++ [x]) ns ≤ wgt E S ns
  | [] => Nat.le_refl _
  | n :: ns => by
    have ih := wgt_le (E := E) (S := S) (x := x) ns
    unfold wgt
    by_cases c : n ∈ S
    · rw [if_pos c, if_pos (List.mem_append_left _ c)]; omega
    · rw [if_neg c]; split <;> omega
theorem wgt_add {E : Int → List Int} {S : List Int} {x : Int} (hx : x ∉ S) : ∀ {ns : List Int}, x ∈ ns → wgt E (S ++ [x]) ns + (1 + (E x).length) ≤ wgt E S ns
  | n :: ns, h => by
    unfold wgt
    by_cases c : n = x
    · subst c
      rw [if_pos (List.mem_append_right _ (List.mem_singleton.mpr rfl)), if_neg hx]
      have := wgt_le (E := E) (S := S) (x := n) ns
      omega
    · have ih := wgt_add hx (E := E) ((List.mem_cons.mp h).resolve_left fun e => c e.symm)
      by_cases m : n ∈ S
      · rw [if_pos m, if_pos (List.mem_append_left _ m)]; omega
      · rw [if_neg m, if_neg fun z => (List.mem_append.mp z).elim m fun z => c (List.mem_singleton.mp z)]; omega
section
variable {P : Program} {w : World} {K : PySem.W.Frag} {mg : Str → Option Value} {base : Heap} {C J B WC : Addr}
def spFin : Sp := fun vs H Q _ => ∃ (d : Addr) (ns : List Int) (la : Int → Addr) (E : Int → List Int), vs = [.ref d] ∧ Wy H d ns la E ∧ ns.length ≤ 900 ∧ (∀ n ∈ ns, (E n).length ≤ 300) ∧
  ∀ (l : Addr) (X : List Int) H', Same H H' → H l = none → IL H' l X → X.Nodup → (∀ x, x ∈ X ↔ x ∈ ns) → Q (.ref l) H'
theorem ok_finished {f : Addr} {fd : FuncData} (FF : Fun K "finished" "finished" s_finished f fd) (T : Txt K mg C J B) : FnOk P w K mg base CX0 1 f fd a_finished spFin := by
  refine FF.ok sc_finished (fun vs H Q E h => ?_) (fun cdv A outer s0 H vs Q E hr h => ?_)
  · obtain ⟨d, ns, la, E, rfl, _⟩ := h
    rfl
  · obtain ⟨d, ns, la, E, rfl, wy, hn, hE, k⟩ := h
    have hu := hu_of hr
    refine ⟨_, (pss_cons (ps_set (i := 1) sc_finished.nd rfl (.inr rfl) pe_dnewK)
      (pss_cons (ps_set (i := 2) sc_finished.nd rfl (.inl rfl) pe_dnewK)
      (pss_cons (ps_lock (ps_for PassesOwn.never rfl (pi_keys (pv 0)) (pg_name (i := 3) sc_finished.nd rfl (.inl rfl)) (pss_cons (ps_set (i := 4) sc_finished.nd rfl (.inl rfl) (pe_lst (pa_cons (pv 3) pa_nil)))
      (pss_one (ps_while PassesOwn.never (pt_truth (pv 4) (by intro _; rfl)) (pss_cons (ps_set (i := 5) sc_finished.nd rfl (.inl rfl) (pe_ix ix_list (pv 4) (pe_un un_neg pe_int) (fun _ _ => rfl)))
      (pss_one (ps_if (pt_cmp (pc_dnotin hu (pv 5) (pv 1))) (pss_cons (ps_dput hu (pv 1) (pv 5) pe_bl rfl)
      (pss_one (ps_expr (pe_bm PySem.F.plainAttrs_list PySem.F.slot_list_extend PySem.F.type_list_extend mt_extend (pv 4) (pa_cons (pe_lc (own := [("end", 6)]) (g := gName 6) rfl sc_finished.nd (pi_list (pe_dget hu (pv 0) (pv 5) (fun _ _ => rfl))) (blkOk_by (own := [("end", 6)]) (N := n_finished) (sc := defScope s_finished) (by decide +kernel)) (fun _ _ _ _ _ => (pg_name (i := 6) sc_finished.nd rfl (.inl rfl))) (fun _ _ _ _ _ => (pts_one (PW.pt (pw_and (pt_cmp (pc_din hu (pv 6) (pv 0))) (pw_and1 (pt_cmp (pc_dnotin hu (pv 6) (pv 1)))))))) (fun _ _ _ _ _ => (pv 6))) pa_nil))))) (pss_cons (ps_expr (pe_bm0 PySem.F.plainAttrs_list PySem.F.slot_list_pop PySem.F.type_list_pop mt_pop (pv 4)))
      (pss_one (ps_dput hu (pv 2) (pv 5) pe_bl rfl)))))))))))
      (pss_one (ps_ret (pe_callTy (call_list_dK rfl) rfl T.z_list (by decide +kernel) (pa_cons (pv 2) pa_nil))))))), ?_⟩
    have kl := kvW_len ns la
    have room : ∀ {X : List Int}, X.Nodup → (∀ x ∈ X, x ∈ ns) → X.length ≤ ns.length := fun n m => nodup_le n m
    intro s hs
    intro t ht
    have nsH : H s = none := hs
    have nts : t ≠ s := fun e => by rw [e, upd_same] at ht; cases ht
    have ntH : H t = none := by rw [upd_ne nts] at ht; exact ht
    have ndd : ∀ b, H b = none → b ≠ d := fun b e z => by rw [z, wy.d] at e; cases e
    have nsd := ndd _ nsH
    have ntd := ndd _ ntH
    have nla : ∀ n ∈ ns, la n ≠ d := fun n h => ne_of (wy.ls n h) wy.d (by intro z; cases z)
    have gd0 : (upd (upd H s (.dK [])) t (.dK [])) d = some (.dK (kvW ns la)) := by rw [upd_ne ntd.symm, upd_ne nsd.symm]; exact wy.d
    refine ⟨d, _, gd0, trivial, fun od => ?_⟩
    refine ⟨.ref d, rfl, d, od, rfl, .inl ⟨kvW ns la, upd_same, ?_⟩⟩
    refine for_it (walk_keys (d := d) (o := od) (kvs := kvW ns la)) (fun i σ G => ∃ (y3 y4 y5 : Option V) (S L : List Int), σ = [some (.ref d), some (.ref s), some (.ref t), y3, y4, y5, none] ∧ KpD d H G ∧ G d = some (.frz od (.dK (kvW ns la))) ∧ G s = some (.dK (kvT S)) ∧ G t = some (.dK (kvT L)) ∧ S.Nodup ∧ (∀ x ∈ S, x ∈ ns) ∧ L.Nodup ∧ (∀ x ∈ L, x ∈ ns) ∧ ∀ x ∈ ns.take i, x ∈ L)
      ⟨none, none, none, [], [], rfl, fun b o n e => by rw [upd_ne n, upd_ne (ne_of_none e ntH), upd_ne (ne_of_none e nsH)]; exact e, upd_same, by rw [upd_ne nsd, upd_ne nts.symm, upd_same]; rfl, by rw [upd_ne ntd, upd_same]; rfl, List.nodup_nil, (fun x hx => by cases hx), List.nodup_nil, (fun x hx => by cases hx), fun x hx => by simp at hx⟩ (fun i σ G _ ⟨_, _, _, _, _, _, _, g, _⟩ => g) ?_ ?_
    · rintro i x σ G0 G hi ⟨y3, y4, y5, S, L, rfl, kp, gd, gs, gt, nS, sS, nL, sL, hL⟩ ⟨rfl, kk, vv, hkv, rfl⟩
      rw [kl] at hi
      have hx : ns[i]? = some ns[i] := List.getElem?_eq_getElem hi
      have hm : ns[i] ∈ ns := List.getElem_mem hi
      rw [kvW_get hx] at hkv
      obtain ⟨rfl, rfl⟩ := Prod.mk.inj (Option.some.inj hkv)
      generalize ns[i] = n at hx hm
      have tk : ns.take (i + 1) = ns.take i ++ [n] := by rw [List.take_add_one, hx]; rfl
      refine ⟨.int n, rfl, by show 1 ≤ sizeLine; decide, fun l hl => ?_⟩
      have nHl : H l = none := by
        cases e : H l with
        | none => rfl
        | some u => rw [kp _ _ (fun z => by rw [z, gd] at hl; cases hl) e] at hl; cases hl
      have nld := ndd _ nHl
      have nls : l ≠ s := (ne_of_none gs hl).symm
      have nlt : l ≠ t := (ne_of_none gt hl).symm
      refine ⟨fun m σ G => ∃ (W S L : List Int) (y5 : Option V), σ = [some (.ref d), some (.ref s), some (.ref t), some (.int n), some (.ref l), y5, none] ∧ KpD d H G ∧ G d = some (.frz od (.dK (kvW ns la))) ∧ G s = some (.dK (kvT S)) ∧ G t = some (.dK (kvT L)) ∧ IL G l W ∧ S.Nodup ∧ (∀ x ∈ S, x ∈ ns) ∧ L.Nodup ∧ (∀ x ∈ L, x ∈ ns) ∧ (∀ x ∈ ns.take i, x ∈ L) ∧ (∀ x ∈ W, x ∈ ns) ∧ (n ∈ W ∨ n ∈ L) ∧ W.length ≤ 1 + 300 * S.length ∧ m = wgt E S ns + W.length,
        ⟨_, [n], S, L, y5, rfl, fun b o nb e => by rw [upd_ne (ne_of_none e nHl)]; exact kp b o nb e, by rw [upd_ne nld.symm]; exact gd, by rw [upd_ne nls.symm]; exact gs, by rw [upd_ne nlt.symm]; exact gt, upd_same, nS, sS, nL, sL, hL, (fun x hx => by rw [List.mem_singleton.mp hx]; exact hm), .inl (List.mem_singleton.mpr rfl), by rw [List.length_singleton]; omega, rfl⟩, ?_⟩
      rintro m σ G ⟨W, S, L, y5, rfl, kp, gd, gs, gt, gl, nS, sS, nL, sL, hL, sW, hnW, bW, rfl⟩
      rcases List.eq_nil_or_concat W with rfl | ⟨W, x, rfl⟩
      · refine ⟨.ref l, rfl, false, .inl ⟨_, SqL.of gl, rfl⟩, iteF ?_⟩
        refine ⟨_, _, _, S, L, rfl, kp, gd, gs, gt, nS, sS, nL, sL, fun z hz => ?_⟩
        rw [tk] at hz
        rcases List.mem_append.mp hz with hz | hz
        · exact hL z hz
        · rw [List.mem_singleton.mp hz]
          exact hnW.elim (fun q => by cases q) id
      · rw [List.concat_eq_append] at gl sW hnW bW ⊢
        have xm : x ∈ ns := sW x (List.mem_append_right _ (List.mem_singleton.mpr rfl))
        refine ⟨.ref l, rfl, true, .inl ⟨_, SqL.of gl, by simp⟩, iteT ?_⟩
        refine ⟨_, fun σ' H' z => z, ?_⟩
        refine ⟨.ref l, rfl, 1, rfl, l, _, _, .int x, rfl, rfl, SqL.of gl, by rw [List.map_append]; exact at_last, ?_⟩
        refine ⟨.int x, rfl, .ref s, rfl, s, _, rfl, getT gs x, _, rfl, ?_⟩
        have lS := room nS sS
        have lL := room nL sL
        by_cases mm : x ∈ S
        · rw [if_pos mm]
          refine iteF ?_
          refine ⟨.ref l, rfl, .inl ⟨rfl, _, SqL.of gl⟩, l, _, .int x, rfl, rfl, gl, by simp, ?_⟩
          rw [show ((W ++ [x]).map V.int).dropLast = W.map V.int by rw [List.map_append]; exact List.dropLast_concat]
          refine ⟨.ref t, rfl, .int x, rfl, t, _, rfl, putTg (by rw [upd_ne nlt.symm]; exact gt) x (by omega), ?_⟩
          refine ⟨wgt E S ns + W.length, by rw [List.length_append, List.length_singleton]; omega, W, S, addT L x, _, rfl, fun b o nb e => by rw [upd_ne (ne_of_none e ntH), upd_ne (ne_of_none e nHl)]; exact kp b o nb e, by rw [upd_ne ntd.symm, upd_ne nld.symm]; exact gd, by rw [upd_ne nts.symm, upd_ne nls.symm]; exact gs, upd_same, by show _ = _; rw [upd_ne nlt, upd_same], nS, sS, addT_nodup nL, fun z hz => ?_, fun z hz => addT_mem.mpr (.inl (hL z hz)), fun z hz => sW z (List.mem_append_left _ hz), ?_, by rw [List.length_append, List.length_singleton] at bW; omega, rfl⟩
          · rcases addT_mem.mp hz with h | h
            · exact sL z h
            · rw [h]; exact xm
          · rcases hnW with h | h
            · rcases List.mem_append.mp h with h | h
              · exact .inl h
              · exact .inr (addT_mem.mpr (.inr (List.mem_singleton.mp h)))
            · exact .inr (addT_mem.mpr (.inl h))
        · rw [if_neg mm]
          refine iteT ?_
          refine ⟨.ref s, rfl, .int x, rfl, s, _, rfl, putTn gs x (by omega), ?_⟩
          rw [addT_new mm]
          have kp1 : KpD d H (upd G s (.dK (kvT (S ++ [x])))) := fun b o nb e => by rw [upd_ne (ne_of_none e nsH)]; exact kp b o nb e
          have gd1 : (upd G s (.dK (kvT (S ++ [x])))) d = some (.frz od (.dK (kvW ns la))) := by rw [upd_ne nsd.symm]; exact gd
          have gs1 : (upd G s (.dK (kvT (S ++ [x])))) s = some (.dK (kvT (S ++ [x]))) := upd_same
          have gt1 : (upd G s (.dK (kvT (S ++ [x])))) t = some (.dK (kvT L)) := by rw [upd_ne nts]; exact gt
          have gl1 : IL (upd G s (.dK (kvT (S ++ [x])))) l (W ++ [x]) := by show _ = _; rw [upd_ne nls]; exact gl
          generalize upd G s (.dK (kvT (S ++ [x]))) = G1 at kp1 gd1 gs1 gt1 gl1
          have hEx := hE x xm
          have wE : IL G1 (la x) (E x) := kp1 _ _ (nla x xm) (wy.ls x xm)
          have nd1 : (S ++ [x]).Nodup := List.nodup_append.mpr ⟨nS, by simp, fun a ha b hb e => mm (by rw [← List.mem_singleton.mp hb, ← e]; exact ha)⟩
          refine ⟨.ref l, rfl, .inl ⟨rfl, _, SqL.of gl1⟩, .ref d, rfl, .int x, rfl, d, .ref (la x), rfl, by have := getF gd1 x; rwa [if_pos xm] at this, la x, rfl, ⟨_, SqL.of wE⟩, fun D hD => ?_⟩
          refine lc_fil (fun z => decide (z ∈ ns) && !decide (z ∈ S ++ [x])) wE hD (by omega) (fun z hz G2 Y N sG hY hN => ?_) (fun G2 sG gD => ?_)
          · refine ⟨rfl, .int z, rfl, .ref d, rfl, d, _, rfl, getF (sG _ _ gd1) z, _, rfl, ?_⟩
            by_cases c1 : z ∈ ns
            · rw [if_pos c1]
              refine iteT ⟨.int z, rfl, .ref s, rfl, s, _, rfl, getT (sG _ _ gs1) z, _, rfl, ?_⟩
              by_cases c2 : z ∈ S ++ [x]
              · rw [if_pos c2]
                exact iteF (hN (by rw [decide_eq_true c1, decide_eq_true c2]; rfl) _ (Same.refl _))
              · rw [if_neg c2]
                exact iteT ⟨_, rfl, hY (by rw [decide_eq_true c1, decide_eq_false c2]; rfl) _ (Same.refl _)⟩
            · rw [if_neg c1]
              exact iteF (hN (by rw [decide_eq_false c1]; rfl) _ (Same.refl _))
          · have lf : ((E x).filter fun z => decide (z ∈ ns) && !decide (z ∈ S ++ [x])).length ≤ (E x).length := List.length_filter_le _ _
            have gl2 := sG _ _ gl1
            have nlD : l ≠ D := ne_of_none gl1 hD
            refine ⟨l, D, _, _, rfl, rfl, gl2, gD, ?_, ?_⟩
            · rw [List.length_map, List.length_map]
              show _ ≤ 16777216
              rw [List.length_append, List.length_singleton] at bW ⊢
              omega
            · rw [← List.map_append]
              have ww := wgt_add (E := E) mm xm
              refine ⟨_, ?_, W ++ [x] ++ ((E x).filter fun z => decide (z ∈ ns) && !decide (z ∈ S ++ [x])), S ++ [x], L, _, rfl, fun b o nb e => by rw [upd_ne (ne_of_none e nHl)]; exact sG _ _ (kp1 b o nb e), by rw [upd_ne nld.symm]; exact sG _ _ gd1, by rw [upd_ne nls.symm]; exact sG _ _ gs1, by rw [upd_ne nlt.symm]; exact sG _ _ gt1, upd_same, nd1, fun z hz => ?_, nL, sL, hL, fun z hz => ?_, hnW.imp (fun h => List.mem_append_left _ h) id, ?_, rfl⟩
              · simp only [List.length_append, List.length_singleton]
                omega
              · rcases List.mem_append.mp hz with h | h
                · exact sS z h
                · rw [List.mem_singleton.mp h]; exact xm
              · rcases List.mem_append.mp hz with h | h
                · exact sW z h
                · have := (List.mem_filter.mp h).2
                  exact of_decide_eq_true (Bool.and_eq_true_iff.mp this).1
              · simp only [List.length_append, List.length_singleton] at bW ⊢
                omega
    · rintro σ G ⟨y3, y4, y5, S, L, rfl, kp, gd, gs, gt, nS, sS, nL, sL, hL⟩
      rw [kl, List.take_length] at hL
      refine ⟨gd, .ref t, rfl, t, _, rfl, by rw [upd_ne ntd]; exact gt, fun q hq => ?_⟩
      have sF : Same H (upd G d (.dK (kvW ns la))) := fun b o e => by
        by_cases c : b = d
        · rw [c, upd_same, ← wy.d, ← c, e]
        · rw [upd_ne c]
          exact kp b o c e
      have nHq : H q = none := by
        cases e : H q with
        | none => rfl
        | some u => rw [sF _ _ e] at hq; cases hq
      refine k q L _ (sF.trans (Same.new hq)) nHq ?_ nL fun z => ⟨sL z, hL z⟩
      show _ = _
      rw [upd_same]
      unfold kvT
      rw [List.map_map]
      rfl
end
end Fw

set_option maxRecDepth 100000
set_option maxHeartbeats 8000000
namespace Fw
open PySem PySem.Spec PyProof.Rows L2 GxR
/-- lists at their places -/
def LsA (H : Hp) (ps : List (Addr × List Int)) : Prop := ∀ p ∈ ps, IL H p.1 p.2
def flatP (ps : List (Addr × List Int)) : List Int := (ps.map fun p => p.2).flatten
theorem flatP_app (ps qs : List (Addr × List Int)) : flatP (ps ++ qs) = flatP ps ++ flatP qs := by unfold flatP; rw [List.map_append, List.flatten_append]
theorem flatP_one (p : Addr × List Int) : flatP [p] = p.2 := by simp [flatP]
theorem flatP_rev : ∀ ps : List (Addr × List Int), (flatP ps.reverse).Perm (flatP ps)
  | [] => .refl _
  | p :: ps => by
    rw [List.reverse_cons, flatP_app, flatP_one, show flatP (p :: ps) = p.2 ++ flatP ps by simp [flatP]]
    exact ((flatP_rev ps).append_right _).trans List.perm_append_comm
section
variable {P : Program} {w : World} {K : PySem.W.Frag} {mg : Str → Option Value} {base : Heap} {C J B WC : Addr}
def spCom : Sp := fun vs H Q _ => ∃ (d : Addr) (ns : List Int) (la : Int → Addr) (E : Int → List Int), vs = [.ref d] ∧ Wy H d ns la E ∧ ns.length ≤ 900 ∧ (∀ n ∈ ns, (E n).length ≤ 300) ∧
  ∀ (l : Addr) (ps : List (Addr × List Int)) H', Same H H' → H l = none → H' l = some (.lst (ps.map fun p => V.ref p.1)) → LsA H' ps → (flatP ps).Nodup → (∀ x, x ∈ flatP ps ↔ x ∈ ns) → Q (.ref l) H'
theorem ok_components {f : Addr} {fd : FuncData} (FF : Fun K "components" "components" s_components f fd) (h_turned : Has P w K mg base "turned" 1 a_turned spTurn) (h_finished : Has P w K mg base "finished" 1 a_finished spFin) (h_flood : Has P w K mg base "flood" 1 a_flood spFlood) (T : Txt K mg C J B) : FnOk P w K mg base CX0 2 f fd a_components spCom := by
  refine FF.ok sc_components (fun vs H Q E h => ?_) (fun cdv A outer s0 H vs Q E hr h => ?_)
  · obtain ⟨d, ns, la, E, rfl, _⟩ := h
    rfl
  · obtain ⟨d, ns, la, E, rfl, wy, hn, hE, k⟩ := h
    have hu := hu_of hr
    refine ⟨_, (pss_cons (ps_set (i := 1) sc_components.nd rfl (.inl rfl) (pe_callH h_turned (hr.mono (by omega)) (pa_cons (pv 0) pa_nil)))
      (pss_cons (ps_set (i := 2) sc_components.nd rfl (.inl rfl) pe_dnewK)
      (pss_cons (ps_set (i := 3) sc_components.nd rfl (.inl rfl) (pe_lst pa_nil))
      (pss_cons (ps_for PassesOwn.never rfl (RT.pi_revA rfl T.z_reversed (pe_callH h_finished (hr.mono (by omega)) (pa_cons (pv 0) pa_nil))) (pg_name (i := 4) sc_components.nd rfl (.inl rfl)) (pss_one (ps_if (pt_cmp (pc_dnotin hu (pv 4) (pv 2))) (pss_one (ps_expr (pe_bm PySem.F.plainAttrs_list PySem.F.slot_list_append PySem.F.type_list_append mt_append (pv 3) (pa_cons (pe_callH h_flood (hr.mono (by omega)) (pa_cons (pv 4) (pa_cons (pv 1) (pa_cons (pv 2) pa_nil)))) pa_nil)))) pss_nil)))
      (pss_one (ps_ret (pe_revL (pv 3)))))))), ?_⟩
    refine ⟨.ref d, rfl, d, ns, la, E, rfl, wy, hn, hE, fun b lb E' H1 s1 wb nlb cl => ?_⟩
    intro t ht
    refine ⟨Nat.zero_le _, fun fl hfl => ?_⟩
    have s2 := s1.trans (Same.new (o := .dK []) ht)
    have s3 := s2.trans (Same.new (o := .lst []) hfl)
    have nlt : fl ≠ t := fun e => by rw [e, upd_same] at hfl; cases hfl
    have wb3 : Wy (upd (upd H1 t (.dK [])) fl (.lst [])) b ns lb E' := wb.same ((Same.new ht).trans (Same.new hfl))
    have gt3 : (upd (upd H1 t (.dK [])) fl (.lst [])) t = some (.dK (kvT [])) := by rw [upd_ne nlt.symm, upd_same]; rfl
    have gf3 : (upd (upd H1 t (.dK [])) fl (.lst [])) fl = some (.lst (([] : List (Addr × List Int)).map fun p => V.ref p.1)) := upd_same
    have nHt : H t = none := by
      cases e : H t with
      | none => rfl
      | some u => rw [s1 _ _ e] at ht; cases ht
    have nHf : H fl = none := by
      cases e : H fl with
      | none => rfl
      | some u => rw [s2 _ _ e] at hfl; cases hfl
    have nbt : b ≠ t := ne_of_none wb.d ht
    have nlbt : ∀ n ∈ ns, lb n ≠ t := fun n h => ne_of_none (wb.ls n h) ht
    have wb2 := wb.same (Same.new (o := .dK []) ht)
    have nbf : b ≠ fl := ne_of_none wb2.d hfl
    have nlbf : ∀ n ∈ ns, lb n ≠ fl := fun n h => ne_of_none (wb2.ls n h) hfl
    generalize upd (upd H1 t (.dK [])) fl (.lst []) = H3 at s3 wb3 gt3 gf3
    refine ⟨.ref d, rfl, d, ns, la, E, rfl, wy.same s3, hn, hE, fun l X H4 s4 hl gl ndX hX => ?_⟩
    have wb4 := wb3.same s4
    have nl_t : l ≠ t := (ne_of_none gt3 hl).symm
    have nl_f : l ≠ fl := (ne_of_none gf3 hl).symm
    have gt4 := s4 _ _ gt3
    have gf4 := s4 _ _ gf3
    have s34 := s3.trans s4
    have lX : X.length ≤ ns.length := nodup_le ndX fun x hx => (hX x).mp hx
    refine ⟨l, X.map V.int, rfl, .inl ⟨SqL.of gl, ?_⟩⟩
    refine for_it walk_rev (fun i σ G => ∃ (y : Option V) (ps : List (Addr × List Int)), σ = [some (.ref d), some (.ref b), some (.ref t), some (.ref fl), y] ∧ Same H G ∧ (∀ c o, c ≠ t → c ≠ fl → H4 c = some o → G c = some o) ∧ G t = some (.dK (kvT (flatP ps))) ∧ G fl = some (.lst (ps.map fun p => V.ref p.1)) ∧ LsA G ps ∧ (flatP ps).Nodup ∧ (∀ x ∈ flatP ps, x ∈ ns) ∧ (∀ j, j < i → ∀ x, X[X.length - 1 - j]? = some x → x ∈ flatP ps) ∧ ps.length ≤ i)
      ⟨none, [], rfl, s34, fun c o _ _ e => e, gt4, gf4, (fun p hp => by cases hp), List.nodup_nil, (fun x hx => by cases hx), (fun j hj => absurd hj (Nat.not_lt_zero _)), Nat.le_refl _⟩ (fun i σ G _ ⟨_, _, _, _, kp, _⟩ => SqL.of (kp _ _ nl_t nl_f gl)) ?_ ?_
    · rintro i x σ G0 G hi ⟨y, ps, rfl, sG, kp, gt, gf, ls, nd, sub, vis, len⟩ ⟨rfl, hx⟩
      rw [List.length_map] at hi hx
      obtain ⟨x, hx', rfl⟩ := ints_nth hx
      clear hx
      have hx := hx'
      have xn : x ∈ ns := (hX x).mp (List.mem_of_getElem? hx)
      refine ⟨.int x, rfl, .ref t, rfl, t, _, rfl, getT gt x, _, rfl, ?_⟩
      by_cases mm : x ∈ flatP ps
      · rw [if_pos mm]
        refine iteF ?_
        refine ⟨_, ps, rfl, sG, kp, gt, gf, ls, nd, sub, fun j hj z hz => ?_, by omega⟩
        by_cases c : j = i
        · subst c
          rw [hx] at hz
          cases hz
          exact mm
        · exact vis j (by omega) z hz
      · rw [if_neg mm]
        refine iteT ?_
        have wbG : Wy G b ns lb E' := ⟨kp _ _ nbt nbf wb4.d, fun n h => kp _ _ (nlbt n h) (nlbf n h) (wb4.ls n h), wb4.inj, wb4.nd⟩
        refine ⟨.ref fl, rfl, .inl ⟨rfl, _, SqL.of gf⟩, .int x, rfl, .ref b, rfl, .ref t, rfl, x, b, t, ns, lb, E', flatP ps, rfl, wbG, cl, hn, gt, nd, sub, xn, mm, fun q F G' kq gt' nq gq ndF sF xF => ?_⟩
        have gf' := kq _ _ nlt gf
        have nqf : q ≠ fl := (ne_of_none gf nq).symm
        have nqt : q ≠ t := (ne_of_none gt nq).symm
        refine ⟨fl, _, _, rfl, rfl, gf', by rw [List.length_map]; exact small1000 (by omega), ?_⟩
        refine ⟨_, ps ++ [(q, F)], rfl, fun c o e => ?_, fun c o n1 n2 e => by rw [upd_ne n2]; exact kq _ _ n1 (kp c o n1 n2 e), ?_, ?_, fun p hp => ?_, by rw [flatP_app, flatP_one]; exact ndF, fun z hz => ?_, fun j hj z hz => ?_, by rw [List.length_append, List.length_singleton]; omega⟩
        · rw [upd_ne (ne_of_none e nHf)]
          exact kq _ _ (ne_of_none e nHt) (sG c o e)
        · rw [upd_ne nlt.symm, flatP_app, flatP_one]
          exact gt'
        · rw [upd_same, List.map_append]
          rfl
        · show _ = _
          rcases List.mem_append.mp hp with hp | hp
          · have e := ls p hp
            rw [upd_ne fun z => by
              have e2 : G p.1 = some _ := e
              rw [z, gf] at e2
              cases ps with
              | nil => cases hp
              | cons a r =>
                cases h2 : p.2 with
                | nil => rw [h2] at e2; cases e2
                | cons u v => rw [h2] at e2; cases e2]
            exact kq _ _ (ne_of e gt (by intro z; cases z)) e
          · rw [List.mem_singleton.mp hp, upd_ne nqf]
            exact gq
        · rw [flatP_app, flatP_one] at hz
          rcases List.mem_append.mp hz with h | h
          · exact sub z h
          · exact sF z h
        · rw [flatP_app, flatP_one]
          by_cases c : j = i
          · subst c
            rw [hx] at hz
            cases hz
            exact List.mem_append_right _ xF
          · exact List.mem_append_left _ (vis j (by omega) z hz)
    · rintro σ G ⟨y, ps, rfl, sG, kp, gt, gf, ls, nd, sub, vis, len⟩
      refine ⟨.ref fl, rfl, fl, _, rfl, SqL.of gf, fun r hr' => ?_⟩
      have nHr : H r = none := by
        cases e : H r with
        | none => rfl
        | some u => rw [sG _ _ e] at hr'; cases hr'
      refine k r ps.reverse _ (sG.trans (Same.new hr')) nHr ?_ (fun p hp => Same.new hr' _ _ (ls p (List.mem_reverse.mp hp))) ((flatP_rev ps).nodup_iff.mpr nd) fun x => ?_
      · rw [upd_same, List.map_reverse]
      · rw [(flatP_rev ps).mem_iff]
        refine ⟨sub x, fun hx => ?_⟩
        obtain ⟨j, hj, e⟩ := List.getElem_of_mem ((hX x).mpr hx)
        refine vis (X.length - 1 - j) (by rw [List.length_map]; omega) x ?_
        rw [show X.length - 1 - (X.length - 1 - j) = j by omega, List.getElem?_eq_getElem hj, e]
end
end Fw

set_option maxRecDepth 100000
set_option maxHeartbeats 8000000
namespace Fw
open PySem PySem.Spec PyProof.Rows L2 GxR
section
variable {P : Program} {w : World} {K : PySem.W.Frag} {mg : Str → Option Value} {base : Heap} {C J B WC : Addr}
def spEF (K : PySem.W.Frag) : Sp := fun vs H Q _ => ∃ (n : Nat) (ta : Addr) (as : List Addr) (ss : List T3), vs = [.int (n : Nat), .ref ta] ∧ SqT K H ta (as.map V.ref) ∧ PAt H as ss ∧ (∀ p ∈ ss, 0 ≤ p.1 ∧ p.1 < (n : Int)) ∧ n ≤ 300 ∧ ss.length ≤ 300 ∧
  ∀ (l : Addr) (X : List Int) H', Same H H' → H l = none → IL H' l X → X.Nodup → (∀ x, x ∈ X ↔ 0 ≤ x ∧ x < (n : Int)) → Q (.ref l) H'
theorem rng_nodup (n : Nat) : (rng n).Nodup := by
  unfold rng
  exact List.Pairwise.map _ (fun a b h => by intro e; exact h (Int.ofNat.inj e)) (List.nodup_range (n := n))
theorem ok_ends_first {f : Addr} {fd : FuncData} (FF : Fun K "ends_first" "ends_first" s_ends_first f fd) (h_components : Has P w K mg base "components" 2 a_components spCom) (T : Txt K mg C J B) : FnOk P w K mg base CX0 3 f fd a_ends_first (spEF K) := by
  refine FF.ok sc_ends_first (fun vs H Q E h => ?_) (fun cdv A outer s0 H vs Q E hr h => ?_)
  · obtain ⟨n, ta, as, ss, rfl, _⟩ := h
    rfl
  · obtain ⟨n, ta, as, ss, rfl, hta, pat, hin, hn, hss, k⟩ := h
    have hu := hu_of hr
    refine ⟨_, (pss_cons (ps_setDc (i := 2) (own := [("state", 6)]) (g := gName 6) rfl sc_ends_first.nd rfl rfl (swD_true rfl rfl rfl (by decide +kernel)) (pi_range1 rfl T.z_range (pa_cons (pv 0) pa_nil)) (blkOk_by (own := [("state", 6)]) (N := n_ends_first) (sc := defScope s_ends_first) (by decide +kernel)) (fun _ _ _ _ _ => (pg_name (i := 6) sc_ends_first.nd rfl (.inl rfl))) (fun _ _ _ _ _ => pts_nil) (fun _ _ _ _ _ => (pv 6)) (fun _ _ _ _ _ => (pe_lst pa_nil)))
      (pss_cons (ps_for PassesOwn.never rfl (pi_tup (pv 1)) (pg_tup rfl (pgs_cons (pg_name (i := 3) sc_ends_first.nd rfl (.inl rfl)) (pgs_cons (pg_name (i := 4) sc_ends_first.nd rfl (.inl rfl)) (pgs_cons (pg_name (i := 5) sc_ends_first.nd rfl (.inl rfl)) pgs_nil)))) (pss_one (ps_expr (pe_bm PySem.F.plainAttrs_list PySem.F.slot_list_append PySem.F.type_list_append mt_append (pe_dget hu (pv 2) (pv 3) (fun _ _ => rfl)) (pa_cons (pv 5) pa_nil)))))
      (pss_one (ps_ret (pe_lc2 (own := [("members", 7), ("state", 6)]) (vs1 := [6]) rfl sc_ends_first.nd (pi_list (pe_callH h_components (hr.mono (by omega)) (pa_cons (pv 2) pa_nil))) (blkOk_by (own := [("members", 7), ("state", 6)]) (N := n_ends_first) (sc := defScope s_ends_first) (by decide +kernel)) (by decide) (fun _ _ _ _ _ => (pg_name (i := 7) sc_ends_first.nd rfl (.inl rfl))) (fun _ _ _ _ _ => pts_nil) (fun _ _ _ _ _ => (@id (PI _ _ _ (iList K _)) (pi_list (pv 7)))) (fun _ _ _ _ _ => (pg_name (i := 6) sc_ends_first.nd rfl (.inl rfl))) (fun _ _ _ _ _ => pts_nil) (fun _ _ _ _ _ => (pv 6))))))), ?_⟩
    refine ⟨.int (n : Nat), rfl, n, rfl, by omega, by omega, fun D hD => ?_⟩
    rw [Int.toNat_natCast]
    refine dc_it walk_range (fun i G => ∃ lb : Int → Addr, Same H G ∧ G D = some (.dK (kvW (rng i) lb)) ∧ (∀ z ∈ rng i, IL G (lb z) [] ∧ H (lb z) = none) ∧ ∀ z ∈ rng i, ∀ m ∈ rng i, lb z = lb m → z = m)
      ⟨fun _ => D, Same.new hD, upd_same, (fun z hz => by simp [rng] at hz), fun z hz => by simp [rng] at hz⟩ (fun i G _ _ => trivial) ?_ ?_
    · rintro i x G0 G hi ⟨lb, sG, gD, ls, inj⟩ ⟨rfl, rfl⟩
      have nn : (i : Int) ∉ rng i := fun h => by have := rng_mem.mp h; omega
      refine ⟨rfl, .int (0 + (i : Int)), rfl, Nat.zero_le _, fun q hq => ?_⟩
      rw [Int.zero_add]
      have s1 := Same.new (o := .lst []) hq
      have nqD : q ≠ D := (ne_of_none gD hq).symm
      have nHq : H q = none := by
        cases e : H q with
        | none => rfl
        | some u => rw [sG _ _ e] at hq; cases hq
      refine ⟨_, Sum.inl (i : Int), rfl, s1 _ _ gD, by rw [kvW_len, rng_len]; exact small1000 (by omega), fun y => if y = (i : Int) then q else lb y, fun b o e => by rw [upd_ne (ne_of_none e hD)]; exact s1 _ _ (sG b o e), by rw [upd_same, kvW_snoc nn, rng_succ], fun m hm => ?_, fun m hm m' hm' e => ?_⟩
      · show IL _ (if m = (i : Int) then q else lb m) [] ∧ H (if m = (i : Int) then q else lb m) = none
        rw [rng_succ] at hm
        rcases List.mem_append.mp hm with hm | hm
        · have hne : m ≠ (i : Int) := fun e => nn (by rw [← e]; exact hm)
          obtain ⟨l1, l2⟩ := ls m hm
          rw [if_neg hne]
          refine ⟨?_, l2⟩
          show _ = _
          rw [upd_ne (ne_of l1 gD (by intro z; cases z))]
          exact s1 _ _ l1
        · rw [List.mem_singleton] at hm
          subst hm
          rw [if_pos rfl]
          refine ⟨?_, nHq⟩
          show _ = _
          rw [upd_ne nqD, upd_same]
          rfl
      · have old : ∀ z ∈ rng i, lb z ≠ q := fun z hz e => by
          have := (ls z hz).1
          rw [e] at this
          have z2 : G q = some _ := this
          rw [hq] at z2
          cases z2
        rw [rng_succ] at hm hm'
        simp only at e
        rcases List.mem_append.mp hm with hm | hm <;> rcases List.mem_append.mp hm' with hm' | hm'
        · rw [if_neg fun z => nn (by rw [← z]; exact hm), if_neg fun z => nn (by rw [← z]; exact hm')] at e
          exact inj m hm m' hm' e
        · rw [List.mem_singleton] at hm'
          rw [if_neg fun z => nn (by rw [← z]; exact hm), if_pos hm'] at e
          exact absurd e (old m hm)
        · rw [List.mem_singleton] at hm
          rw [if_pos hm, if_neg fun z => nn (by rw [← z]; exact hm')] at e
          exact absurd e.symm (old m' hm')
        · rw [List.mem_singleton] at hm hm'
          rw [hm, hm']
    rintro G ⟨lb, sG, gD, ls, inj⟩
    have nHb : ∀ z ∈ rng n, H (lb z) = none := fun z hz => (ls z hz).2
    have w0 : Wy G D (rng n) lb (fun _ => []) := ⟨gD, fun z hz => (ls z hz).1, inj, rng_nodup n⟩
    clear gD ls
    refine ⟨.ref ta, rfl, ta, rfl, ⟨_, SqT.same sG hta⟩, for_it walk_tup (fun i σ G => ∃ (y3 y4 y5 : Option V) (E : Int → List Int), σ = [some (.int (n : Nat)), some (.ref ta), some (.ref D), y3, y4, y5, none, none] ∧ Same H G ∧ Wy G D (rng n) lb E ∧ ∀ z ∈ rng n, (E z).length ≤ i)
      ⟨none, none, none, fun _ => [], rfl, sG, w0, fun z hz => Nat.le_refl 0⟩ (fun i σ G _ ⟨_, _, _, _, _, sG, _⟩ => SqT.same sG hta) ?_ ?_⟩
    · rintro i x σ G0 G hi ⟨y3, y4, y5, E, rfl, sG, wG, lE⟩ ⟨rfl, hx⟩
      rw [List.length_map, pat.1] at hi
      obtain ⟨a, p, rfl, ha, hp, at_⟩ := (pat.same sG).nth hx
      obtain ⟨p1, p2, p3⟩ := p
      obtain ⟨i1, i2⟩ := hin _ (List.mem_of_getElem? hp)
      simp only at i1 i2 at_
      have m1 : p1 ∈ rng n := rng_mem.mpr ⟨i1, i2⟩
      refine ⟨a, _, rfl, SqT.of at_, rfl, .int p1, _, rfl, .int p2, _, rfl, .int p3, _, rfl, rfl, ?_⟩
      have g1 := wG.ls p1 m1
      have l1 := lE p1 m1
      refine ⟨.ref D, rfl, .int p1, rfl, D, .ref (lb p1), rfl, getW wG m1, .inl ⟨rfl, _, SqL.of g1⟩, .int p3, rfl, lb p1, _, _, rfl, rfl, g1, by rw [List.length_map]; exact small1000 (by omega), ?_⟩
      refine ⟨_, _, _, fun y => if y = p1 then E p1 ++ [p3] else E y, rfl, fun b o e => ?_, ⟨?_, fun y hy => ?_, wG.inj, wG.nd⟩, fun y hy => ?_⟩
      · rw [upd_ne (ne_of_none e (nHb p1 m1))]
        exact sG b o e
      · rw [upd_ne (ne_of wG.d g1 (by intro z; cases z))]
        exact wG.d
      · show IL _ (lb y) (if y = p1 then E p1 ++ [p3] else E y)
        by_cases c : y = p1
        · subst c
          rw [if_pos rfl]
          show _ = _
          rw [upd_same, List.map_append]
          rfl
        · rw [if_neg c]
          show _ = _
          rw [upd_ne fun e => c (wG.inj y hy p1 m1 e)]
          exact wG.ls y hy
      · show (if y = p1 then E p1 ++ [p3] else E y).length ≤ _
        have := lE y hy
        split
        · rw [List.length_append, List.length_singleton]; omega
        · omega
    · rintro σ G ⟨y3, y4, y5, E, rfl, sG, wG, lE⟩
      rw [List.length_map, pat.1] at lE
      refine ⟨.ref D, rfl, D, rng n, lb, E, rfl, wG, by rw [rng_len]; omega, fun z hz => Nat.le_trans (lE z hz) hss, fun l ps H1 s1 nl gl ls nd mem => ?_⟩
      refine ⟨l, rfl, ⟨_, SqL.of gl⟩, fun D2 hD2 => ?_⟩
      have sH1 := sG.trans s1
      have fl : (flatP ps).length ≤ n := by
        have := nodup_le nd fun x hx => (mem x).mp hx
        rwa [rng_len] at this
      refine lc2_it walk_list (fun i G => Same H1 G ∧ IL G D2 (flatP (ps.take i))) ⟨Same.new hD2, upd_same⟩ (fun i G _ q => SqL.of (q.1 _ _ gl)) ?_ ?_
      · rintro i x G0 G' hi ⟨sG2, gD2⟩ ⟨rfl, hx⟩
        rw [List.length_map] at hi
        have hp : ps[i]? = some ps[i] := List.getElem?_eq_getElem hi
        rw [List.getElem?_map, hp] at hx
        obtain rfl := Option.some.inj hx
        have ip := ls _ (List.getElem_mem hi)
        generalize ps[i] = p at hp ip
        have nx : flatP (ps.take (i + 1)) = flatP (ps.take i) ++ p.2 := by rw [List.take_add_one, hp, Option.toList_some, flatP_app, flatP_one]
        have le : (flatP (ps.take i)).length + p.2.length ≤ n := by
          have e1 : flatP ps = flatP (ps.take (i + 1)) ++ flatP (ps.drop (i + 1)) := by rw [← flatP_app, List.take_append_drop]
          rw [e1, nx, List.length_append, List.length_append] at fl
          omega
        refine ⟨rfl, .ref p.1, rfl, p.1, rfl, ⟨_, SqL.of (sG2 _ _ ip)⟩, ?_⟩
        refine in2_it walk_list (fun j G => Same H1 G ∧ IL G D2 (flatP (ps.take i) ++ p.2.take j)) ⟨sG2, by simpa using gD2⟩ (fun j G _ q => SqL.of (q.1 _ _ ip)) ?_ ?_
        · rintro j u G1 G2 hj ⟨sG1, gD1⟩ ⟨rfl, hu'⟩
          rw [List.length_map] at hj
          obtain ⟨z, hz, rfl⟩ := ints_nth hu'
          refine ⟨rfl, .int z, rfl, _, gD1, ?_, fun b o e => ?_, ?_⟩
          · rw [List.length_map, List.length_append, List.length_take]
            exact small1000 (by omega)
          · rw [upd_ne (ne_of_none e hD2)]
            exact sG1 b o e
          · show _ = _
            rw [upd_same, List.take_add_one, hz, Option.toList_some]
            simp only [List.map_append, List.append_assoc]
            rfl
        · rintro G2 ⟨sG1, gD1⟩
          rw [List.length_map, List.take_length] at gD1
          exact ⟨sG1, by rw [nx]; exact gD1⟩
      · rintro G2 ⟨sG2, gD2⟩
        rw [List.length_map, List.take_length] at gD2
        refine k D2 (flatP ps) G2 (sH1.trans sG2) ?_ gD2 nd fun x => by rw [mem, rng_mem]
        cases e : H D2 with
        | none => rfl
        | some u => rw [sH1 _ _ e] at hD2; cases hD2
end
end Fw

set_option maxRecDepth 100000
/-! Which states can do all that others can: masks, what is lost, who waits. Pure mathematics. -/
namespace Fw
structure Dt where
  D : Nat → Nat
  L : Nat → Nat
  W : List Int
def bt (m j : Nat) : Prop := m.testBit j = true
/-- a state loses some -/
def lose (x : Dt) (s g : Nat) : Dt :=
  ⟨fun i => if i = s then wo (x.D i) g else x.D i, fun i => if i = s then (x.L i ||| g) else x.L i, if g ≠ 0 ∧ x.L s = 0 then x.W ++ [(s : Int)] else x.W⟩
/-- each of the states loses those -/
def takes (x : Dt) (un : Nat) : List Nat → Dt
  | [] => x
  | s :: r => takes (lose x s (x.D s &&& un)) un r
theorem takes_snoc {un s : Nat} : ∀ {S : List Nat} {x : Dt}, takes x un (S ++ [s]) = lose (takes x un S) s ((takes x un S).D s &&& un)
  | [], _ => rfl
  | z :: S, x => by
    show takes (lose x z (x.D z &&& un)) un (S ++ [s]) = _
    rw [takes_snoc]
    rfl
def sumD (D : Nat → Nat) : Nat → Nat
  | 0 => 0
  | n + 1 => sumD D n + D n
theorem sumD_le {D E : Nat → Nat} (h : ∀ i, E i ≤ D i) : ∀ n, sumD E n ≤ sumD D n
  | 0 => Nat.le_refl _
  | n + 1 => by have := sumD_le h n; have := h n; unfold sumD; omega
theorem sumD_lt {D E : Nat → Nat} (h : ∀ i, E i ≤ D i) {s : Nat} (hs : E s < D s) : ∀ {n}, s < n → sumD E n < sumD D n
  | n + 1, l => by
    unfold sumD
    by_cases c : s = n
    · subst c
      have := sumD_le h s
      omega
    · have := sumD_lt h hs (n := n) (by omega)
      have := h n
      omega
theorem sumD_top {D : Nat → Nat} {b : Nat} (h : ∀ i, D i ≤ b) : ∀ n, sumD D n ≤ n * b
  | 0 => Nat.zero_le _
  | n + 1 => by have := sumD_top h n; have := h n; unfold sumD; rw [Nat.add_mul, Nat.one_mul]; omega
theorem bt_zero {m : Nat} (h : ∀ j, ¬ bt m j) : m = 0 := Nat.eq_of_testBit_eq fun j => by
  have := h j
  unfold bt at this
  rw [Nat.zero_testBit]
  cases c : m.testBit j
  · rfl
  · exact absurd c this
theorem bt_and {a b j : Nat} : bt (a &&& b) j ↔ bt a j ∧ bt b j := by unfold bt; rw [Nat.testBit_and, Bool.and_eq_true]
theorem bt_or {a b j : Nat} : bt (a ||| b) j ↔ bt a j ∨ bt b j := by unfold bt; rw [Nat.testBit_or, Bool.or_eq_true]
theorem bt_wo {a b j : Nat} : bt (wo a b) j ↔ bt a j ∧ ¬ bt b j := by unfold bt; rw [wo_bit, Bool.and_eq_true]; simp
/-- what has happened -/
structure Cum (n : Nat) (x x' : Dt) : Prop where
  sub : ∀ i j, bt (x'.D i) j → bt (x.D i) j
  uni : ∀ i j, (bt (x'.D i) j ∨ bt (x'.L i) j) ↔ (bt (x.D i) j ∨ bt (x.L i) j)
  wai : ∃ V, x'.W = x.W ++ V ∧ V.length + sumD x'.D n ≤ sumD x.D n ∧ (∀ v ∈ V, 0 ≤ v ∧ v < (n : Int)) ∧ ∀ i : Nat, x'.L i ≠ 0 → x.L i ≠ 0 ∨ (i : Int) ∈ V
theorem Cum.refl (n : Nat) (x : Dt) : Cum n x x := ⟨fun _ _ h => h, fun _ _ => Iff.rfl, [], by simp, by simp, (fun v hv => by cases hv), fun i h => .inl h⟩
theorem Cum.trans {n : Nat} {x y z : Dt} (a : Cum n x y) (b : Cum n y z) : Cum n x z := by
  obtain ⟨V, a1, a2, a3, a4⟩ := a.wai
  obtain ⟨U, b1, b2, b3, b4⟩ := b.wai
  refine ⟨fun i j h => a.sub i j (b.sub i j h), fun i j => (b.uni i j).trans (a.uni i j), V ++ U, by rw [b1, a1, List.append_assoc], by rw [List.length_append]; omega, fun v hv => (List.mem_append.mp hv).elim (a3 v) (b3 v), fun i h => ?_⟩
  rcases b4 i h with h | h
  · exact (a4 i h).imp id fun h => List.mem_append_left _ h
  · exact .inr (List.mem_append_right _ h)
theorem wo_le (a b : Nat) : wo a b ≤ a := by unfold wo; omega
theorem lose_cum {n : Nat} {x : Dt} {s un : Nat} (hs : s < n) : Cum n x (lose x s (x.D s &&& un)) := by
  have le : ∀ i, (lose x s (x.D s &&& un)).D i ≤ x.D i := fun i => by
    unfold lose
    dsimp only
    split
    · exact wo_le _ _
    · exact Nat.le_refl _
  refine ⟨fun i j h => ?_, fun i j => ?_, ?_⟩
  · unfold lose at h
    dsimp only at h
    split at h
    · exact (bt_wo.mp h).1
    · exact h
  · unfold lose
    dsimp only
    by_cases c : i = s
    · subst c
      rw [if_pos rfl, if_pos rfl, bt_wo, bt_or, bt_and]
      constructor
      · rintro (h | h | h)
        · exact .inl h.1
        · exact .inr h
        · exact .inl h.1
      · rintro (h | h)
        · by_cases q : bt un j
          · exact .inr (.inr ⟨h, q⟩)
          · exact .inl ⟨h, fun z => q z.2⟩
        · exact .inr (.inl h)
    · rw [if_neg c, if_neg c]
  · by_cases c : (x.D s &&& un) ≠ 0 ∧ x.L s = 0
    · refine ⟨[(s : Int)], by unfold lose; dsimp only; rw [if_pos c], ?_, fun v hv => by rw [List.mem_singleton.mp hv]; omega, fun i h => ?_⟩
      · have : (lose x s (x.D s &&& un)).D s < x.D s := by
          unfold lose
          dsimp only
          rw [if_pos rfl]
          unfold wo
          have e : x.D s &&& (x.D s &&& un) = (x.D s &&& un) := Nat.eq_of_testBit_eq fun j => by simp [Nat.testBit_and, ← Bool.and_assoc]
          rw [e]
          have := Nat.and_le_left (n := x.D s) (m := un)
          omega
        have := sumD_lt le this hs
        simp only [List.length_singleton]
        omega
      · by_cases q : i = s
        · exact .inr (List.mem_singleton.mpr (by rw [q]))
        · unfold lose at h
          dsimp only at h
          rw [if_neg q] at h
          exact .inl h
    · refine ⟨[], by unfold lose; dsimp only; rw [if_neg c, List.append_nil], by have := sumD_le le n; simpa using this, (fun v hv => by cases hv), fun i h => ?_⟩
      by_cases q : i = s
      · subst q
        unfold lose at h
        dsimp only at h
        rw [if_pos rfl] at h
        by_cases z : x.L i = 0
        · have g0 : (x.D i &&& un) = 0 := Classical.byContradiction fun w => c ⟨w, z⟩
          rw [g0, z] at h
          exact absurd rfl h
        · exact .inl z
      · unfold lose at h
        dsimp only at h
        rw [if_neg q] at h
        exact .inl h
/-- those taken out -/
structure Went (n : Nat) (x x' : Dt) (un : Nat) (S : List Nat) : Prop extends Cum n x x' where
  gone : ∀ i j, bt (x.D i) j → ¬ bt (x'.D i) j → bt un j ∧ i ∈ S
  out : ∀ i ∈ S, ∀ j, bt un j → ¬ bt (x'.D i) j
theorem takes_went {n un : Nat} : ∀ {S : List Nat} {x : Dt}, (∀ s ∈ S, s < n) → Went n x (takes x un S) un S
  | [], x, _ => ⟨Cum.refl n x, fun i j h1 h2 => absurd h1 h2, fun i h => by cases h⟩
  | s :: r, x, h => by
    have c1 := lose_cum (x := x) (un := un) (h s List.mem_cons_self)
    have ih := takes_went (un := un) (S := r) (x := lose x s (x.D s &&& un)) fun z hz => h z (List.mem_cons_of_mem _ hz)
    refine ⟨c1.trans ih.toCum, fun i j h1 h2 => ?_, fun i hi j hj hb => ?_⟩
    · by_cases q : bt ((lose x s (x.D s &&& un)).D i) j
      · have := ih.gone i j q h2
        exact ⟨this.1, List.mem_cons_of_mem _ this.2⟩
      · unfold lose at q
        dsimp only at q
        by_cases c : i = s
        · subst c
          rw [if_pos rfl, bt_wo, bt_and] at q
          have : bt (x.D i) j ∧ bt un j := Classical.byContradiction fun z => q ⟨h1, z⟩
          exact ⟨this.2, List.mem_cons_self⟩
        · rw [if_neg c] at q
          exact absurd h1 q
    · rcases List.mem_cons.mp hi with rfl | hi
      · have b1 := ih.sub i j hb
        unfold lose at b1
        dsimp only at b1
        rw [if_pos rfl, bt_wo, bt_and] at b1
        exact b1.2 ⟨b1.1, hj⟩
      · exact ih.out i hi j hj hb
/-! ### the whole search -/
section
variable (n : Nat) (R : Nat → Int → Nat → Prop) (D0 : Nat → Nat)
/-- each can follow within it -/
def SimG (G : Nat → Nat → Prop) : Prop := ∀ s t, G s t → ∀ l e, R s l e → ∃ u, R t l u ∧ G e u
structure Iv (k : Nat) (x : Dt) : Prop where
  wf : ∃ X V : List Int, x.W = X ++ V ∧ X.Nodup ∧ (∀ v, v ∈ X ↔ 0 ≤ v ∧ v < (n : Int)) ∧ V.length + sumD x.D n ≤ sumD D0 n ∧ ∀ v ∈ V, 0 ≤ v ∧ v < (n : Int)
  kl : k ≤ x.W.length
  wait : ∀ i : Nat, x.L i ≠ 0 → ∃ j, k ≤ j ∧ x.W[j]? = some (i : Int)
  good : ∀ j, j < k → ∀ e : Nat, x.W[j]? = some (e : Int) → ∀ s l t, R s l e → bt (x.D s) t → ∃ u, R t l u ∧ (bt (x.D e) u ∨ bt (x.L e) u)
  low : ∀ G, SimG R G → (∀ s t, G s t → bt (D0 s) t) → ∀ s t, G s t → bt (x.D s) t
  sub : ∀ i j, bt (x.D i) j → bt (D0 i) j
  subL : ∀ i j, bt (x.L i) j → bt (D0 i) j
/-- a state's turn begins -/
def clr (x : Dt) (e : Nat) : Dt := ⟨x.D, fun i => if i = e then 0 else x.L i, x.W⟩
/-- some labels of the turn are done -/
structure Tn (k : Nat) (x : Dt) (e : Nat) (ls : List Int) (y : Dt) : Prop where
  cum : Cum n (clr x e) y
  good : ∀ l ∈ ls, ∀ s t, R s l e → bt (y.D s) t → ∃ u, R t l u ∧ (bt (y.D e) u ∨ bt (y.L e) u)
  low : ∀ G, SimG R G → (∀ s t, G s t → bt (D0 s) t) → ∀ s t, G s t → bt (y.D s) t
end
section
variable {n : Nat} {R : Nat → Int → Nat → Prop} {D0 : Nat → Nat} {k e : Nat} {x y : Dt}
theorem Tn.start (h : Iv n R D0 k x) : Tn n R D0 k x e [] (clr x e) := ⟨Cum.refl _ _, (fun l hl => by cases hl), h.low⟩
theorem Tn.skip {ls : List Int} {l : Int} (h : Tn n R D0 k x e ls y) (no : ∀ s, ¬ R s l e) : Tn n R D0 k x e (ls ++ [l]) y :=
  ⟨h.cum, fun l' hl' s t r => by
    rcases List.mem_append.mp hl' with m | m
    · exact h.good l' m s t r
    · rw [List.mem_singleton.mp m] at r
      exact absurd r (no s), h.low⟩
theorem Iv.handled (h : Iv n R D0 k x) (hk : n ≤ k) (he : e < n) : ∃ j, j < k ∧ x.W[j]? = some (e : Int) := by
  obtain ⟨X, V, w1, w2, w3, _⟩ := h.wf
  obtain ⟨j, hj, q⟩ := List.getElem_of_mem ((w3 (e : Int)).mpr ⟨by omega, by omega⟩)
  have : X.length ≤ n := by
    have := nodup_le (Vs := rng n) w2 fun v hv => rng_mem.mpr ((w3 v).mp hv)
    rwa [rng_len] at this
  exact ⟨j, by omega, by rw [w1, List.getElem?_append_left hj, List.getElem?_eq_getElem hj, q]⟩
theorem Tn.next {ls : List Int} {l : Int} {un : Nat} {S : List Nat} (iv : Iv n R D0 k x) (he : e < n) (h : Tn n R D0 k x e ls y) (hS : ∀ s, s ∈ S ↔ R s l e) (hn : ∀ s ∈ S, s < n)
    (hun : ∀ t, bt un t ↔ (n ≤ k → ∃ u, bt (x.L e) u ∧ R t l u) ∧ t < n ∧ ∀ u, R t l u → ¬ bt (y.D e) u) (hD : ∀ s t, bt (D0 s) t → t < n) : Tn n R D0 k x e (ls ++ [l]) (takes y un S) := by
  have wn := takes_went (n := n) (un := un) (S := S) (x := y) hn
  refine ⟨h.cum.trans wn.toCum, fun l' hl' s t r b => ?_, fun G sg sub s t g => ?_⟩
  · rcases List.mem_append.mp hl' with m | m
    · obtain ⟨u, r1, r2⟩ := h.good l' m s t r (wn.sub s t b)
      exact ⟨u, r1, (wn.uni e u).mpr r2⟩
    · rw [List.mem_singleton.mp m] at r ⊢
      have nun : ¬ bt un t := fun z => wn.out s ((hS s).mpr r) t z b
      have by_ : bt (y.D s) t := wn.sub s t b
      have bx : bt (x.D s) t := h.cum.sub s t by_
      have tn := hD s t (iv.sub s t bx)
      by_cases q : ∀ u, R t l u → ¬ bt (y.D e) u
      · have q2 : ¬ (n ≤ k → ∃ u, bt (x.L e) u ∧ R t l u) := fun z => nun ((hun t).mpr ⟨z, tn, q⟩)
        have kn : n ≤ k := Classical.byContradiction fun z => q2 fun w => absurd w z
        obtain ⟨j, j1, j2⟩ := iv.handled kn he
        obtain ⟨u, r1, r2⟩ := iv.good j j1 e j2 s l t r bx
        refine ⟨u, r1, (wn.uni e u).mpr ((h.cum.uni e u).mpr (.inl ?_))⟩
        rcases r2 with r2 | r2
        · exact r2
        · exact absurd (fun _ => ⟨u, r2, r1⟩) q2
      · have : ∃ u, R t l u ∧ bt (y.D e) u := Classical.byContradiction fun z => q fun u r1 r2 => z ⟨u, r1, r2⟩
        obtain ⟨u, r1, r2⟩ := this
        exact ⟨u, r1, (wn.uni e u).mpr (.inl r2)⟩
  · refine Classical.byContradiction fun z => ?_
    obtain ⟨z1, z2⟩ := wn.gone s t (h.low G sg sub s t g) z
    obtain ⟨u, r1, r2⟩ := sg s t g l e ((hS s).mp z2)
    exact ((hun t).mp z1).2.2 u r1 (h.low G sg sub e u r2)
theorem Tn.ends {ls : List Int} (iv : Iv n R D0 k x) (hk : x.W[k]? = some (e : Int)) (h : Tn n R D0 k x e ls y) (hl : ∀ s l, R s l e → l ∈ ls) : Iv n R D0 (k + 1) y ∧ (y.W.length - (k + 1)) + sumD y.D n < (x.W.length - k) + sumD x.D n := by
  obtain ⟨V, v1, v2, v3, v4⟩ := h.cum.wai
  have v1' : y.W = x.W ++ V := v1
  have v2' : V.length + sumD y.D n ≤ sumD x.D n := v2
  have kl : k < x.W.length := (List.getElem?_eq_some_iff.mp hk).1
  have at_ : ∀ j, j < x.W.length → y.W[j]? = x.W[j]? := fun j hj => by rw [v1', List.getElem?_append_left hj]
  refine ⟨⟨?_, by rw [v1', List.length_append]; omega, fun i hi => ?_, fun j hj e' he' s l t r b => ?_, h.low, fun i j b => iv.sub i j (h.cum.sub i j b), fun i j b => ?_⟩, by rw [v1', List.length_append]; omega⟩
  · obtain ⟨X, U, w1, w2, w3, w4, w5⟩ := iv.wf
    exact ⟨X, U ++ V, by rw [v1', w1, List.append_assoc], w2, w3, by rw [List.length_append]; omega, fun v hv => (List.mem_append.mp hv).elim (w5 v) (v3 v)⟩
  · rcases v4 i hi with q | q
    · have ie : i ≠ e := fun z => by
        unfold clr at q
        dsimp only at q
        rw [if_pos z] at q
        exact q rfl
      have q2 : x.L i ≠ 0 := by
        unfold clr at q
        dsimp only at q
        rwa [if_neg ie] at q
      obtain ⟨j, j1, j2⟩ := iv.wait i q2
      have jk : j ≠ k := fun z => by
        rw [z, hk] at j2
        have := Option.some.inj j2
        omega
      exact ⟨j, by omega, by rw [at_ j (List.getElem?_eq_some_iff.mp j2).1]; exact j2⟩
    · obtain ⟨j, hj, ej⟩ := List.getElem_of_mem q
      refine ⟨x.W.length + j, by omega, ?_⟩
      rw [v1', List.getElem?_append_right (by omega), show x.W.length + j - x.W.length = j by omega, List.getElem?_eq_getElem hj, ej]
  · by_cases c : e' = e
    · subst c
      exact h.good l (hl s l r) s t r b
    · have jk : j < k := by
        refine Classical.byContradiction fun z => ?_
        have : j = k := by omega
        rw [this, at_ k kl, hk] at he'
        have := Option.some.inj he'
        omega
      rw [at_ j (by omega)] at he'
      obtain ⟨u, r1, r2⟩ := iv.good j jk e' he' s l t r (h.cum.sub s t b)
      refine ⟨u, r1, (h.cum.uni e' u).mpr ?_⟩
      show bt (x.D e') u ∨ bt (if e' = e then 0 else x.L e') u
      rw [if_neg c]
      exact r2
  · rcases (h.cum.uni i j).mp (.inr b) with q | q
    · exact iv.sub i j q
    · refine iv.subL i j ?_
      unfold clr at q
      dsimp only at q
      split at q
      · unfold bt at q
        rw [Nat.zero_testBit] at q
        cases q
      · exact q
/-- nobody waits -/
theorem Iv.done (iv : Iv n R D0 k x) (hk : k = x.W.length) (hR : ∀ s l e, R s l e → e < n) : SimG R (fun s t => bt (x.D s) t) := fun s t b l e r => by
  have en := hR s l e r
  have L0 : x.L e = 0 := Classical.byContradiction fun z => by
    obtain ⟨j, j1, j2⟩ := iv.wait e z
    have := (List.getElem?_eq_some_iff.mp j2).1
    omega
  obtain ⟨X, V, w1, w2, w3, _⟩ := iv.wf
  obtain ⟨j, hj, q⟩ := List.getElem_of_mem ((w3 (e : Int)).mpr ⟨by omega, by omega⟩)
  obtain ⟨u, r1, r2⟩ := iv.good j (by rw [hk, w1, List.length_append]; omega) e (by rw [w1, List.getElem?_append_left hj, List.getElem?_eq_getElem hj, q]) s l t r b
  rw [L0] at r2
  exact ⟨u, r1, r2.elim id fun z => by unfold bt at z; rw [Nat.zero_testBit] at z; cases z⟩
end
end Fw

set_option maxRecDepth 100000
set_option maxHeartbeats 8000000
namespace Fw
open PySem PySem.Spec PyProof.Rows L2 GxR
theorem ip_and {X : Cx} : PIp X .BitAnd (rI0 fun i j => .int (Builtin.bitAnd i j)) := fun pins s σ H x y v u Q I r1 r2 h => iop_and pins s σ H x y v u Q I r1 r2 h
structure TxtDo (K : PySem.W.Frag) (DC : Addr) : Prop where
  cl : Cls K DC
  nD : NoAttr K DC "doers"
  nM : NoAttr K DC "_mutual"
  nL : NoAttr K DC "_lost"
  nW : NoAttr K DC "_waiting"
structure DA where
  (p dx da la wa : Addr)
def tabM (D : Nat → Nat) (n : Nat) : List Nat := (List.range n).map D
theorem tabM_len (D : Nat → Nat) (n : Nat) : (tabM D n).length = n := by simp [tabM]
theorem tabM_get {D : Nat → Nat} {n i : Nat} (h : i < n) : (tabM D n)[i]? = some (D i) := by
  unfold tabM
  rw [List.getElem?_map, List.getElem?_range h]
  rfl
theorem tabM_set {D E : Nat → Nat} {n k m : Nat} (hk : E k = m) (ho : ∀ i, i ≠ k → E i = D i) : (tabM D n).set k m = tabM E n := by
  refine List.ext_getElem? fun i => ?_
  rw [List.getElem?_set]
  by_cases c : k = i
  · subst c
    rw [if_pos rfl, tabM_len]
    by_cases l : k < n
    · rw [if_pos l, tabM_get l, hk]
    · rw [if_neg l, List.getElem?_eq_none (by rw [tabM_len]; omega)]
  · rw [if_neg c]
    by_cases l : i < n
    · rw [tabM_get l, tabM_get l, ho i (fun z => c z.symm)]
    · rw [List.getElem?_eq_none (by rw [tabM_len]; omega), List.getElem?_eq_none (by rw [tabM_len]; omega)]
structure Dst (DC : Addr) (H : Hp) (a : DA) (n : Nat) (D L : Nat → Nat) (W : List Int) : Prop where
  ob : H a.p = some (.ins DC a.dx [("doers", .ref a.da), ("_mutual", .bl false), ("_lost", .ref a.la), ("_waiting", .ref a.wa)])
  d : MsAt H a.da (tabM D n)
  l : MsAt H a.la (tabM L n)
  w : IL H a.wa W
  dl : a.da ≠ a.la
  dw : a.da ≠ a.wa
  lw : a.la ≠ a.wa
def Kp3 (a : DA) (H G : Hp) : Prop := ∀ b o, b ≠ a.da → b ≠ a.la → b ≠ a.wa → H b = some o → G b = some o
theorem Kp3.refl (a : DA) (H : Hp) : Kp3 a H H := fun _ _ _ _ _ e => e
theorem Kp3.trans {a : DA} {H G F : Hp} (x : Kp3 a H G) (y : Kp3 a G F) : Kp3 a H F := fun b o n1 n2 n3 e => y b o n1 n2 n3 (x b o n1 n2 n3 e)
theorem Kp3.of {a : DA} {H G : Hp} (s : Same H G) : Kp3 a H G := fun b o _ _ _ e => s b o e
theorem Dst.same {DC : Addr} {H G : Hp} {a : DA} {n : Nat} {D L : Nat → Nat} {W : List Int} (h : Dst DC H a n D L W) (s : Same H G) : Dst DC G a n D L W := ⟨s _ _ h.ob, s _ _ h.d, s _ _ h.l, s _ _ h.w, h.dl, h.dw, h.lw⟩
section
variable {P : Program} {w : World} {K : PySem.W.Frag} {mg : Str → Option Value} {base : Heap} {C J B WC DC : Addr}
def spLose (DC : Addr) : Sp := fun vs H Q _ => ∃ (a : DA) (n : Nat) (x : Dt) (s g : Nat), vs = [.ref a.p, .int (s : Nat), .int (g : Nat)] ∧ Dst DC H a n x.D x.L x.W ∧ s < n ∧ x.W.length ≤ 1000000 ∧
  ∀ H', Kp3 a H H' → Dst DC H' a n (lose x s g).D (lose x s g).L (lose x s g).W → Q .non H'
theorem ok_lose {f : Addr} {fd : FuncData} (FF : Fun K "_lose" "Doers._lose" s_Doers__lose f fd) (TD : TxtDo K DC) : FnOk P w K mg base CX0 1 f fd a_Doers__lose (spLose DC) := by
  refine FF.ok sc_Doers__lose (fun vs H Q E h => ?_) (fun cdv A outer s0 H vs Q E hr h => ?_)
  · obtain ⟨a, n, x, s, g, rfl, _⟩ := h
    rfl
  · obtain ⟨a, n, x, s, g, rfl, st, hs, hw, k⟩ := h
    refine ⟨_, (pss_cons (ps_if (PW.pt (pw_and (pt_truth (pv 2) (by intro _; rfl)) (pw_and1 (pt_not (pt_truth (pe_ix ix_list (pe_fld (pv 0) rfl) (pv 1) (fun _ _ => rfl)) (by intro _; rfl)))))) (pss_one (ps_expr (pe_bm PySem.F.plainAttrs_list PySem.F.slot_list_append PySem.F.type_list_append mt_append (pe_fld (pv 0) rfl) (pa_cons (pv 1) pa_nil)))) pss_nil)
      (pss_cons (ps_augS (pe_fld (pv 0) rfl) (pv 1) pget_list (pv 2) ip_or set_list)
      (pss_one (ps_augS (pe_fld (pv 0) rfl) (pv 1) pget_list (pe_un un_inv (pv 2)) ip_and set_list)))), ?_⟩
    have npd : a.p ≠ a.da := ne_of st.ob st.d (by intro z; cases z)
    have npl : a.p ≠ a.la := ne_of st.ob st.l (by intro z; cases z)
    have npw : a.p ≠ a.wa := ne_of st.ob st.w (by intro z; cases z)
    refine ⟨.int (g : Nat), rfl, (((g : Nat) : Int) != 0), rfl, ?_⟩
    by_cases g0 : g = 0
    case' pos =>
      have c0 : (((g : Nat) : Int) != 0) = false := by subst g0; rfl
      rw [c0]
      refine iteF (iteF ?_)
      have eW : (lose x s g).W = x.W := by unfold lose; dsimp only; rw [if_neg fun z => z.1 g0]
      have fr := Kp3.refl a H
      have st1 : Dst DC H a n x.D x.L (lose x s g).W := by rw [eW]; exact st
    case' neg =>
      have c0 : (((g : Nat) : Int) != 0) = true := by simp [bne_iff_ne]; omega
      rw [c0]
      refine iteT ?_
      refine ⟨.ref a.p, rfl, a.p, DC, a.dx, _, .ref a.la, rfl, st.ob, TD.cl, TD.nL, rfl, .int (s : Nat), rfl, a.la, _, _, .int (x.L s : Nat), rfl, rfl, SqL.of st.l, atI_nat (j := s) (by rw [List.getElem?_map, tabM_get hs]; rfl), (((x.L s : Nat) : Int) != 0), rfl, ?_⟩
      by_cases l0 : x.L s = 0
      case' pos =>
        have c1 : (((x.L s : Nat) : Int) != 0) = false := by rw [l0]; rfl
        rw [c1]
        refine iteT ?_
        refine ⟨.ref a.p, rfl, a.p, DC, a.dx, _, .ref a.wa, rfl, st.ob, TD.cl, TD.nW, rfl, .inl ⟨rfl, _, SqL.of st.w⟩, .int (s : Nat), rfl, a.wa, _, _, rfl, rfl, st.w, by rw [List.length_map]; show _ < 16777216; omega, ?_⟩
        have eW : (lose x s g).W = x.W ++ [(s : Int)] := by unfold lose; dsimp only; rw [if_pos ⟨g0, l0⟩]
        have fr : Kp3 a H (upd H a.wa (.lst (x.W.map V.int ++ [.int (s : Nat)]))) := fun b o n1 n2 n3 e => by rw [upd_ne n3]; exact e
        have st1 : Dst DC (upd H a.wa (.lst (x.W.map V.int ++ [.int (s : Nat)]))) a n x.D x.L (lose x s g).W := ⟨by rw [upd_ne npw]; exact st.ob, by show _ = _; rw [upd_ne st.dw]; exact st.d, by show _ = _; rw [upd_ne st.lw]; exact st.l, by show _ = _; rw [upd_same, eW, List.map_append]; rfl, st.dl, st.dw, st.lw⟩
      case' neg =>
        have c1 : (((x.L s : Nat) : Int) != 0) = true := by simp [bne_iff_ne]; omega
        rw [c1]
        refine iteF ?_
        have eW : (lose x s g).W = x.W := by unfold lose; dsimp only; rw [if_neg fun z => l0 z.2]
        have fr := Kp3.refl a H
        have st1 : Dst DC H a n x.D x.L (lose x s g).W := by rw [eW]; exact st
    all_goals
      refine ⟨.ref a.p, rfl, a.p, DC, a.dx, _, .ref a.la, rfl, st1.ob, TD.cl, TD.nL, rfl, .int (s : Nat), rfl, a.la, _, _, _, rfl, rfl, SqL.of st1.l, atI_nat (j := s) (by rw [List.getElem?_map, tabM_get hs]; rfl), .int (g : Nat), rfl, _, _, rfl, rfl, ?_⟩
      have o1 : (fun i j : Int => V.int (Builtin.bitOr i j)) ((x.L s : Nat) : Int) ((g : Nat) : Int) = V.int (((lose x s g).L s : Nat) : Int) := by
        show V.int _ = _
        rw [or_nat]
        unfold lose
        dsimp only
        rw [if_pos rfl]
      rw [o1]
      refine ⟨a.la, _, _, s, rfl, rfl, st1.l, ixN_nat (by rw [List.length_map, tabM_len]; exact hs), ?_⟩
      rw [← List.map_set (f := fun m : Nat => V.int ((m : Nat) : Int)), tabM_set (E := (lose x s g).L) rfl fun i hi => by unfold lose; dsimp only; rw [if_neg hi]]
      refine ⟨.ref a.p, rfl, a.p, DC, a.dx, _, .ref a.da, rfl, by rw [upd_ne npl]; exact st1.ob, TD.cl, TD.nD, rfl, .int (s : Nat), rfl, a.da, _, _, _, rfl, rfl, SqL.of (by rw [upd_ne st.dl]; exact st1.d), atI_nat (j := s) (by rw [List.getElem?_map, tabM_get hs]; rfl), .int (g : Nat), rfl, _, rfl, _, _, rfl, rfl, ?_⟩
      have o2 : (fun i j : Int => V.int (Builtin.bitAnd i j)) ((x.D s : Nat) : Int) (Builtin.bitNot ((g : Nat) : Int)) = V.int (((lose x s g).D s : Nat) : Int) := by
        show V.int _ = _
        rw [wo_nat]
        unfold lose
        dsimp only
        rw [if_pos rfl]
      rw [o2]
      refine ⟨a.da, _, _, s, rfl, rfl, by rw [upd_ne st.dl]; exact st1.d, ixN_nat (by rw [List.length_map, tabM_len]; exact hs), ?_⟩
      rw [← List.map_set (f := fun m : Nat => V.int ((m : Nat) : Int)), tabM_set (E := (lose x s g).D) rfl fun i hi => by unfold lose; dsimp only; rw [if_neg hi]]
      refine k _ (fun b o n1 n2 n3 e => by rw [upd_ne n1, upd_ne n2]; exact fr b o n1 n2 n3 e) ⟨by rw [upd_ne npd, upd_ne npl]; exact st1.ob, upd_same, by show _ = _; rw [upd_ne st.dl.symm, upd_same], by show _ = _; rw [upd_ne st.dw.symm, upd_ne st.lw.symm]; exact st1.w, st.dl, st.dw, st.lw⟩
end
end Fw

set_option maxRecDepth 100000
set_option maxHeartbeats 8000000
namespace Fw
open PySem PySem.Spec PyProof.Rows L2
/-- a value's truth as a test, within a comprehension -/
def tTru (K : PySem.W.Frag) (ta : TE) : TT := fun σ H Q => ta σ H fun x H' => ∃ k, TruV K x H' k ∧ Q k H'
def natsOf (n m : Nat) : List Nat := (bitsOf n m).map Int.toNat
theorem natsOf_mem {n m s : Nat} : s ∈ natsOf n m ↔ s < n ∧ bt m s := by
  unfold natsOf
  rw [List.mem_map]
  constructor
  · rintro ⟨z, hz, rfl⟩
    have := mem_bits.mp hz
    exact ⟨by omega, this.2⟩
  · rintro ⟨h1, h2⟩
    exact ⟨(s : Int), mem_bits.mpr ⟨⟨by omega, by omega⟩, by rw [Int.toNat_natCast]; exact h2⟩, Int.toNat_natCast s⟩
/-- those of look that no row leads to d from -/
def unOf (f : Int → List Int) (n d look : Nat) : Nat := maskOf ((bitsOf n look).filter fun t => decide ((maskOf (f t) &&& d) = 0))
theorem unOf_bt {f : Int → List Int} {n d look t : Nat} : bt (unOf f n d look) t ↔ (t < n ∧ bt look t) ∧ (maskOf (f (t : Int)) &&& d) = 0 := by
  have h := maskOf_in (X := (bitsOf n look).filter fun t => decide ((maskOf (f t) &&& d) = 0)) (fun x hx => (mem_bits.mp (List.mem_filter.mp hx).1).1.1) (s := (t : Int)) (Int.natCast_nonneg t)
  unfold mIn at h
  rw [Int.toNat_natCast] at h
  unfold bt unOf
  rw [h, sIn_iff, List.mem_filter, mem_bits, decide_eq_true_eq, Int.toNat_natCast]
  constructor
  · rintro ⟨⟨⟨a, b⟩, c⟩, e⟩
    exact ⟨⟨by omega, c⟩, e⟩
  · rintro ⟨⟨a, b⟩, c⟩
    exact ⟨⟨⟨Int.natCast_nonneg t, by omega⟩, b⟩, c⟩
section
variable {P : Program} {w : World} {K : PySem.W.Frag} {mg : Str → Option Value} {base : Heap} {C J B WC DC : Addr}
def spTkO (DC : Addr) : Sp := fun vs H Q _ => ∃ (a : DA) (n : Nat) (x : Dt) (starts e look : Nat) (ba : Addr) (f : Int → List Int), vs = [.ref a.p, .int (starts : Nat), .ref ba, .int (e : Nat), .int (look : Nat)] ∧ Dst DC H a n x.D x.L x.W ∧ MsAt H ba (rowsM f n) ∧ ba ≠ a.da ∧ ba ≠ a.la ∧ ba ≠ a.wa ∧
  e < n ∧ starts < 2 ^ n ∧ look < 2 ^ n ∧ n ≤ 400 ∧ x.W.length + sumD x.D n ≤ 1000000 ∧
  ∀ H', Kp3 a H H' → Dst DC H' a n (takes x (unOf f n (x.D e) look) (natsOf n starts)).D (takes x (unOf f n (x.D e) look) (natsOf n starts)).L (takes x (unOf f n (x.D e) look) (natsOf n starts)).W → Q .non H'
theorem ok_take_out {f fl : Addr} {fd fdl : FuncData} (FF : Fun K "_take_out" "Doers._take_out" s_Doers__take_out f fd) (TD : TxtDo K DC) (h_states_in : Has P w K mg base "states_in" 1 a_states_in spSt) (h_mask_of : Has P w K mg base "mask_of" 1 a_mask_of spMask)
    (m_Doers_lose : Meth K DC "_lose" fl) (g_Doers_lose : FnOk P w K mg base CX0 1 fl fdl a_Doers__lose (spLose DC)) (b_Doers_lose : L2.Binds K fdl a_Doers__lose []) : FnOk P w K mg base CX0 2 f fd a_Doers__take_out (spTkO DC) := by
  refine FF.ok sc_Doers__take_out (fun vs H Q E h => ?_) (fun cdv A outer s0 H vs Q E hr h => ?_)
  · obtain ⟨a, n, x, starts, e, look, ba, f, rfl, _⟩ := h
    rfl
  · obtain ⟨a, n, x, starts, e, look, ba, f, rfl, st, hb, nbd, nbl, nbw, he, hst, hlk, hn, hW, k⟩ := h
    refine ⟨_, (pss_cons (ps_set (i := 5) sc_Doers__take_out.nd rfl (.inr rfl) (pe_ix ix_list (pe_fld (pv 0) rfl) (pv 3) (fun _ _ => rfl)))
      (pss_cons (ps_set (i := 6) sc_Doers__take_out.nd rfl (.inl rfl) (pe_callH h_mask_of (hr.mono (by omega)) (pa_cons (pe_lc (own := [("state", 10)]) (g := gName 10) rfl sc_Doers__take_out.nd (pi_list (pe_callH h_states_in (hr.mono (by omega)) (pa_cons (pv 4) pa_nil))) (blkOk_by (own := [("state", 10)]) (N := n_Doers__take_out) (sc := defScope s_Doers__take_out) (by decide +kernel)) (fun _ _ _ _ _ => (pg_name (i := 10) sc_Doers__take_out.nd rfl (.inl rfl))) (fun _ _ _ _ _ => (pts_one (pt_not (@id (PT _ _ (tTru K _)) (pt_truth (pe_op op_and (pe_ix (@id (IxR _ (rIxL K)) ix_list) (pv 2) (pv 10) (fun _ _ => rfl)) (pv 5)) (by intro _; rfl)))))) (fun _ _ _ _ _ => (pv 10))) pa_nil)))
      (pss_one (ps_for PassesOwn.never rfl (pi_list (pe_callH h_states_in (hr.mono (by omega)) (pa_cons (pv 1) pa_nil))) (pg_name (i := 7) sc_Doers__take_out.nd rfl (.inl rfl)) (pss_cons (ps_set (i := 8) sc_Doers__take_out.nd rfl (.inl rfl) (pe_op op_and (pe_ix ix_list (pe_fld (pv 0) rfl) (pv 7) (fun _ _ => rfl)) (pv 6)))
      (pss_cons (ps_expr (pe_meth (pv 0) TD.cl m_Doers_lose g_Doers_lose (hr.mono (by omega)) b_Doers_lose .nil pass0 (pa_cons (pv 7) (pa_cons (pv 8) pa_nil))))
      (pss_one (ps_if (pt_val (pe_fld (pv 0) rfl)) (pss_one (ps_for PassesOwn.never rfl (pi_list (pe_callH h_states_in (hr.mono (by omega)) (pa_cons (pv 8) pa_nil))) (pg_name (i := 9) sc_Doers__take_out.nd rfl (.inl rfl)) (pss_one (ps_expr (pe_meth (pv 0) TD.cl m_Doers_lose g_Doers_lose (hr.mono (by omega)) b_Doers_lose .nil pass0 (pa_cons (pv 9) (pa_cons (pe_op op_oneShl pe_int (pv 7)) pa_nil))))))) pss_nil)))))))), ?_⟩
    refine ⟨.ref a.p, rfl, a.p, DC, a.dx, _, .ref a.da, rfl, st.ob, TD.cl, TD.nD, rfl, .int (e : Nat), rfl, a.da, _, _, .int (x.D e : Nat), rfl, rfl, SqL.of st.d, atI_nat (j := e) (by rw [List.getElem?_map, tabM_get he]; rfl), ?_⟩
    refine ⟨.int (look : Nat), rfl, n, look, rfl, hlk, by omega, fun l H1 s1 nl gl => ⟨l, rfl, ⟨_, SqL.of gl⟩, fun D hD => ?_⟩⟩
    refine lc_fil (fun t => decide ((maskOf (f t) &&& x.D e) = 0)) gl hD (Nat.le_trans (bitsOf_len n look) hn) (fun t ht G Y N sG hY hN => ?_) (fun G sG gD => ?_)
    · obtain ⟨⟨t0, t1⟩, _⟩ := mem_bits.mp ht
      obtain ⟨t, rfl⟩ := Int.eq_ofNat_of_zero_le t0
      refine ⟨rfl, .ref ba, rfl, .int (t : Nat), rfl, ba, _, _, .int (maskOf (f (t : Int)) : Nat), rfl, rfl, SqL.of (sG _ _ (s1 _ _ hb)), atI_nat (j := t) (by rw [List.getElem?_map, rowsM_get (by omega)]; rfl), .int (x.D e : Nat), rfl, _, _, rfl, rfl, (((maskOf (f (t : Int)) &&& x.D e : Nat) : Int) != 0), by show _ = _; rw [and_nat], ?_⟩
      by_cases z : (maskOf (f (t : Int)) &&& x.D e) = 0
      · rw [show (((maskOf (f (t : Int)) &&& x.D e : Nat) : Int) != 0) = false by rw [z]; rfl]
        exact iteT ⟨_, rfl, hY (decide_eq_true z) _ (Same.refl _)⟩
      · rw [show (((maskOf (f (t : Int)) &&& x.D e : Nat) : Int) != 0) = true by simp [bne_iff_ne]; omega]
        exact iteF (hN (decide_eq_false z) _ (Same.refl _))
    · have s2 := s1.trans sG
      refine ⟨D, _, rfl, gD, fun y hy => ?_, ?_⟩
      · have := (mem_bits.mp (List.mem_filter.mp hy).1).1
        omega
      refine ⟨.int (starts : Nat), rfl, n, starts, rfl, hst, by omega, fun l2 H2 s3 nl2 gl2 => ⟨l2, rfl, ⟨_, SqL.of gl2⟩, ?_⟩⟩
      have s23 := s2.trans s3
      have st2 := st.same s23
      have k2 : Kp3 a H H2 := Kp3.of s23
      have nl2d : l2 ≠ a.da := fun z => by
        have := s2 _ _ st.d
        rw [← z, nl2] at this
        cases this
      have nl2l : l2 ≠ a.la := fun z => by
        have := s2 _ _ st.l
        rw [← z, nl2] at this
        cases this
      have nl2w : l2 ≠ a.wa := fun z => by
        have := s2 _ _ st.w
        rw [← z, nl2] at this
        cases this
      refine for_list (xs := (bitsOf n starts).map V.int) (fun i σ G => ∃ (y7 y8 : Option V), σ = [some (.ref a.p), some (.int (starts : Nat)), some (.ref ba), some (.int (e : Nat)), some (.int (look : Nat)), some (.int (x.D e : Nat)), some (.int (unOf f n (x.D e) look : Nat)), y7, y8, none, none] ∧ Kp3 a H2 G ∧
          Dst DC G a n (takes x (unOf f n (x.D e) look) ((natsOf n starts).take i)).D (takes x (unOf f n (x.D e) look) ((natsOf n starts).take i)).L (takes x (unOf f n (x.D e) look) ((natsOf n starts).take i)).W)
        ⟨none, none, rfl, Kp3.refl a H2, st2⟩ (fun i σ G _ ⟨_, _, _, kp, _⟩ => SqL.of (kp _ _ nl2d nl2l nl2w gl2)) ?_ ?_
      · rintro i z σ G hz ⟨y7, y8, rfl, kp, sG⟩
        obtain ⟨z, hz', rfl⟩ := ints_nth hz
        have zm := (mem_bits.mp (List.mem_of_getElem? hz')).1
        obtain ⟨s, rfl⟩ := Int.eq_ofNat_of_zero_le zm.1
        have sn : s < n := by omega
        have hN : (natsOf n starts)[i]? = some s := by
          unfold natsOf
          rw [List.getElem?_map, hz']
          rfl
        have nx : (natsOf n starts).take (i + 1) = (natsOf n starts).take i ++ [s] := by rw [List.take_add_one, hN]; rfl
        have wn := takes_went (n := n) (un := unOf f n (x.D e) look) (S := (natsOf n starts).take i) (x := x) fun q hq => (natsOf_mem.mp (List.mem_of_mem_take hq)).1
        have wl : (takes x (unOf f n (x.D e) look) ((natsOf n starts).take i)).W.length ≤ 1000000 := by
          obtain ⟨V, v1, v2, _⟩ := wn.wai
          rw [v1, List.length_append]
          omega
        have ts := takes_snoc (x := x) (un := unOf f n (x.D e) look) (s := s) (S := (natsOf n starts).take i)
        rw [← nx] at ts
        generalize takes x (unOf f n (x.D e) look) ((natsOf n starts).take i) = y at sG wl ts wn
        refine ⟨.ref a.p, rfl, a.p, DC, a.dx, _, .ref a.da, rfl, sG.ob, TD.cl, TD.nD, rfl, .int (s : Nat), rfl, a.da, _, _, .int (y.D s : Nat), rfl, rfl, SqL.of sG.d, atI_nat (j := s) (by rw [List.getElem?_map, tabM_get sn]; rfl), .int (unOf f n (x.D e) look : Nat), rfl, _, _, rfl, rfl, ?_⟩
        have o1 : (fun i j : Int => V.int (Builtin.bitAnd i j)) ((y.D s : Nat) : Int) ((unOf f n (x.D e) look : Nat) : Int) = V.int ((y.D s &&& unOf f n (x.D e) look : Nat) : Int) := by
          show V.int _ = _
          rw [and_nat]
        rw [o1]
        refine ⟨.ref a.p, rfl, a.p, a.dx, _, rfl, sG.ob, rfl, .int (s : Nat), rfl, .int (y.D s &&& unOf f n (x.D e) look : Nat), rfl, a, n, y, s, _, rfl, sG, sn, wl, fun G2 k3 sG2 => ?_⟩
        rw [← ts] at sG2
        refine ⟨.ref a.p, rfl, a.p, DC, a.dx, _, .bl false, rfl, sG2.ob, TD.cl, TD.nM, rfl, false, rfl, iteF ?_⟩
        exact ⟨_, _, rfl, kp.trans k3, sG2⟩
      · rintro σ G ⟨y7, y8, rfl, kp, sG⟩
        rw [List.length_map, List.take_of_length_le (by unfold natsOf; rw [List.length_map]; exact Nat.le_refl _)] at sG
        exact k G (k2.trans kp) sG
end
end Fw

set_option maxRecDepth 100000
set_option maxHeartbeats 16000000
namespace Fw
open PySem PySem.Spec PyProof.Rows L2
theorem filter_moreD {S : Int → Bool} {k : Int} : ∀ {l : List Int}, l.Nodup → k ∈ l → (l.filter fun j => S j || decide (j = k)).length = if S k = true then (l.filter S).length else (l.filter S).length + 1
  | [], _, h => by cases h
  | a :: l, nd, h => by
    have nd' := List.nodup_cons.mp nd
    by_cases e : a = k
    · subst e
      have same : (l.filter fun j => S j || decide (j = a)) = l.filter S := by
        refine List.filter_congr fun x hx => ?_
        have : x ≠ a := fun q => nd'.1 (q ▸ hx)
        simp [this]
      by_cases hs : S a = true
      · simp [List.filter_cons, hs, same]
      · simp [List.filter_cons, hs, same]
    · have hk : k ∈ l := (List.mem_cons.mp h).resolve_left fun q => e q.symm
      have ih := filter_moreD (S := S) nd'.2 hk
      by_cases ha : S a = true
      · simp only [List.filter_cons, ha, Bool.true_or, if_true, List.length_cons, ih]
        split <;> rfl
      · have ha' : S a = false := by simpa using ha
        simp only [List.filter_cons, ha', Bool.false_or, decide_eq_false e, Bool.false_eq_true, if_false, ih]
theorem none_lenD (l : List Int) : 0 = (l.filter fun _ => false).length := by
  induction l with
  | nil => rfl
  | cons a l ih => simpa [List.filter_cons] using ih
/-- a step from a state to a state -/
def RS (ss : List T3) (s : Nat) (l : Int) (e : Nat) : Prop := ((s : Int), l, (e : Int)) ∈ ss
theorem mem_begS {ss : List T3} {s l x : Int} : x ∈ begS ss s l ↔ (s, l, x) ∈ ss := by
  unfold begS
  rw [List.mem_map]
  constructor
  · rintro ⟨⟨a, b, c⟩, h, rfl⟩
    obtain ⟨h1, h2⟩ := List.mem_filter.mp h
    obtain ⟨h3, h4⟩ := Bool.and_eq_true_iff.mp h2
    have e1 : a = s := of_decide_eq_true h3
    have e2 : b = l := of_decide_eq_true h4
    subst e1 e2
    exact h1
  · intro h
    exact ⟨(s, l, x), List.mem_filter.mpr ⟨h, by simp⟩, rfl⟩
theorem mem_befS {ss : List T3} {s l x : Int} : x ∈ befS ss s l ↔ (x, l, s) ∈ ss := by
  unfold befS
  rw [List.mem_map]
  constructor
  · rintro ⟨⟨a, b, c⟩, h, rfl⟩
    obtain ⟨h1, h2⟩ := List.mem_filter.mp h
    obtain ⟨h3, h4⟩ := Bool.and_eq_true_iff.mp h2
    have e1 : c = s := of_decide_eq_true h3
    have e2 : b = l := of_decide_eq_true h4
    subst e1 e2
    exact h1
  · intro h
    exact ⟨(x, l, s), List.mem_filter.mpr ⟨h, by simp⟩, rfl⟩
def InN (n : Nat) (ss : List T3) : Prop := ∀ p ∈ ss, 0 ≤ p.1 ∧ p.1 < (n : Int) ∧ 0 ≤ p.2.2 ∧ p.2.2 < (n : Int)
theorem beg_bt {n : Nat} {ss : List T3} (hin : InN n ss) {t u : Nat} {l : Int} : bt (maskOf (begS ss (t : Int) l)) u ↔ RS ss t l u := by
  have h := maskOf_in (X := begS ss (t : Int) l) (fun x hx => (hin _ (mem_begS.mp hx)).2.2.1) (s := (u : Int)) (Int.natCast_nonneg u)
  unfold mIn at h
  rw [Int.toNat_natCast] at h
  unfold bt RS
  rw [h, sIn_iff, mem_begS]
theorem bef_bt {n : Nat} {ss : List T3} (hin : InN n ss) {e s : Nat} {l : Int} : bt (maskOf (befS ss (e : Int) l)) s ↔ RS ss s l e := by
  have h := maskOf_in (X := befS ss (e : Int) l) (fun x hx => (hin _ (mem_befS.mp hx)).1) (s := (s : Int)) (Int.natCast_nonneg s)
  unfold mIn at h
  rw [Int.toNat_natCast] at h
  unfold bt RS
  rw [h, sIn_iff, mem_befS]
theorem bef_lt {n : Nat} {ss : List T3} (hin : InN n ss) {e l : Int} : maskOf (befS ss e l) < 2 ^ n := maskOf_lt fun x hx => ⟨(hin _ (mem_befS.mp hx)).1, (hin _ (mem_befS.mp hx)).2.1⟩
theorem beg_lt {n : Nat} {ss : List T3} (hin : InN n ss) {e l : Int} : maskOf (begS ss e l) < 2 ^ n := maskOf_lt fun x hx => ⟨(hin _ (mem_begS.mp hx)).2.2.1, (hin _ (mem_begS.mp hx)).2.2.2⟩
theorem un_bt {n : Nat} {ss : List T3} (hin : InN n ss) {l : Int} {d look t : Nat} : bt (unOf (fun s => begS ss s l) n d look) t ↔ (t < n ∧ bt look t) ∧ ∀ u, RS ss t l u → ¬ bt d u := by
  rw [unOf_bt]
  refine and_congr_right fun _ => ⟨fun h u r b => ?_, fun h => bt_zero fun j b => ?_⟩
  · have : bt (maskOf (begS ss (t : Int) l) &&& d) u := bt_and.mpr ⟨(beg_bt hin).mpr r, b⟩
    rw [h] at this
    unfold bt at this
    rw [Nat.zero_testBit] at this
    cases this
  · obtain ⟨b1, b2⟩ := bt_and.mp b
    exact h j ((beg_bt hin).mp b1) b2
theorem all_bt {n t : Nat} : bt (2 ^ n - 1) t ↔ t < n := by
  unfold bt
  rw [Nat.testBit_two_pow_sub_one, decide_eq_true_eq]
theorem led_bt {n : Nat} {ss : List T3} (hin : InN n ss) {l : Int} {m t : Nat} (hm : m < 2 ^ n) : bt (unionOf n (rowsM (fun s => befS ss s l) n) m) t ↔ ∃ u, bt m u ∧ RS ss t l u := by
  unfold unionOf
  have : bt (orAll ((bitsOf n m).map fun i => (rowsM (fun s => befS ss s l) n).getD i.toNat 0)) t ↔ ∃ i ∈ bitsOf n m, bt ((rowsM (fun s => befS ss s l) n).getD i.toNat 0) t := by
    unfold bt
    rw [orAll_bit, List.any_eq_true]
    constructor
    · rintro ⟨x, hx, h⟩
      obtain ⟨i, hi, rfl⟩ := List.mem_map.mp hx
      exact ⟨i, hi, h⟩
    · rintro ⟨i, hi, h⟩
      exact ⟨_, List.mem_map.mpr ⟨i, hi, rfl⟩, h⟩
  rw [this]
  constructor
  · rintro ⟨i, hi, h⟩
    obtain ⟨⟨i0, i1⟩, i2⟩ := mem_bits.mp hi
    obtain ⟨u, rfl⟩ := Int.eq_ofNat_of_zero_le i0
    rw [Int.toNat_natCast, List.getD_eq_getElem?_getD, rowsM_get (by omega)] at h
    rw [Int.toNat_natCast] at i2
    exact ⟨u, i2, (bef_bt hin).mp h⟩
  · rintro ⟨u, h1, h2⟩
    have un : u < n := by
      have := (hin _ h2).2.2.2
      simp only at this
      omega
    refine ⟨(u : Int), mem_bits.mpr ⟨⟨by omega, by omega⟩, by rw [Int.toNat_natCast]; exact h1⟩, ?_⟩
    rw [Int.toNat_natCast, List.getD_eq_getElem?_getD, rowsM_get un]
    exact (bef_bt hin).mpr h2
theorem led_lt {n : Nat} {ss : List T3} (hin : InN n ss) {l : Int} {m : Nat} : unionOf n (rowsM (fun s => befS ss s l) n) m < 2 ^ n := orAll_lt fun x hx => by
  obtain ⟨i, hi, rfl⟩ := List.mem_map.mp hx
  have := (mem_bits.mp hi).1
  obtain ⟨u, rfl⟩ := Int.eq_ofNat_of_zero_le this.1
  rw [Int.toNat_natCast, List.getD_eq_getElem?_getD, rowsM_get (by omega)]
  exact bef_lt hin
theorem rep_zero (n : Nat) : (List.replicate ((n : Nat) : Int).toNat [V.int 0]).flatten = (tabM (fun _ => 0) n).map fun m => V.int ((m : Nat) : Int) := by
  rw [Int.toNat_natCast]
  have e : tabM (fun _ => 0) n = List.replicate n 0 := by
    unfold tabM
    refine List.ext_getElem? fun i => ?_
    rw [List.getElem?_map, List.getElem?_replicate]
    by_cases c : i < n
    · rw [if_pos c, List.getElem?_range c]
      rfl
    · rw [if_neg c, List.getElem?_eq_none (by rw [List.length_range]; omega)]
      rfl
  rw [e, List.map_replicate]
  clear e
  induction n with
  | zero => rfl
  | succ n ih => rw [List.replicate_succ, List.flatten_cons, ih, List.replicate_succ]; rfl
theorem bt_lt {n m : Nat} (h : ∀ j, bt m j → j < n) : m < 2 ^ n := Nat.lt_pow_two_of_testBit _ fun i hi => by
  cases c : m.testBit i
  · rfl
  · have := h i c
    omega
/-- what stands at the labels' places -/
structure Lb (H : Hp) (a : DA) (n : Nat) (ss : List T3) (ls : List Int) (fas rs : List Addr) : Prop where
  l1 : fas.length = ls.length
  l2 : rs.length = ls.length
  fa : ∀ (i : Nat) (l : Int) (f : Addr), ls[i]? = some l → fas[i]? = some f → MsAt H f (rowsM (fun s => befS ss s l) n) ∧ f ≠ a.da ∧ f ≠ a.la ∧ f ≠ a.wa
  rr : ∀ (i : Nat) (l : Int) (r : Addr), ls[i]? = some l → rs[i]? = some r → ∃ ba fb, H r = some (.tup [.ref ba, .ref fb]) ∧ MsAt H ba (rowsM (fun s => begS ss s l) n) ∧ MsAt H fb (rowsM (fun s => befS ss s l) n) ∧ (ba ≠ a.da ∧ ba ≠ a.la ∧ ba ≠ a.wa) ∧ fb ≠ a.da ∧ fb ≠ a.la ∧ fb ≠ a.wa
section
variable {P : Program} {w : World} {K : PySem.W.Frag} {mg : Str → Option Value} {base : Heap} {C J B WC DC : Addr}
def flds (a : DA) : List (Str × V) := [("doers", .ref a.da), ("_mutual", .bl false), ("_lost", .ref a.la), ("_waiting", .ref a.wa)]
def spDo (K : PySem.W.Frag) (DC : Addr) : Sp := fun vs H Q _ => ∃ (p dx d0 ta : Addr) (as : List Addr) (ss : List T3) (n : Nat) (D0 : Nat → Nat), vs = [.ref p, .ref d0, .ref ta, .ref ta, .bl false] ∧ H p = some (.ins DC dx []) ∧ MsAt H d0 (tabM D0 n) ∧ SqT K H ta (as.map V.ref) ∧ PAt H as ss ∧
  InN n ss ∧ (∀ p ∈ ss, 0 ≤ p.2.1 ∧ p.2.1 < 16) ∧ ss.length ≤ 300 ∧ n ≤ 12 ∧ (∀ s t, bt (D0 s) t → t < n) ∧
  ∀ (a : DA) (D : Nat → Nat) H', a.p = p → But p H H' → H' p = some (.ins DC dx (flds a)) → MsAt H' a.da (tabM D n) → H a.da = none → (∀ i j, bt (D i) j → bt (D0 i) j) → SimG (RS ss) (fun s t => bt (D s) t) → (∀ G, SimG (RS ss) G → (∀ s t, G s t → bt (D0 s) t) → ∀ s t, G s t → bt (D s) t) → Q .non H'
theorem ok_Doers_init {f ft : Addr} {fd fdt : FuncData} (FF : Fun K "__init__" "Doers.__init__" s_Doers_init f fd) (T : Txt K mg C J B) (TD : TxtDo K DC) (h_ends_first : Has P w K mg base "ends_first" 3 a_ends_first (spEF K)) (h_step_masks : Has P w K mg base "step_masks" 1 a_step_masks (spSM K))
    (h_led : Has P w K mg base "led" 2 a_led spLed) (m_Doers_take_out : Meth K DC "_take_out" ft) (g_Doers_take_out : FnOk P w K mg base CX0 2 ft fdt a_Doers__take_out (spTkO DC)) (b_Doers_take_out : L2.Binds K fdt a_Doers__take_out []) : FnOk P w K mg base CX0 4 f fd a_Doers_init (spDo K DC) := by
  refine FF.ok sc_Doers_init (fun vs H Q E h => ?_) (fun cdv A outer s0 H vs Q E hr h => ?_)
  · obtain ⟨p, dx, d0, ta, as, ss, n, D0, rfl, _⟩ := h
    rfl
  · obtain ⟨p, dx, d0, ta, as, ss, n, D0, rfl, g0, h0, hta, pat, hin, hlb, hss, hn, hD0, k⟩ := h
    refine ⟨_, (pss_cons (ps_set (i := 5) sc_Doers_init.nd rfl (.inr rfl) (pe_callB call_len_seq rfl T.z_len (by decide +kernel) (pa_cons (pv 1) pa_nil)))
      (pss_cons (ps_fld (pv 0) (pe_callTy call_list_of rfl T.z_list (by decide +kernel) (pa_cons (pv 1) pa_nil)) rfl)
      (pss_cons (ps_fld (pv 0) (pv 4) rfl)
      (pss_cons (ps_fld (pv 0) (pe_op op_rep (pe_lst (pa_cons pe_int pa_nil)) (pv 5)) rfl)
      (pss_cons (ps_fld (pv 0) (pe_callH h_ends_first (hr.mono (by omega)) (pa_cons (pv 5) (pa_cons (pv 2) pa_nil))) rfl)
      (pss_cons (ps_set (i := 6) sc_Doers_init.nd rfl (.inl rfl) (pe_callB (cr_sortedSet rfl) rfl T.z_sorted (by decide +kernel) (pa_cons (pe_sci (own := [("_", 18), ("label", 17), ("_", 18)]) rfl sc_Doers_init.nd (pi_tup (pv 2)) (blkOk_by (own := [("_", 18), ("label", 17), ("_", 18)]) (N := n_Doers_init) (sc := defScope s_Doers_init) (by decide +kernel)) (fun _ _ _ _ _ => (show PG _ _ (gTup K 3 _) from pg_tup rfl (pgs_cons (pg_name (i := 18) sc_Doers_init.nd rfl (.inl rfl)) (pgs_cons (pg_name (i := 17) sc_Doers_init.nd rfl (.inl rfl)) (pgs_cons (pg_name (i := 18) sc_Doers_init.nd rfl (.inl rfl)) pgs_nil))))) (fun _ _ _ _ _ => pts_nil) (fun _ _ _ _ _ => (pv 17))) pa_nil)))
      (pss_cons (ps_setLc (i := 7) (own := [("label", 17)]) (g := gName 17) rfl sc_Doers_init.nd rfl rfl (sw_true rfl rfl rfl (by decide +kernel)) (pi_list (pv 6)) (blkOk_by (own := [("label", 17)]) (N := n_Doers_init) (sc := defScope s_Doers_init) (by decide +kernel)) (fun _ _ _ _ _ => (pg_name (i := 17) sc_Doers_init.nd rfl (.inl rfl))) (fun _ _ _ _ _ => pts_nil) (fun _ _ _ _ _ => (pe_ix (@id (IxR _ (rIxT K)) ix_tup) (pe_callH h_step_masks (hr.mono (by omega)) (pa_cons (pv 5) (pa_cons (pv 2) (pa_cons (pv 17) pa_nil)))) pe_int (fun _ _ => rfl))))
      (pss_cons (ps_setLc (i := 8) (own := [("label", 17)]) (g := gName 17) rfl sc_Doers_init.nd rfl rfl (sw_true rfl rfl rfl (by decide +kernel)) (pi_list (pv 6)) (blkOk_by (own := [("label", 17)]) (N := n_Doers_init) (sc := defScope s_Doers_init) (by decide +kernel)) (fun _ _ _ _ _ => (pg_name (i := 17) sc_Doers_init.nd rfl (.inl rfl))) (fun _ _ _ _ _ => pts_nil) (fun _ _ _ _ _ => (pe_callH h_step_masks (hr.mono (by omega)) (pa_cons (pv 5) (pa_cons (pv 3) (pa_cons (pv 17) pa_nil))))))
      (pss_cons (ps_set (i := 9) sc_Doers_init.nd rfl (.inl rfl) (pe_op op_sub (pe_op op_oneShl pe_int (pv 5)) pe_int))
      (pss_cons (ps_set (i := 10) sc_Doers_init.nd rfl (.inl rfl) pe_int)
      (pss_one (ps_while PassesOwn.never (pt_cmpR op_lt (pv 10) (pe_callB call_len_seq rfl T.z_len (by decide +kernel) (pa_cons (pe_fld (pv 0) rfl) pa_nil)) (nomark _)) (pss_cons (ps_set (i := 11) sc_Doers_init.nd rfl (.inl rfl) (pe_ix ix_list (pe_fld (pv 0) rfl) (pv 10) (fun _ _ => rfl)))
      (pss_cons (ps_set (i := 12) sc_Doers_init.nd rfl (.inl rfl) (pe_ix ix_list (pe_fld (pv 0) rfl) (pv 11) (fun _ _ => rfl)))
      (pss_cons (ps_asg pe_int (pg_sub (pe_fld (pv 0) rfl) (pv 11) set_list))
      (pss_cons (ps_for PassesOwn.never rfl (pi_zip rfl T.z_zip (pa_cons (pv 7) (pa_cons (pv 8) pa_nil))) (pg_tup rfl (pgs_cons (pg_name (i := 13) sc_Doers_init.nd rfl (.inl rfl)) (pgs_cons (pg_tup rfl (pgs_cons (pg_name (i := 14) sc_Doers_init.nd rfl (.inl rfl)) (pgs_cons (pg_name (i := 15) sc_Doers_init.nd rfl (.inl rfl)) pgs_nil))) pgs_nil))) (pss_one (ps_if (pt_truth (pe_ix ix_list (pv 13) (pv 11) (fun _ _ => rfl)) (by intro _; rfl)) (pss_cons (ps_set (i := 16) sc_Doers_init.nd rfl (.inl rfl) (pe_ifExp (pt_cmpR op_lt (pv 10) (pv 5) (nomark _)) (pv 9) (pe_callH h_led (hr.mono (by omega)) (pa_cons (pv 15) (pa_cons (pv 12) pa_nil)))))
      (pss_one (ps_expr (pe_meth (pv 0) TD.cl m_Doers_take_out g_Doers_take_out (hr.mono (by omega)) b_Doers_take_out .nil pass0 (pa_cons (pe_ix ix_list (pv 13) (pv 11) (fun _ _ => rfl)) (pa_cons (pv 14) (pa_cons (pv 11) (pa_cons (pv 16) pa_nil)))))))) pss_nil)))
      (pss_one (ps_aug (i := 10) sc_Doers_init.nd rfl (.inl rfl) pe_int ip_add)))))))))))))))))), ?_⟩
    refine ⟨.ref d0, rfl, d0, _, rfl, .inl (SqL.of h0), ?_⟩
    rw [List.length_map, tabM_len]
    refine ⟨.ref d0, rfl, d0, _, rfl, .inl (SqL.of h0), fun da hda => ?_⟩
    have s1 := Same.new (o := .lst ((tabM D0 n).map fun m => V.int (m : Nat))) hda
    have g1 := s1 _ _ g0
    have d1 : MsAt (upd H da (.lst ((tabM D0 n).map fun m => V.int (m : Nat)))) da (tabM D0 n) := upd_same
    have npd : da ≠ p := ne_of_none g0 hda |>.symm
    have B1 : But p H (upd H da (.lst ((tabM D0 n).map fun m => V.int (m : Nat)))) := fun b o _ e => s1 b o e
    have nda := hda
    generalize upd H da (.lst ((tabM D0 n).map fun m => V.int (m : Nat))) = H1 at g1 d1 B1
    clear s1 hda
    have st_ : ∀ {G : Hp} {o : HO}, But p H G → But p H (upd G p o) := fun B b o n e => by rw [upd_ne n]; exact B b o n e
    have sm_ : ∀ {G F : Hp}, But p H G → Same G F → But p H F := fun B s b o n e => s b o (B b o n e)
    refine ⟨.ref p, rfl, p, DC, dx, _, rfl, g1, TD.cl, TD.nD, by show 0 < 1000; decide, ?_⟩
    rw [show putF "doers" (V.ref da) ([] : List (Str × V)) = ([("doers", V.ref da)] : List (Str × V)) from rfl]
    have B2 := st_ (o := .ins DC dx [("doers", V.ref da)]) B1
    have g2 : (upd H1 p (.ins DC dx [("doers", V.ref da)])) p = some (.ins DC dx [("doers", V.ref da)]) := upd_same
    have d2 : MsAt (upd H1 p (.ins DC dx [("doers", V.ref da)])) da (tabM D0 n) := by show _ = _; rw [upd_ne npd]; exact d1
    generalize upd H1 p (.ins DC dx [("doers", V.ref da)]) = H2 at B2 g2 d2
    clear B1 g1 d1
    refine ⟨.bl false, rfl, .ref p, rfl, p, DC, dx, _, rfl, g2, TD.cl, TD.nM, by show 1 < 1000; decide, ?_⟩
    rw [show putF "_mutual" (V.bl false) ([("doers", V.ref da)] : List (Str × V)) = ([("doers", V.ref da), ("_mutual", .bl false)] : List (Str × V)) from rfl]
    have B3 := st_ (o := .ins DC dx [("doers", V.ref da), ("_mutual", .bl false)]) B2
    have g3 : (upd H2 p (.ins DC dx [("doers", V.ref da), ("_mutual", .bl false)])) p = some (.ins DC dx [("doers", V.ref da), ("_mutual", .bl false)]) := upd_same
    have d3 : MsAt (upd H2 p (.ins DC dx [("doers", V.ref da), ("_mutual", .bl false)])) da (tabM D0 n) := by show _ = _; rw [upd_ne npd]; exact d2
    generalize upd H2 p (.ins DC dx [("doers", V.ref da), ("_mutual", .bl false)]) = H3 at B3 g3 d3
    clear B2 g2 d2
    have zero := rep_zero n
    refine ⟨by show 1 ≤ sizeLine; decide, fun z0 hz0 => ⟨.int (n : Nat), rfl, ?_⟩⟩
    have s34 := Same.new (o := .lst [.int 0]) hz0
    refine ⟨z0, n, _, rfl, rfl, upd_same, by omega, by omega, Nat.le_trans (Nat.le_of_eq (show 1 * ((n : Nat) : Int).toNat = n by omega)) (Nat.le_trans hn (by decide)), fun la hla => ?_⟩
    rw [zero]
    have s35 := s34.trans (Same.new (o := .lst ((tabM (fun _ => 0) n).map fun m => V.int (m : Nat))) hla)
    have ndl : da ≠ la := ne_of_none (s34 _ _ d3) hla
    have npl : la ≠ p := (ne_of_none (s34 _ _ g3) hla).symm
    have nHla : H la = none := by
      cases e : H la with
      | none => rfl
      | some u => rw [s34 _ _ (B3 _ _ npl e)] at hla; cases hla
    have B5 := sm_ B3 s35
    have g5 := s35 _ _ g3
    have d5 := s35 _ _ d3
    have l5 : MsAt (upd (upd H3 z0 (.lst [.int 0])) la (.lst ((tabM (fun _ => 0) n).map fun m => V.int (m : Nat)))) la (tabM (fun _ => 0) n) := upd_same
    generalize upd (upd H3 z0 (.lst [.int 0])) la (.lst ((tabM (fun _ => 0) n).map fun m => V.int (m : Nat))) = H5 at B5 g5 d5 l5
    clear s34 s35 hz0 hla B3 g3 d3 zero
    refine ⟨.ref p, rfl, p, DC, dx, _, rfl, g5, TD.cl, TD.nL, by show 2 < 1000; decide, ?_⟩
    rw [show putF "_lost" (V.ref la) ([("doers", V.ref da), ("_mutual", .bl false)] : List (Str × V)) = ([("doers", V.ref da), ("_mutual", .bl false), ("_lost", .ref la)] : List (Str × V)) from rfl]
    have B6 := st_ (o := .ins DC dx [("doers", V.ref da), ("_mutual", .bl false), ("_lost", .ref la)]) B5
    have g6 : (upd H5 p (.ins DC dx [("doers", V.ref da), ("_mutual", .bl false), ("_lost", .ref la)])) p = some (.ins DC dx [("doers", V.ref da), ("_mutual", .bl false), ("_lost", .ref la)]) := upd_same
    have d6 : MsAt (upd H5 p (.ins DC dx [("doers", V.ref da), ("_mutual", .bl false), ("_lost", .ref la)])) da (tabM D0 n) := by show _ = _; rw [upd_ne npd]; exact d5
    have l6 : MsAt (upd H5 p (.ins DC dx [("doers", V.ref da), ("_mutual", .bl false), ("_lost", .ref la)])) la (tabM (fun _ => 0) n) := by show _ = _; rw [upd_ne npl]; exact l5
    generalize upd H5 p (.ins DC dx [("doers", V.ref da), ("_mutual", .bl false), ("_lost", .ref la)]) = H6 at B6 g6 d6 l6
    clear B5 g5 d5 l5
    have tk_ : ∀ {G : Hp}, But p H G → SqT K G ta (as.map V.ref) ∧ PAt G as ss := fun B => ⟨SqT.butO g0 B hta, pat.butO g0 B⟩
    obtain ⟨hta6, pat6⟩ := tk_ B6
    refine ⟨.int (n : Nat), rfl, .ref ta, rfl, n, ta, as, ss, rfl, hta6, pat6, fun q hq => ⟨(hin q hq).1, (hin q hq).2.1⟩, by omega, hss, fun wa X H7 s67 nwa gX ndX mX => ?_⟩
    have B7 := sm_ B6 s67
    have g7 := s67 _ _ g6
    have d7 := s67 _ _ d6
    have l7 := s67 _ _ l6
    have ndw : da ≠ wa := ne_of_none d6 nwa
    have nlw : la ≠ wa := ne_of_none l6 nwa
    have npw : wa ≠ p := (ne_of_none g6 nwa).symm
    have nHwa : H wa = none := by
      cases e : H wa with
      | none => rfl
      | some u => rw [B6 _ _ npw e] at nwa; cases nwa
    refine ⟨.ref p, rfl, p, DC, dx, _, rfl, g7, TD.cl, TD.nW, by show 3 < 1000; decide, ?_⟩
    rw [show putF "_waiting" (V.ref wa) ([("doers", V.ref da), ("_mutual", .bl false), ("_lost", .ref la)] : List (Str × V)) = ([("doers", V.ref da), ("_mutual", .bl false), ("_lost", .ref la), ("_waiting", .ref wa)] : List (Str × V)) from rfl]
    have B8 := st_ (o := .ins DC dx [("doers", V.ref da), ("_mutual", .bl false), ("_lost", .ref la), ("_waiting", .ref wa)]) B7
    have D8 : Dst DC (upd H7 p (.ins DC dx [("doers", V.ref da), ("_mutual", .bl false), ("_lost", .ref la), ("_waiting", .ref wa)])) ⟨p, dx, da, la, wa⟩ n D0 (fun _ => 0) X :=
      ⟨upd_same, by show _ = _; rw [upd_ne npd]; exact d7, by show _ = _; rw [upd_ne npl]; exact l7, by show _ = _; rw [upd_ne npw]; exact gX, ndl, ndw, nlw⟩
    generalize upd H7 p (.ins DC dx [("doers", V.ref da), ("_mutual", .bl false), ("_lost", .ref la), ("_waiting", .ref wa)]) = H8 at B8 D8
    clear B6 g6 d6 l6 B7 g7 d7 l7 s67 hta6 pat6 gX nwa
    obtain ⟨hta8, pat8⟩ := tk_ B8
    refine ⟨.ref ta, rfl, ta, rfl, ⟨_, hta8⟩, fun D hD => ?_⟩
    refine sci_it walk_tup (fun i G => Same H8 G ∧ ∃ S m, G D = some (SetO w D S m) ∧ m = ((rng 16).filter S).length ∧ ∀ x, S x = true ↔ ∃ q ∈ ss.take i, q.2.1 = x)
      ⟨Same.new hD, fun _ => false, 0, upd_same, none_lenD _, fun x => by simp⟩ (fun i G _ q => SqT.same q.1 hta8) ?_ ?_
    · rintro i x G0 G hi ⟨sG, S, m, hS, rfl, hSx⟩ ⟨rfl, hx⟩
      obtain ⟨b, q, rfl, hb, hq, at_⟩ := (pat8.same sG).nth hx
      have lab := hlb _ (List.mem_of_getElem? hq)
      obtain ⟨q1, q2, q3⟩ := q
      simp only at at_ lab
      have l16 := List.length_filter_le S (rng 16)
      rw [rng_len] at l16
      refine ⟨b, _, rfl, SqT.of at_, rfl, .int q1, _, rfl, .int q2, _, rfl, .int q3, _, rfl, rfl, rfl, .int q2, rfl, q2, S, _, rfl, hS, Nat.lt_of_le_of_lt (show _ ≤ 64 by omega) (by decide), fun c o e => by rw [upd_ne (ne_of_none e hD)]; exact sG c o e, _, _, upd_same, (filter_moreD (rng_nodup 16) (rng_mem.mpr lab)).symm, fun y => ?_⟩
      rw [Bool.or_eq_true, decide_eq_true_eq, hSx y, List.take_add_one, hq, Option.toList_some]
      constructor
      · rintro (⟨q, h1, h2⟩ | rfl)
        · exact ⟨q, List.mem_append_left _ h1, h2⟩
        · exact ⟨_, List.mem_append_right _ (List.mem_singleton.mpr rfl), rfl⟩
      · rintro ⟨q, h1, h2⟩
        rcases List.mem_append.mp h1 with h1 | h1
        · exact .inl ⟨q, h1, h2⟩
        · rw [List.mem_singleton.mp h1] at h2
          exact .inr h2.symm
    rintro G ⟨sG, S, m, hS, rfl, hSx⟩
    have l16 := List.length_filter_le S (rng 16)
    rw [rng_len] at l16
    refine ⟨D, S, _, rfl, hS, by omega, fun ls lb asc mem len hlbn => ?_⟩
    rw [List.length_map, pat8.1, List.take_length] at hSx
    have mem' : ∀ x, x ∈ ls ↔ ∃ q ∈ ss, q.2.1 = x := fun x => (mem x).trans (hSx x)
    rw [← len] at l16
    have s89 := sG.trans (Same.new (o := .lst (ls.map V.int)) hlbn)
    have gl9 : IL (upd G lb (.lst (ls.map V.int))) lb ls := upd_same
    generalize upd G lb (.lst (ls.map V.int)) = H9 at s89 gl9
    have B9 := sm_ B8 s89
    have D9 := D8.same s89
    clear sG hS mem hSx hlbn hta8 pat8 hD len asc S
    refine ⟨.ref lb, rfl, lb, rfl, ⟨_, SqL.of gl9⟩, fun D1 hD1 => ?_⟩
    refine lc_list (xs := ls.map V.int) (fun i G => Same H9 G ∧ ∃ fas : List Addr, G D1 = some (.lst (fas.map V.ref)) ∧ fas.length = i ∧ ∀ (j : Nat) (l : Int) (f : Addr), ls[j]? = some l → fas[j]? = some f → MsAt G f (rowsM (fun s => befS ss s l) n) ∧ (f ≠ da ∧ f ≠ la ∧ f ≠ wa) ∧ f ≠ D1)
      ⟨Same.new hD1, [], upd_same, rfl, fun j l f _ e => by simp at e⟩ (fun i G _ q => SqL.of (q.1 _ _ gl9)) ?_ ?_
    · rintro i y G hy ⟨sG, fas, gD, lf, hf⟩
      obtain ⟨l, hl, rfl⟩ := ints_nth hy
      have il := (List.getElem?_eq_some_iff.mp hl).1
      obtain ⟨htaG, patG⟩ := tk_ (sm_ B9 sG)
      refine ⟨rfl, .int (n : Nat), rfl, .ref ta, rfl, .int l, rfl, n, ta, l, as, ss, rfl, htaG, patG, hin, by omega, fun r ba fa G2 s2 nr nba nfa gr gb gf => ⟨r, _, _, .ref fa, rfl, rfl, SqT.of gr, atI_nat (j := 1) rfl, _, s2 _ _ gD, by rw [List.length_map]; exact small1000 (by omega), fun b o e => by rw [upd_ne (ne_of_none e hD1)]; exact s2 _ _ (sG b o e), fas ++ [fa], by rw [upd_same, List.map_append]; rfl, by rw [List.length_append, lf]; rfl, fun j l' f' e1 e2 => ?_⟩⟩
      have nfD : fa ≠ D1 := (ne_of_none gD nfa).symm
      rcases get_snoc e2 with e2' | ⟨q, rfl⟩
      · obtain ⟨z1, z2, z3⟩ := hf j l' f' e1 e2'
        exact ⟨by show _ = _; rw [upd_ne z3]; exact s2 _ _ z1, z2, z3⟩
      · rw [q, lf, hl] at e1
        cases e1
        exact ⟨by show _ = _; rw [upd_ne nfD]; exact gf, ⟨(ne_of_none (sG _ _ D9.d) nfa).symm, (ne_of_none (sG _ _ D9.l) nfa).symm, (ne_of_none (sG _ _ D9.w) nfa).symm⟩, nfD⟩
    rintro H10 ⟨s9a, fas, gfas, lf, hf⟩
    rw [List.length_map] at lf
    have B10 := sm_ B9 s9a
    have D10 := D9.same s9a
    have gl10 := s9a _ _ gl9
    have nl1 : D1 ≠ da ∧ D1 ≠ la ∧ D1 ≠ wa := ⟨(ne_of_none D9.d hD1).symm, (ne_of_none D9.l hD1).symm, (ne_of_none D9.w hD1).symm⟩
    clear hD1
    refine ⟨.ref lb, rfl, lb, rfl, ⟨_, SqL.of gl10⟩, fun D2 hD2 => ?_⟩
    refine lc_list (xs := ls.map V.int) (fun i G => Same H10 G ∧ ∃ rs : List Addr, G D2 = some (.lst (rs.map V.ref)) ∧ rs.length = i ∧ ∀ (j : Nat) (l : Int) (r : Addr), ls[j]? = some l → rs[j]? = some r → r ≠ D2 ∧ ∃ ba fb, G r = some (.tup [.ref ba, .ref fb]) ∧ MsAt G ba (rowsM (fun s => begS ss s l) n) ∧ MsAt G fb (rowsM (fun s => befS ss s l) n) ∧ (ba ≠ da ∧ ba ≠ la ∧ ba ≠ wa) ∧ (fb ≠ da ∧ fb ≠ la ∧ fb ≠ wa) ∧ ba ≠ D2 ∧ fb ≠ D2)
      ⟨Same.new hD2, [], upd_same, rfl, fun j l f _ e => by simp at e⟩ (fun i G _ q => SqL.of (q.1 _ _ gl10)) ?_ ?_
    · rintro i y G hy ⟨sG, rs, gD, lf2, hf2⟩
      obtain ⟨l, hl, rfl⟩ := ints_nth hy
      have il := (List.getElem?_eq_some_iff.mp hl).1
      obtain ⟨htaG, patG⟩ := tk_ (sm_ B10 sG)
      refine ⟨rfl, .int (n : Nat), rfl, .ref ta, rfl, .int l, rfl, n, ta, l, as, ss, rfl, htaG, patG, hin, by omega, fun r ba fa G2 s2 nr nba nfa gr gb gf => ⟨_, s2 _ _ gD, by rw [List.length_map]; exact small1000 (by omega), fun b o e => by rw [upd_ne (ne_of_none e hD2)]; exact s2 _ _ (sG b o e), rs ++ [r], by rw [upd_same, List.map_append]; rfl, by rw [List.length_append, lf2]; rfl, fun j l' f' e1 e2 => ?_⟩⟩
      have nfD : fa ≠ D2 := (ne_of_none gD nfa).symm
      have nbD : ba ≠ D2 := (ne_of_none gD nba).symm
      have nrD : r ≠ D2 := (ne_of_none gD nr).symm
      rcases get_snoc e2 with e2' | ⟨q, rfl⟩
      · obtain ⟨z0, b', f', z1, z2, z3, z4, z5, z6, z7⟩ := hf2 j l' f' e1 e2'
        exact ⟨z0, b', f', by rw [upd_ne z0]; exact s2 _ _ z1, by show _ = _; rw [upd_ne z6]; exact s2 _ _ z2, by show _ = _; rw [upd_ne z7]; exact s2 _ _ z3, z4, z5, z6, z7⟩
      · rw [q, lf2, hl] at e1
        cases e1
        exact ⟨nrD, ba, fa, by rw [upd_ne nrD]; exact gr, by show _ = _; rw [upd_ne nbD]; exact gb, by show _ = _; rw [upd_ne nfD]; exact gf,
          ⟨(ne_of_none (sG _ _ D10.d) nba).symm, (ne_of_none (sG _ _ D10.l) nba).symm, (ne_of_none (sG _ _ D10.w) nba).symm⟩, ⟨(ne_of_none (sG _ _ D10.d) nfa).symm, (ne_of_none (sG _ _ D10.l) nfa).symm, (ne_of_none (sG _ _ D10.w) nfa).symm⟩, nbD, nfD⟩
    rintro H11 ⟨sab, rs, grs, lr, hr2⟩
    rw [List.length_map] at lr
    have B11 := sm_ B10 sab
    have D11 := D10.same sab
    have gfas11 := sab _ _ gfas
    have nl2 : D2 ≠ da ∧ D2 ≠ la ∧ D2 ≠ wa := ⟨(ne_of_none D10.d hD2).symm, (ne_of_none D10.l hD2).symm, (ne_of_none D10.w hD2).symm⟩
    have lb11 : Lb H11 ⟨p, dx, da, la, wa⟩ n ss ls fas rs := ⟨lf, lr, fun i l f e1 e2 => by
      obtain ⟨z1, z2, _⟩ := hf i l f e1 e2
      exact ⟨sab _ _ z1, z2⟩, fun i l r e1 e2 => by
      obtain ⟨_, ba, fb, z1, z2, z3, z4, z5, _⟩ := hr2 i l r e1 e2
      exact ⟨ba, fb, z1, z2, z3, z4, z5⟩⟩
    clear hf hr2 hD2 gl10 gl9 s89 s9a sab gfas D8 D9 D10 B8 B9 B10 H8 H9 H10
    refine ⟨.int (n : Nat), rfl, n, rfl, rfl, by omega, _, _, rfl, rfl, ?_⟩
    have ev : (fun i j : Int => V.int (i - j)) ((2 : Int) ^ n) 1 = V.int ((2 ^ n - 1 : Nat) : Int) := by
      show V.int _ = _
      have := Nat.two_pow_pos n
      have e : ((2 : Int) ^ n) = ((2 ^ n : Nat) : Int) := by rw [Int.natCast_pow]; rfl
      rw [e]
      congr 1
      omega
    rw [ev]
    clear ev
    have iv0 : Iv n (RS ss) D0 0 ⟨D0, fun _ => 0, X⟩ := ⟨⟨X, [], (List.append_nil X).symm, ndX, mX, by simp, (fun v hv => by cases hv)⟩, Nat.zero_le _, (fun i h => absurd rfl h), (fun j hj => absurd hj (Nat.not_lt_zero _)), (fun G _ s2 => s2), (fun i j h => h), fun i j h => by unfold bt at h; rw [Nat.zero_testBit] at h; cases h⟩
    have D0lt : ∀ i, D0 i < 2 ^ n := fun i => bt_lt fun j hj => hD0 i j hj
    have top : sumD D0 n ≤ 60000 := by
      have h1 := sumD_top (D := D0) (b := 2 ^ n) (fun i => Nat.le_of_lt (D0lt i)) n
      have h2 : 2 ^ n ≤ 2 ^ 12 := Nat.pow_le_pow_right (by decide) hn
      have h3 : n * 2 ^ n ≤ 12 * 2 ^ 12 := Nat.mul_le_mul hn h2
      omega
    have lX : X.length ≤ n := by
      have := nodup_le (Vs := rng n) ndX fun v hv => rng_mem.mpr ((mX v).mp hv)
      rwa [rng_len] at this
    have wl_ : ∀ {kk : Nat} {x : Dt}, Iv n (RS ss) D0 kk x → x.W.length + sumD x.D n ≤ 100000 := fun iv => by
      obtain ⟨X', V, w1, w2, w3, w4, _⟩ := iv.wf
      have := nodup_le (Vs := rng n) w2 fun v hv => rng_mem.mpr ((w3 v).mp hv)
      rw [rng_len] at this
      rw [w1, List.length_append]
      omega
    have rs_n : ∀ {s : Nat} {l : Int} {e : Nat}, RS ss s l e → s < n ∧ e < n ∧ l ∈ ls := fun {s l e} h => by
      have := hin _ h
      simp only at this
      exact ⟨by omega, by omega, (mem' l).mpr ⟨_, h, rfl⟩⟩
    refine ⟨fun m σ G => ∃ (x : Dt) (kk : Nat) (y11 y12 y13 y14 y15 y16 : Option V), σ = [some (.ref p), some (.ref d0), some (.ref ta), some (.ref ta), some (.bl false), some (.int (n : Nat)), some (.ref lb), some (.ref D1), some (.ref D2), some (.int (2 ^ n - 1 : Nat)), some (.int (kk : Nat)), y11, y12, y13, y14, y15, y16, none, none] ∧ Kp3 ⟨p, dx, da, la, wa⟩ H11 G ∧ Dst DC G ⟨p, dx, da, la, wa⟩ n x.D x.L x.W ∧ Iv n (RS ss) D0 kk x ∧ m = (x.W.length - kk) + sumD x.D n,
      ⟨_, ⟨D0, fun _ => 0, X⟩, 0, none, none, none, none, none, none, rfl, Kp3.refl _ _, D11, iv0, rfl⟩, ?_⟩
    rintro m σ G ⟨x, kk, y11, y12, y13, y14, y15, y16, rfl, kp, sG, iv, rfl⟩
    refine ⟨.int (kk : Nat), rfl, .ref p, rfl, p, DC, dx, _, .ref wa, rfl, sG.ob, TD.cl, TD.nW, rfl, wa, _, rfl, .inl (SqL.of sG.w), _, _, rfl, rfl, _, rfl, ?_⟩
    rw [List.length_map]
    refine ite2 (fun c => ?_) (fun c => ?_)
    · have lt : kk < x.W.length := by have := of_decide_eq_true c; omega
      refine ⟨_, fun σ' H' z => z, ?_⟩
      obtain ⟨e, hk, he⟩ : ∃ e : Nat, x.W[kk]? = some (e : Int) ∧ e < n := by
        obtain ⟨X', V, w1, w2, w3, w4, w5⟩ := iv.wf
        have hm := List.getElem_mem lt
        have : 0 ≤ x.W[kk] ∧ x.W[kk] < (n : Int) := by
          have hm2 : x.W[kk] ∈ X' ++ V := by rw [← w1]; exact hm
          exact (List.mem_append.mp hm2).elim (fun h => (w3 _).mp h) (w5 _)
        exact ⟨x.W[kk].toNat, by rw [Int.toNat_of_nonneg this.1]; exact List.getElem?_eq_getElem lt, by omega⟩
      have Llt : x.L e < 2 ^ n := bt_lt fun j hj => hD0 e j (iv.subL e j hj)
      refine ⟨.ref p, rfl, p, DC, dx, _, .ref wa, rfl, sG.ob, TD.cl, TD.nW, rfl, .int (kk : Nat), rfl, wa, _, _, .int (e : Nat), rfl, rfl, SqL.of sG.w, atI_nat (j := kk) (by rw [List.getElem?_map, hk]; rfl), ?_⟩
      refine ⟨.ref p, rfl, p, DC, dx, _, .ref la, rfl, sG.ob, TD.cl, TD.nL, rfl, .int (e : Nat), rfl, la, _, _, .int (x.L e : Nat), rfl, rfl, SqL.of sG.l, atI_nat (j := e) (by rw [List.getElem?_map, tabM_get he]; rfl), ?_⟩
      refine ⟨.ref p, rfl, p, DC, dx, _, .ref la, rfl, sG.ob, TD.cl, TD.nL, rfl, .int (e : Nat), rfl, la, _, _, e, rfl, rfl, sG.l, ixN_nat (by rw [List.length_map, tabM_len]; exact he), ?_⟩
      have eS : ((tabM x.L n).map fun m => V.int ((m : Nat) : Int)).set e (.int 0) = (tabM (clr x e).L n).map fun m => V.int ((m : Nat) : Int) := by
        rw [show V.int 0 = (fun m : Nat => V.int ((m : Nat) : Int)) 0 from rfl, ← List.map_set, tabM_set (E := (clr x e).L) (by unfold clr; dsimp only; rw [if_pos rfl]) fun i hi => by unfold clr; dsimp only; rw [if_neg hi]]
      rw [eS]
      have npl' : p ≠ la := npl.symm
      have sG1 : Dst DC (upd G la (.lst ((tabM (clr x e).L n).map fun m => V.int ((m : Nat) : Int)))) ⟨p, dx, da, la, wa⟩ n (clr x e).D (clr x e).L (clr x e).W := ⟨by rw [upd_ne npl']; exact sG.ob, by show _ = _; rw [upd_ne sG.dl]; exact sG.d, upd_same, by show _ = _; rw [upd_ne sG.lw.symm]; exact sG.w, sG.dl, sG.dw, sG.lw⟩
      have kp1 : Kp3 ⟨p, dx, da, la, wa⟩ H11 (upd G la (.lst ((tabM (clr x e).L n).map fun m => V.int ((m : Nat) : Int)))) := fun b o n1 n2 n3 z => by rw [upd_ne n2]; exact kp b o n1 n2 n3 z
      generalize upd G la (.lst ((tabM (clr x e).L n).map fun m => V.int ((m : Nat) : Int))) = G1 at sG1 kp1
      refine ⟨.ref D1, rfl, .ref D2, rfl, D1, D2, _, _, rfl, SqL.of (kp1 _ _ nl1.1 nl1.2.1 nl1.2.2 gfas11), SqL.of (kp1 _ _ nl2.1 nl2.2.1 nl2.2.2 grs), for_it (walk_zip (n := ls.length) (xs := fas.map V.ref) (ys := rs.map V.ref) (by rw [List.length_map, List.length_map, lb11.l1, lb11.l2, Nat.min_self]))
        (fun i σ G => ∃ (y : Dt) (y13 y14 y15 y16 : Option V), σ = [some (.ref p), some (.ref d0), some (.ref ta), some (.ref ta), some (.bl false), some (.int (n : Nat)), some (.ref lb), some (.ref D1), some (.ref D2), some (.int (2 ^ n - 1 : Nat)), some (.int (kk : Nat)), some (.int (e : Nat)), some (.int (x.L e : Nat)), y13, y14, y15, y16, none, none] ∧ Kp3 ⟨p, dx, da, la, wa⟩ H11 G ∧ Dst DC G ⟨p, dx, da, la, wa⟩ n y.D y.L y.W ∧ Tn n (RS ss) D0 kk x e (ls.take i) y)
        ⟨clr x e, _, _, _, _, rfl, kp1, sG1, Tn.start iv⟩ (fun i σ G _ ⟨_, _, _, _, _, _, kp, _⟩ => ⟨SqL.of (kp _ _ nl1.1 nl1.2.1 nl1.2.2 gfas11), SqL.of (kp _ _ nl2.1 nl2.2.1 nl2.2.2 grs)⟩) ?_ ?_⟩
      · rintro i z σ G0 G2 hi ⟨y, y13, y14, y15, y16, rfl, kp2, sG2, tn⟩ ⟨tp, x1, x2, rfl, htp, rfl, e1, e2⟩
        have hfa : fas[i]? = some fas[i] := List.getElem?_eq_getElem (by rw [lb11.l1]; exact hi)
        have hrr : rs[i]? = some rs[i] := List.getElem?_eq_getElem (by rw [lb11.l2]; exact hi)
        have hl : ls[i]? = some ls[i] := List.getElem?_eq_getElem hi
        have e1' : (fas.map V.ref)[i]? = some x1 := e1
        have e2' : (rs.map V.ref)[i]? = some x2 := e2
        rw [List.getElem?_map, hfa] at e1'
        rw [List.getElem?_map, hrr] at e2'
        cases e1'
        cases e2'
        have tk : ls.take (i + 1) = ls.take i ++ [ls[i]] := by rw [List.take_add_one, hl]; rfl
        obtain ⟨gfa, nfa⟩ := lb11.fa i _ _ hl hfa
        obtain ⟨ba, fb, gr, gb, gf, nba, nfb⟩ := lb11.rr i _ _ hl hrr
        generalize ls[i] = l at tk gfa gb gf
        generalize fas[i] = fa at gfa nfa
        generalize rs[i] = r at gr
        have nr : r ≠ da ∧ r ≠ la ∧ r ≠ wa := ⟨ne_of gr D11.d (by intro z; cases z), ne_of gr D11.l (by intro z; cases z), ne_of gr D11.w (by intro z; cases z)⟩
        have st := Same.new (o := .tup [.ref fa, .ref r]) htp
        have tT : SqT K (upd G0 tp (.tup [.ref fa, .ref r])) tp [.ref fa, .ref r] := SqT.of upd_same
        have kp3 : Kp3 ⟨p, dx, da, la, wa⟩ H11 (upd G0 tp (.tup [.ref fa, .ref r])) := kp2.trans (Kp3.of st)
        have sG3 := sG2.same st
        generalize upd G0 tp (.tup [.ref fa, .ref r]) = G3 at tT kp3 sG3
        refine ⟨tp, _, rfl, tT, rfl, .ref fa, _, rfl, .ref r, _, rfl, r, _, rfl, SqT.of (kp3 _ _ nr.1 nr.2.1 nr.2.2 gr), rfl, .ref ba, _, rfl, .ref fb, _, rfl, rfl, rfl, ?_⟩
        have gfa3 : MsAt G3 fa (rowsM (fun s => befS ss s l) n) := kp3 _ _ nfa.1 nfa.2.1 nfa.2.2 gfa
        refine ⟨.ref fa, rfl, .int (e : Nat), rfl, fa, _, _, .int (maskOf (befS ss (e : Int) l) : Nat), rfl, rfl, SqL.of gfa3, atI_nat (j := e) (by rw [List.getElem?_map, rowsM_get he]; rfl), (((maskOf (befS ss (e : Int) l) : Nat) : Int) != 0), rfl, ?_⟩
        by_cases z0 : maskOf (befS ss (e : Int) l) = 0
        · rw [show (((maskOf (befS ss (e : Int) l) : Nat) : Int) != 0) = false by rw [z0]; rfl]
          refine iteF ?_
          refine ⟨y, _, _, _, _, rfl, kp3, sG3, ?_⟩
          rw [tk]
          refine tn.skip fun s r' => ?_
          have := (bef_bt hin).mpr r'
          rw [z0] at this
          unfold bt at this
          rw [Nat.zero_testBit] at this
          cases this
        · rw [show (((maskOf (befS ss (e : Int) l) : Nat) : Int) != 0) = true by simp [bne_iff_ne]; omega]
          refine iteT ?_
          refine ⟨.int (kk : Nat), rfl, .int (n : Nat), rfl, _, _, rfl, rfl, _, rfl, ?_⟩
          have yW : y.W.length + sumD y.D n ≤ 100000 := by
            obtain ⟨V, v1, v2, _⟩ := tn.cum.wai
            have v1' : y.W = x.W ++ V := v1
            have v2' : V.length + sumD y.D n ≤ sumD x.D n := v2
            have := wl_ iv
            rw [v1', List.length_append]
            omega
          have hS : ∀ s, s ∈ natsOf n (maskOf (befS ss (e : Int) l)) ↔ RS ss s l e := fun s => by
            rw [natsOf_mem, bef_bt hin]
            exact ⟨fun h => h.2, fun h => ⟨(rs_n h).1, h⟩⟩
          by_cases kn : kk < n
          case' pos =>
            refine (if_pos (decide_eq_true (by omega))).mpr ⟨.int (2 ^ n - 1 : Nat), rfl, ?_⟩
            have hlook : 2 ^ n - 1 < 2 ^ n := by have := Nat.two_pow_pos n; omega
            have look : ∀ t, bt (unOf (fun s => begS ss s l) n (y.D e) (2 ^ n - 1)) t ↔ (n ≤ kk → ∃ u, bt (x.L e) u ∧ RS ss t l u) ∧ t < n ∧ ∀ u, RS ss t l u → ¬ bt (y.D e) u := fun t => by
              rw [un_bt hin, all_bt]
              exact ⟨fun h => ⟨fun q => absurd kn (by omega), h.1.1, h.2⟩, fun h => ⟨⟨h.2.1, h.2.1⟩, h.2.2⟩⟩
            have kp4 := kp3
            have sG4 := sG3
          case' neg =>
            refine (if_neg (by rw [decide_eq_false (by omega)]; exact Bool.false_ne_true)).mpr ?_
            refine ⟨.ref fb, rfl, .int (x.L e : Nat), rfl, n, x.L e, fb, _, rfl, kp3 _ _ nfb.1 nfb.2.1 nfb.2.2 gf, rowsM_len _ _, by omega, Llt, (fun q hq => by obtain ⟨j, _, rfl⟩ := List.mem_map.mp hq; exact bef_lt hin), fun G4 s4 => ?_⟩
            have hlook : unionOf n (rowsM (fun s => befS ss s l) n) (x.L e) < 2 ^ n := led_lt hin
            have look : ∀ t, bt (unOf (fun s => begS ss s l) n (y.D e) (unionOf n (rowsM (fun s => befS ss s l) n) (x.L e))) t ↔ (n ≤ kk → ∃ u, bt (x.L e) u ∧ RS ss t l u) ∧ t < n ∧ ∀ u, RS ss t l u → ¬ bt (y.D e) u := fun t => by
              rw [un_bt hin, led_bt hin Llt]
              exact ⟨fun h => ⟨fun _ => h.1.2, h.1.1, h.2⟩, fun h => ⟨⟨h.2.1, h.1 (by omega)⟩, h.2.2⟩⟩
            have kp4 := kp3.trans (Kp3.of s4)
            have sG4 := sG3.same s4
          all_goals
            refine ⟨.ref p, rfl, p, dx, _, rfl, sG4.ob, rfl, .ref fa, rfl, .int (e : Nat), rfl, fa, _, _, .int (maskOf (befS ss (e : Int) l) : Nat), rfl, rfl, SqL.of (kp4 _ _ nfa.1 nfa.2.1 nfa.2.2 gfa), atI_nat (j := e) (by rw [List.getElem?_map, rowsM_get he]; rfl), .ref ba, rfl, .int (e : Nat), rfl, .int _, rfl, ⟨p, dx, da, la, wa⟩, n, y, maskOf (befS ss (e : Int) l), e, _, ba, (fun s => begS ss s l), rfl, sG4, kp4 _ _ nba.1 nba.2.1 nba.2.2 gb, nba.1, nba.2.1, nba.2.2, he, bef_lt hin, hlook, by omega, by omega, fun G5 k5 sG5 => ?_⟩
            refine ⟨_, _, _, _, _, rfl, kp4.trans k5, sG5, ?_⟩
            rw [tk]
            exact Tn.next iv he tn hS (fun s hs => (rs_n ((hS s).mp hs)).1) look hD0
      · rintro σ G2 ⟨y, y13, y14, y15, y16, rfl, kp2, sG2, tn⟩
        rw [List.take_length] at tn
        obtain ⟨iv2, mlt⟩ := Tn.ends iv hk tn fun s l r => (rs_n r).2.2
        exact ⟨_, rfl, _, _, rfl, rfl, _, mlt, y, kk + 1, _, _, _, _, _, _, rfl, kp2, sG2, iv2, rfl⟩
    · have ek : kk = x.W.length := by
        have h1 := iv.kl
        have h2 : ¬ ((kk : Int) < (x.W.length : Int)) := fun z => c (decide_eq_true z)
        omega
      refine k ⟨p, dx, da, la, wa⟩ x.D G rfl (fun b o nb z => ?_) sG.ob sG.d nda iv.sub (iv.done ek fun s l e r => (rs_n r).2.1) iv.low
      exact kp _ _ (fun q => by rw [q, nda] at z; cases z) (fun q => by rw [q, nHla] at z; cases z) (fun q => by rw [q, nHwa] at z; cases z) (B11 _ _ nb z)
end
end Fw

set_option maxRecDepth 100000
set_option maxHeartbeats 16000000
namespace Fw
open PySem PySem.Spec PyProof.Rows L2
def kIn (Ks : List (List Int)) (o : Option (List Int)) : Prop := ∃ X ∈ Ks, o = some X
noncomputable instance (Ks : List (List Int)) (o : Option (List Int)) : Decidable (kIn Ks o) := Classical.propDecidable _
theorem kIn_nil (o : Option (List Int)) : kIn [] o ↔ False := ⟨(fun ⟨_, h, _⟩ => by cases h), False.elim⟩
theorem if_iff {p q : Prop} [Decidable p] [Decidable q] {α : Type} {a b : α} (h : p ↔ q) : (if p then a else b) = if q then a else b := by
  by_cases c : p
  · rw [if_pos c, if_pos (h.mp c)]
  · rw [if_neg c, if_neg fun z => c (h.mpr z)]
/-- those with the same facts -/
def eqM (Xs : List (List Int)) (s : Nat) : Nat := match Xs[s]? with
  | some X => clsM Xs Xs.length X
  | none => 0
theorem eqM_bt {Xs : List (List Int)} {s t : Nat} : bt (eqM Xs s) t ↔ s < Xs.length ∧ t < Xs.length ∧ Xs[t]? = Xs[s]? := by
  unfold eqM
  cases h : Xs[s]? with
  | none =>
    have := List.getElem?_eq_none_iff.mp h
    unfold bt
    rw [Nat.zero_testBit]
    constructor
    · intro q; cases q
    · rintro ⟨q, _⟩; omega
  | some X =>
    have := (List.getElem?_eq_some_iff.mp h).1
    unfold bt
    simp only
    rw [cls_bit]
    exact ⟨fun q => ⟨this, q.1, q.2⟩, fun q => ⟨q.2.1, q.2.2⟩⟩
/-- pairs at their places -/
def PrA (H : Hp) (as : List Addr) (ps : List (Int × Int)) : Prop := as.length = ps.length ∧ ∀ (i : Nat) (a : Addr) (p : Int × Int), as[i]? = some a → ps[i]? = some p → H a = some (.tup [.int p.1, .int p.2])
theorem PrA.same {H H' : Hp} {as : List Addr} {ps : List (Int × Int)} (h : PrA H as ps) (s : Same H H') : PrA H' as ps := ⟨h.1, fun i a p e1 e2 => s _ _ (h.2 i a p e1 e2)⟩
theorem PrA.snoc {H : Hp} {as : List Addr} {ps : List (Int × Int)} {a : Addr} {p : Int × Int} (h : PrA H as ps) (z : H a = some (.tup [.int p.1, .int p.2])) : PrA H (as ++ [a]) (ps ++ [p]) :=
  ⟨by rw [List.length_append, List.length_append, h.1]; rfl, fun i b q e1 e2 => by
    rcases get_snoc e1 with e1' | ⟨q1, rfl⟩
    · rcases get_snoc e2 with e2' | ⟨q2, rfl⟩
      · exact h.2 i b q e1' e2'
      · have := get_len e1'; rw [h.1] at this; omega
    · rcases get_snoc e2 with e2' | ⟨q2, rfl⟩
      · have := get_len e2'; rw [← h.1] at this; omega
      · exact z⟩
def allD (n : Nat) (D : Nat → Nat) : List (Int × Int) := (rng n).flatMap fun s => (bitsOf n (D s.toNat)).map fun t => (s, t)
/-- the greatest way to follow -/
structure Grt (ss : List T3) (D0 D : Nat → Nat) : Prop where
  sub : ∀ i j, bt (D i) j → bt (D0 i) j
  sim : SimG (RS ss) (fun s t => bt (D s) t)
  low : ∀ G, SimG (RS ss) G → (∀ s t, G s t → bt (D0 s) t) → ∀ s t, G s t → bt (D s) t
section
variable {P : Program} {w : World} {K : PySem.W.Frag} {mg : Str → Option Value} {base : Heap} {C J B WC DC : Addr}
def WdOk (K : PySem.W.Frag) (WC : Addr) (H : Hp) (p : Addr) (Xs : List (List Int)) (ss : List T3) : Prop := ∃ (H0 : Hp) (dx : Addr) (l f : Int) (ta tb d : Addr) (ras as : List Addr), WoE K WC H0 H p dx l f ta tb d ras as Xs ss ∧ RTp H ras Xs
def spDf (K : PySem.W.Frag) (WC : Addr) : Sp := fun vs H Q _ => ∃ (p : Addr) (Xs : List (List Int)) (ss : List T3), vs = [.ref p] ∧ WdOk K WC H p Xs ss ∧ InN Xs.length ss ∧ (∀ p ∈ ss, 0 ≤ p.2.1 ∧ p.2.1 < 16) ∧ ss.length ≤ 300 ∧ Xs.length ≤ 12 ∧
  ∀ (da : Addr) (D : Nat → Nat) H', Same H H' → MsAt H' da (tabM D Xs.length) → Grt ss (eqM Xs) D → Q (.ref da) H'
theorem ok_doers_of {f : Addr} {fd : FuncData} (FF : Fun K "doers_of" "doers_of" s_doers_of f fd) (T : Txt K mg C J B) (TC : TxtC K WC) (TD : TxtDo K DC) (h_like_at_once : Has P w K mg base "like_at_once" 1 a_like_at_once (spLike K)) (h_states_in : Has P w K mg base "states_in" 1 a_states_in spSt)
    (h_Doers : HasC P w K mg base "Doers" DC 4 a_Doers_init (spDo K DC)) : FnOk P w K mg base CX0 6 f fd a_doers_of (spDf K WC) := by
  refine FF.ok sc_doers_of (fun vs H Q E h => ?_) (fun cdv A outer s0 H vs Q E hr h => ?_)
  · obtain ⟨p, Xs, ss, rfl, _⟩ := h
    rfl
  · obtain ⟨p, Xs, ss, rfl, ⟨H0, dx, lb, fs, ta, tb, d, ras, as, W, rt⟩, hin, hlb, hss, hn, k⟩ := h
    refine ⟨_, (pss_cons (ps_set (i := 1) sc_doers_of.nd rfl (.inl rfl) (pe_op op_rep (pe_lst (pa_cons pe_int pa_nil)) (pe_callB call_len_seq rfl T.z_len (by decide +kernel) (pa_cons (pe_fld (pv 0) rfl) pa_nil))))
      (pss_cons (ps_for PassesOwn.never rfl (pi_list (pe_callH h_like_at_once (hr.mono (by omega)) (pa_cons (pe_fld (pv 0) rfl) pa_nil))) (pg_name (i := 2) sc_doers_of.nd rfl (.inl rfl)) (pss_one (ps_for PassesOwn.never rfl (pi_list (pe_callH h_states_in (hr.mono (by omega)) (pa_cons (pv 2) pa_nil))) (pg_name (i := 3) sc_doers_of.nd rfl (.inl rfl)) (pss_one (ps_asg (pv 2) (pg_sub (pv 1) (pv 3) set_list))))))
      (pss_one (ps_ret (pe_fld (pe_makeH h_Doers (hr.mono (by omega)) (pa_cons (pv 1) (pa_cons (pe_fld (pv 0) rfl) (pa_cons (pe_fld (pv 0) rfl) (pa_cons pe_bl pa_nil))))) rfl))))), ?_⟩
    refine ⟨by show 1 ≤ sizeLine; decide, fun z0 hz0 => ?_⟩
    have s1 := Same.new (o := .lst [.int 0]) hz0
    refine ⟨.ref p, rfl, p, WC, dx, _, .ref ta, rfl, s1 _ _ W.ob, TC.cl, TC.nS, rfl, ta, _, rfl, .inr (SqT.same s1 W.st), ?_⟩
    rw [List.length_map, W.rw.1]
    refine ⟨z0, Xs.length, _, rfl, rfl, upd_same, by omega, by omega, Nat.le_trans (Nat.le_of_eq (show 1 * ((Xs.length : Nat) : Int).toNat = Xs.length by omega)) (Nat.le_trans hn (by decide)), fun D hD => ?_⟩
    rw [rep_zero]
    have s2 := s1.trans (Same.new (o := .lst ((tabM (fun _ => 0) Xs.length).map fun m => V.int (m : Nat))) hD)
    have gD2 : MsAt (upd (upd H z0 (.lst [.int 0])) D (.lst ((tabM (fun _ => 0) Xs.length).map fun m => V.int (m : Nat)))) D (tabM (fun _ => 0) Xs.length) := upd_same
    have nHD : H D = none := by
      cases e : H D with
      | none => rfl
      | some u => rw [s1 _ _ e] at hD; cases hD
    generalize upd (upd H z0 (.lst [.int 0])) D (.lst ((tabM (fun _ => 0) Xs.length).map fun m => V.int (m : Nat))) = H2 at s2 gD2
    clear hD s1 hz0
    refine ⟨.ref p, rfl, p, WC, dx, _, .ref ta, rfl, s2 _ _ W.ob, TC.cl, TC.nS, rfl, ta, ras, Xs, rfl, SqT.same s2 W.st, rt.map fun a ys e => s2 _ _ e, by omega, fun l Ks H3 s3 nl gl nd mem => ⟨l, rfl, ⟨_, SqL.of gl⟩, ?_⟩⟩
    have nlD : l ≠ D := fun e => by rw [e, gD2] at nl; cases nl
    have s13 := s2.trans s3
    have gD3 := s3 _ _ gD2
    refine for_list (xs := (Ks.map (clsM Xs Xs.length)).map fun m => V.int (m : Nat)) (fun i σ G => ∃ (y2 y3 : Option V), σ = [some (.ref p), some (.ref D), y2, y3] ∧ (∀ b o, b ≠ D → H3 b = some o → G b = some o) ∧ MsAt G D (tabM (fun s => if kIn (Ks.take i) Xs[s]? then eqM Xs s else 0) Xs.length))
      ⟨none, none, rfl, fun b o _ e => e, by simp only [List.take_zero, kIn_nil, if_false]; exact gD3⟩ (fun i σ G _ ⟨_, _, _, kp, _⟩ => SqL.of (kp _ _ nlD gl)) ?_ ?_
    · rintro i z σ G hz ⟨y2, y3, rfl, kp, gD⟩
      obtain ⟨X, hX, rfl⟩ : ∃ X, Ks[i]? = some X ∧ V.int ((clsM Xs Xs.length X : Nat) : Int) = z := by
        rw [List.getElem?_map, List.getElem?_map] at hz
        cases e : Ks[i]? with
        | none => rw [e] at hz; cases hz
        | some X => rw [e] at hz; exact ⟨X, rfl, Option.some.inj hz⟩
      have tk : Ks.take (i + 1) = Ks.take i ++ [X] := by rw [List.take_add_one, hX]; rfl
      refine ⟨.int (clsM Xs Xs.length X : Nat), rfl, Xs.length, clsM Xs Xs.length X, rfl, cls_lt, by omega, fun l2 G2 s4 nl2 gl2 => ⟨l2, rfl, ⟨_, SqL.of gl2⟩, ?_⟩⟩
      have nl2D : l2 ≠ D := fun e => by rw [e, gD] at nl2; cases nl2
      refine for_list (xs := (bitsOf Xs.length (clsM Xs Xs.length X)).map V.int) (fun j σ G' => ∃ (y3 : Option V), σ = [some (.ref p), some (.ref D), some (.int (clsM Xs Xs.length X : Nat)), y3] ∧ (∀ b o, b ≠ D → G2 b = some o → G' b = some o) ∧ MsAt G' D (tabM (fun s => if (kIn (Ks.take i) Xs[s]?) ∨ (s : Int) ∈ (bitsOf Xs.length (clsM Xs Xs.length X)).take j then eqM Xs s else 0) Xs.length))
        ⟨_, rfl, fun b o _ e => e, by simp only [List.take_zero, List.not_mem_nil, or_false]; exact s4 _ _ gD⟩ (fun j σ G' _ ⟨_, _, kp', _⟩ => SqL.of (kp' _ _ nl2D gl2)) ?_ ?_
      · rintro j z σ G' hz ⟨y3, rfl, kp', gD'⟩
        obtain ⟨s, hs', rfl⟩ := ints_nth hz
        obtain ⟨⟨q0, q1⟩, q2⟩ := mem_bits.mp (List.mem_of_getElem? hs')
        obtain ⟨s, rfl⟩ := Int.eq_ofNat_of_zero_le q0
        rw [Int.toNat_natCast] at q2
        have xs := (cls_bit.mp q2).2
        have es : eqM Xs s = clsM Xs Xs.length X := by unfold eqM; rw [xs]
        have tk2 : (bitsOf Xs.length (clsM Xs Xs.length X)).take (j + 1) = (bitsOf Xs.length (clsM Xs Xs.length X)).take j ++ [(s : Int)] := by rw [List.take_add_one, hs']; rfl
        refine ⟨.int (clsM Xs Xs.length X : Nat), rfl, .ref D, rfl, .int (s : Nat), rfl, D, _, _, s, rfl, rfl, gD', ixN_nat (by rw [List.length_map, tabM_len]; omega), _, rfl, fun b o n e => by rw [upd_ne n]; exact kp' b o n e, ?_⟩
        show _ = _
        rw [upd_same, ← List.map_set (f := fun m : Nat => V.int ((m : Nat) : Int)), tabM_set (E := fun s => if (kIn (Ks.take i) Xs[s]?) ∨ (s : Int) ∈ (bitsOf Xs.length (clsM Xs Xs.length X)).take (j + 1) then eqM Xs s else 0) ?_ fun u hu => ?_]
        · show (if _ ∨ _ then _ else _) = _
          rw [if_pos (.inr (by rw [tk2]; exact List.mem_append_right _ (List.mem_singleton.mpr rfl))), es]
        · show (if _ ∨ _ then _ else _) = (if _ ∨ _ then _ else _)
          refine if_iff ?_
          rw [tk2, List.mem_append, List.mem_singleton]
          constructor
          · rintro (h | h | h)
            · exact .inl h
            · exact .inr h
            · exact absurd (by omega) hu
          · rintro (h | h)
            · exact .inl h
            · exact .inr (.inl h)
      · rintro σ G' ⟨y3, rfl, kp', gD'⟩
        rw [List.length_map, List.take_length] at gD'
        refine ⟨_, _, rfl, fun b o n e => kp' _ _ n (s4 _ _ (kp b o n e)), ?_⟩
        have : tabM (fun s => if (kIn (Ks.take i) Xs[s]?) ∨ (s : Int) ∈ bitsOf Xs.length (clsM Xs Xs.length X) then eqM Xs s else 0) Xs.length = tabM (fun s => if kIn (Ks.take (i + 1)) Xs[s]? then eqM Xs s else 0) Xs.length := by
          unfold tabM
          refine List.map_congr_left fun s hs' => ?_
          have sn := List.mem_range.mp hs'
          refine if_iff ?_
          rw [tk]
          constructor
          · rintro (⟨Y, h1, h2⟩ | h)
            · exact ⟨Y, List.mem_append_left _ h1, h2⟩
            · have := (mem_bits.mp h).2
              rw [Int.toNat_natCast] at this
              exact ⟨X, List.mem_append_right _ (List.mem_singleton.mpr rfl), (cls_bit.mp this).2⟩
          · rintro ⟨Y, h1, h2⟩
            rcases List.mem_append.mp h1 with h1 | h1
            · exact .inl ⟨Y, h1, h2⟩
            · rw [List.mem_singleton.mp h1] at h2
              exact .inr (mem_bits.mpr ⟨⟨by omega, by omega⟩, by rw [Int.toNat_natCast]; exact cls_bit.mpr ⟨sn, h2⟩⟩)
        rw [← this]
        exact gD'
    · rintro σ G ⟨y2, y3, rfl, kp, gD⟩
      rw [List.length_map, List.length_map, List.take_length] at gD
      have e0 : tabM (fun s => if kIn Ks Xs[s]? then eqM Xs s else 0) Xs.length = tabM (eqM Xs) Xs.length := by
        unfold tabM
        refine List.map_congr_left fun s hs' => ?_
        have sn := List.mem_range.mp hs'
        exact if_pos ⟨Xs[s], (mem _).mpr (List.getElem_mem sn), List.getElem?_eq_getElem sn⟩
      rw [e0] at gD
      have sG : Same H G := fun b o e => kp _ _ (ne_of_none e nHD) (s13 b o e)
      refine ⟨.ref D, rfl, .ref p, rfl, p, WC, dx, _, .ref tb, rfl, sG _ _ W.ob, TC.cl, TC.nT, rfl, .ref p, rfl, p, WC, dx, _, .ref tb, rfl, sG _ _ W.ob, TC.cl, TC.nT, rfl, fun x dx2 hx hdx ne => ?_⟩
      have s5 : Same G (upd (upd G dx2 (.own x)) x (.ins DC dx2 [])) := fun b u e => by rw [upd_ne (ne_of_none e hx), upd_ne (ne_of_none e hdx)]; exact e
      have sH := sG.trans s5
      refine ⟨x, dx2, D, tb, as, ss, Xs.length, eqM Xs, rfl, upd_same, s5 _ _ gD, SqT.same sH W.sp, ⟨W.tr.1, fun i a q e1 e2 => sH _ _ (W.tr.2 i a q e1 e2)⟩, hin, hlb, hss, hn, fun s t b => (eqM_bt.mp b).2.1, fun a D' H' ep bt' g' gd' nd' sub sim low => ⟨rfl, ?_⟩⟩
      subst ep
      have nHx : H a.p = none := by
        cases e : H a.p with
        | none => rfl
        | some u => rw [sG _ _ e] at hx; cases hx
      exact ⟨a.p, DC, dx2, _, .ref a.da, rfl, g', TD.cl, TD.nD, rfl, k a.da D' H' (fun b o e => bt' _ _ (ne_of_none e nHx) (sH _ _ e)) gd' ⟨sub, sim, low⟩⟩
end
end Fw

set_option maxRecDepth 100000
set_option maxHeartbeats 16000000
namespace Fw
open PySem PySem.Spec PyProof.Rows L2
def rowD (n : Nat) (D : Nat → Nat) (s : Int) : List (Int × Int) := (bitsOf n (D s.toNat)).map fun t => (s, t)
theorem rowD_len (n : Nat) (D : Nat → Nat) (s : Int) : (rowD n D s).length ≤ n := by unfold rowD; rw [List.length_map]; exact bitsOf_len _ _
theorem allD_succ {n i : Nat} {D : Nat → Nat} : (rng (i + 1)).flatMap (rowD n D) = (rng i).flatMap (rowD n D) ++ rowD n D (i : Int) := by
  rw [rng_succ, List.flatMap_append]
  simp
theorem rowD_part (n : Nat) (D : Nat → Nat) : ∀ i, ((rng i).flatMap (rowD n D)).length ≤ i * n
  | 0 => by simp [rng]
  | i + 1 => by
    have h1 := rowD_part n D i
    have h2 := rowD_len n D (i : Int)
    rw [allD_succ, List.length_append, Nat.add_mul, Nat.one_mul]
    omega
section
variable {P : Program} {w : World} {K : PySem.W.Frag} {mg : Str → Option Value} {base : Heap} {C J B WC DC : Addr}
def spCan (K : PySem.W.Frag) (WC : Addr) : Sp := fun vs H Q _ => ∃ (p : Addr) (Xs : List (List Int)) (ss : List T3), vs = [.ref p] ∧ WdOk K WC H p Xs ss ∧ InN Xs.length ss ∧ (∀ p ∈ ss, 0 ≤ p.2.1 ∧ p.2.1 < 16) ∧ ss.length ≤ 300 ∧ Xs.length ≤ 12 ∧
  ∀ (l : Addr) (as : List Addr) (D : Nat → Nat) H', Same H H' → H' l = some (.lst (as.map V.ref)) → PrA H' as ((rng Xs.length).flatMap (rowD Xs.length D)) → Grt ss (eqM Xs) D → Q (.ref l) H'
theorem ok_can_do {f : Addr} {fd : FuncData} (FF : Fun K "can_do" "can_do" s_can_do f fd) (T : Txt K mg C J B) (h_doers_of : Has P w K mg base "doers_of" 6 a_doers_of (spDf K WC)) (h_states_in : Has P w K mg base "states_in" 1 a_states_in spSt) : FnOk P w K mg base CX0 7 f fd a_can_do (spCan K WC) := by
  refine FF.ok sc_can_do (fun vs H Q E h => ?_) (fun cdv A outer s0 H vs Q E hr h => ?_)
  · obtain ⟨p, Xs, ss, rfl, _⟩ := h
    rfl
  · obtain ⟨p, Xs, ss, rfl, W, hin, hlb, hss, hn, k⟩ := h
    refine ⟨_, (pss_one (ps_ret (pe_lc2 (own := [("state", 1), ("mask", 2), ("doer", 3)]) (vs1 := [3]) rfl sc_can_do.nd (pi_enum rfl T.z_enumerate (pa_cons (pe_callH h_doers_of (hr.mono (by omega)) (pa_cons (pv 0) pa_nil)) pa_nil)) (blkOk_by (own := [("state", 1), ("mask", 2), ("doer", 3)]) (N := n_can_do) (sc := defScope s_can_do) (by decide +kernel)) (by decide) (fun _ _ _ _ _ => (show PG _ _ (gTup K 2 _) from pg_tup rfl (pgs_cons (pg_name (i := 1) sc_can_do.nd rfl (.inl rfl)) (pgs_cons (pg_name (i := 2) sc_can_do.nd rfl (.inl rfl)) pgs_nil)))) (fun _ _ _ _ _ => pts_nil) (fun _ _ _ _ _ => (@id (PI _ _ _ (iList K _)) (pi_list (pe_callH h_states_in (hr.mono (by omega)) (pa_cons (pv 2) pa_nil))))) (fun _ _ _ _ _ => (pg_name (i := 3) sc_can_do.nd rfl (.inl rfl))) (fun _ _ _ _ _ => pts_nil) (fun _ _ _ _ _ => (pe_tup (pa_cons (pv 1) (pa_cons (pv 3) pa_nil))))))), ?_⟩
    refine ⟨.ref p, rfl, p, Xs, ss, rfl, W, hin, hlb, hss, hn, fun da D H1 s1 gd gr => ?_⟩
    refine ⟨da, _, rfl, SqL.of gd, fun L hL => ?_⟩
    have nn : Xs.length * Xs.length ≤ 144 := Nat.mul_le_mul hn hn
    refine lc2_it walk_enum (fun i G => Same H1 G ∧ ∃ as : List Addr, G L = some (.lst (as.map V.ref)) ∧ PrA G as ((rng i).flatMap (rowD Xs.length D)) ∧ i ≤ Xs.length) ⟨Same.new hL, [], upd_same, ⟨rfl, fun i a p e _ => by simp at e⟩, Nat.zero_le _⟩ (fun i G _ q => SqL.of (q.1 _ _ gd)) ?_ ?_
    · rintro i x G0 G hi ⟨sG, as, gL, pr, _⟩ ⟨tp, x1, x2, rfl, htp, rfl, e1, e2⟩
      rw [List.length_map, tabM_len] at hi
      cases (show some (V.int ((i : Nat) : Int)) = some x1 from e1)
      have e2' : ((tabM D Xs.length).map fun m => V.int ((m : Nat) : Int))[i]? = some x2 := e2
      rw [List.getElem?_map, tabM_get hi] at e2'
      cases e2'
      have st := Same.new (o := .tup [.int (i : Nat), .int (D i : Nat)]) htp
      have tT : SqT K (upd G0 tp (.tup [.int (i : Nat), .int (D i : Nat)])) tp [.int (i : Nat), .int (D i : Nat)] := SqT.of upd_same
      have sG1 := sG.trans st
      have gL1 := st _ _ gL
      have pr1 := pr.same st
      generalize upd G0 tp (.tup [.int (i : Nat), .int (D i : Nat)]) = G1 at tT sG1 gL1 pr1
      refine ⟨tp, _, rfl, tT, rfl, .int (i : Nat), _, rfl, .int (D i : Nat), _, rfl, rfl, rfl, ?_⟩
      have Dlt : D i < 2 ^ Xs.length := bt_lt fun j hj => (eqM_bt.mp (gr.sub i j hj)).2.1
      refine ⟨.int (D i : Nat), rfl, Xs.length, D i, rfl, Dlt, by omega, fun l2 G2 s2 nl2 gl2 => ⟨l2, rfl, ⟨_, SqL.of gl2⟩, ?_⟩⟩
      have sG2 := sG1.trans s2
      have b1 := rowD_part Xs.length D i
      have b2 : i * Xs.length ≤ Xs.length * Xs.length := Nat.mul_le_mul_right _ (by omega)
      have nl2L : l2 ≠ L := (ne_of_none gL1 nl2).symm
      refine in2_it walk_list (fun j G => (∀ b o, b ≠ L → G2 b = some o → G b = some o) ∧ ∃ as : List Addr, G L = some (.lst (as.map V.ref)) ∧ PrA G as ((rng i).flatMap (rowD Xs.length D) ++ ((bitsOf Xs.length (D i)).take j).map fun t => ((i : Int), t))) ⟨fun b o _ e => e, as, s2 _ _ gL1, by simpa using pr1.same s2⟩ (fun j G _ q => SqL.of (q.1 _ _ nl2L gl2)) ?_ ?_
      · rintro j u G3 G4 hj ⟨sG3, as3, gL3, pr3⟩ ⟨rfl, hu'⟩
        obtain ⟨z, hz, rfl⟩ := ints_nth hu'
        have lb := bitsOf_len Xs.length (D i)
        refine ⟨rfl, .int (i : Nat), rfl, .int z, rfl, by show 2 ≤ sizeLine; decide, fun r hr' => ?_⟩
        have s4 := Same.new (o := .tup [.int (i : Nat), .int z]) hr'
        have nrL : r ≠ L := (ne_of_none gL3 hr').symm
        refine ⟨_, s4 _ _ gL3, ?_, fun b o n e => by rw [upd_ne n]; exact s4 _ _ (sG3 b o n e), as3 ++ [r], by rw [upd_same, List.map_append]; rfl, ?_⟩
        · rw [List.length_map, pr3.1, List.length_append, List.length_map, List.length_take]
          exact small1000 (by omega)
        · rw [List.take_add_one, hz, Option.toList_some, List.map_append, ← List.append_assoc]
          have pr4 := pr3.same s4
          have pr5 : PrA (upd (upd G4 r (.tup [.int (i : Nat), .int z])) L (.lst (as3.map V.ref ++ [.ref r]))) as3 ((rng i).flatMap (rowD Xs.length D) ++ ((bitsOf Xs.length (D i)).take j).map fun t => ((i : Int), t)) :=
            ⟨pr4.1, fun i' a q e1 e2 => by rw [upd_ne (ne_of (pr4.2 i' a q e1 e2) (s4 _ _ gL3) (by intro z; cases z))]; exact pr4.2 i' a q e1 e2⟩
          exact pr5.snoc (p := ((i : Int), z)) (by rw [upd_ne nrL, upd_same])
      · rintro G3 ⟨sG3, as3, gL3, pr3⟩
        rw [List.length_map, List.take_length] at pr3
        refine ⟨fun b o e => sG3 _ _ (ne_of_none e hL) (sG2 b o e), as3, gL3, ?_, by omega⟩
        · rw [allD_succ]
          unfold rowD
          rw [Int.toNat_natCast]
          exact pr3
    · rintro G ⟨sG, as, gL, pr, _⟩
      rw [List.length_map, tabM_len] at pr
      exact k L as D G (s1.trans sG) gL pr gr
end
end Fw

set_option maxRecDepth 100000
set_option maxHeartbeats 8000000
namespace Fw
open PySem PySem.Spec PyProof.Rows L2
/-- of facts, and, or and some -/
def posF : F → Prop
  | .leaf k _ => k ≠ .var
  | .two _ f g => posF f ∧ posF g
  | .one k _ f => k = .some ∧ posF f
  | .nul _ => False
theorem posF_fv : ∀ {t : F}, posF t → fv t = []
  | .leaf .has _, _ => rfl
  | .leaf .lacks _, _ => rfl
  | .leaf .var _, h => absurd rfl h
  | .two _ f g, h => by
    have h1 := posF_fv h.1
    have h2 := posF_fv h.2
    simp [fv, h1, h2]
  | .one k _ f, h => by
    obtain ⟨rfl, h2⟩ := h
    have h1 := posF_fv h2
    simp [fv, h1, One.bind]
section
variable {P : Program} {w : World} {K : PySem.W.Frag} {mg : Str → Option Value} {base : Heap} {C J B WC DC : Addr}
def spSo (K : PySem.W.Frag) : Nat → Sp
  | 0 => fun _ _ _ _ => False
  | n + 1 => fun vs H Q _ => ∃ (d : Addr), vs = [.ref d, .int (n : Nat)] ∧ Draws H d ∧ ∀ v t H', But d H H' → Draws H' d → IsF K H' v t → posF t → t.depth ≤ n + 1 → Q v H'
theorem ok_law_some {f : Addr} {fd : FuncData} (n : Nat) (FF : Fun K "_law_some_statement" "_law_some_statement" s_law_some_statement f fd) (T : Txt K mg C J B) (h_law_take : Has P w K mg base "_law_take" 1 a_law_take spTake)
    (h_law_some_statement : Has P w K mg base "_law_some_statement" (n + 2) a_law_some_statement (spSo K n)) : FnOk P w K mg base CX0 (n + 3) f fd a_law_some_statement (spSo K (n + 1)) := by
  refine FF.ok sc_law_some_statement (fun vs H Q E h => ?_) (fun cdv A outer s H vs Q E hr h => ?_)
  · obtain ⟨d, rfl, _⟩ := h
    rfl
  · obtain ⟨d, rfl, hd, k⟩ := h
    refine ⟨_, (pss_cons (ps_set (i := 2) sc_law_some_statement.nd rfl (.inl rfl) (pe_callH h_law_take (hr.mono (by omega)) (pa_cons (pv 0) (pa_cons pe_int pa_nil))))
      (pss_cons (ps_if (PW.pt (pw_or (pt_cmpR op_eq (pv 1) pe_int (nomark _)) (pw_or1 (pt_cmpR op_eq (pv 2) pe_int (nomark _))))) (pss_one (ps_ret (pe_tup (pa_cons (pe_ix ix_list (pe_lst (pa_cons pe_str (pa_cons pe_str pa_nil))) (pe_callH h_law_take (hr.mono (by omega)) (pa_cons (pv 0) (pa_cons pe_int pa_nil))) (fun _ _ => rfl)) (pa_cons (pe_callH h_law_take (hr.mono (by omega)) (pa_cons (pv 0) (pa_cons pe_int pa_nil))) pa_nil))))) pss_nil)
      (pss_cons (ps_if (pt_cmpR op_lt (pv 2) pe_int (nomark _)) (pss_one (ps_ret (pe_tup (pa_cons (pe_ix ix_list (pe_lst (pa_cons pe_str (pa_cons pe_str pa_nil))) (pe_op op_sub (pv 2) pe_int) (fun _ _ => rfl)) (pa_cons (pe_callH h_law_some_statement (hr.mono (by omega)) (pa_cons (pv 0) (pa_cons (pe_op op_sub (pv 1) pe_int) pa_nil))) (pa_cons (pe_callH h_law_some_statement (hr.mono (by omega)) (pa_cons (pv 0) (pa_cons (pe_op op_sub (pv 1) pe_int) pa_nil))) pa_nil)))))) pss_nil)
      (pss_one (ps_ret (pe_tup (pa_cons pe_str (pa_cons (pe_callH h_law_take (hr.mono (by omega)) (pa_cons (pv 0) (pa_cons pe_int pa_nil))) (pa_cons (pe_callH h_law_some_statement (hr.mono (by omega)) (pa_cons (pv 0) (pa_cons (pe_op op_sub (pv 1) pe_int) pa_nil))) pa_nil))))))))), ?_⟩
    refine ⟨.ref d, rfl, d, 6, rfl, hd, by decide, fun v1 H1 v10 v16 b1 d1 => ?_⟩
    refine ⟨.int (n : Nat), rfl, rfl, _, rfl, ite2 (fun c => ?_) (fun c => ?_)⟩
    · refine iteT ?_
      refine ⟨by show 2 ≤ sizeLine; decide, fun l hl => ?_⟩
      have s2 := Same.new (o := .lst [.str "has", .str "lacks"]) hl
      have l2 := upd_same (H := H1) (a := l) (o := .lst [.str "has", .str "lacks"])
      have ld := d1.ne hl
      refine ⟨.ref d, rfl, d, 2, rfl, d1.same s2, by decide, fun v3 H3 v30 v32 b3 d3 => ?_⟩
      obtain ⟨b, hb⟩ := two_at (x := V.str "has") (y := V.str "lacks") v30 v32
      refine ⟨l, _, _, _, rfl, rfl, SqL.of (b3 _ _ ld l2), hb, ?_⟩
      refine ⟨.ref d, rfl, d, 2, rfl, d3, by decide, fun v4 H4 v40 v42 b4 d4 => ?_⟩
      refine ⟨by show 2 ≤ sizeLine; decide, fun r hr' => ?_⟩
      have s5 := Same.new (o := .tup [if b = true then V.str "has" else .str "lacks", .int v4]) hr'
      have bb := ((b1.trans (Same.but s2)).trans b3).trans (b4.trans (Same.but s5))
      cases b with
      | true => exact k _ (.leaf .has v4) _ bb (d4.same s5) (.leaf (SqT.of upd_same)) (fun z => by cases z) (by simp [F.depth])
      | false => exact k _ (.leaf .lacks v4) _ bb (d4.same s5) (.leaf (SqT.of upd_same)) (fun z => by cases z) (by simp [F.depth])
    refine ⟨.int v1, rfl, rfl, _, rfl, ite2 (fun c1 => ?_) (fun c1 => ?_)⟩
    · skip
      refine ⟨by show 2 ≤ sizeLine; decide, fun l hl => ?_⟩
      have s2 := Same.new (o := .lst [.str "has", .str "lacks"]) hl
      have l2 := upd_same (H := H1) (a := l) (o := .lst [.str "has", .str "lacks"])
      have ld := d1.ne hl
      refine ⟨.ref d, rfl, d, 2, rfl, d1.same s2, by decide, fun v3 H3 v30 v32 b3 d3 => ?_⟩
      obtain ⟨b, hb⟩ := two_at (x := V.str "has") (y := V.str "lacks") v30 v32
      refine ⟨l, _, _, _, rfl, rfl, SqL.of (b3 _ _ ld l2), hb, ?_⟩
      refine ⟨.ref d, rfl, d, 2, rfl, d3, by decide, fun v4 H4 v40 v42 b4 d4 => ?_⟩
      refine ⟨by show 2 ≤ sizeLine; decide, fun r hr' => ?_⟩
      have s5 := Same.new (o := .tup [if b = true then V.str "has" else .str "lacks", .int v4]) hr'
      have bb := ((b1.trans (Same.but s2)).trans b3).trans (b4.trans (Same.but s5))
      cases b with
      | true => exact k _ (.leaf .has v4) _ bb (d4.same s5) (.leaf (SqT.of upd_same)) (fun z => by cases z) (by simp [F.depth])
      | false => exact k _ (.leaf .lacks v4) _ bb (d4.same s5) (.leaf (SqT.of upd_same)) (fun z => by cases z) (by simp [F.depth])
    obtain ⟨m, rfl⟩ : ∃ m, n = m + 1 := by
      cases n with
      | zero => exact absurd (decide_eq_true rfl) c
      | succ m => exact ⟨m, rfl⟩
    have em : V.int (((m + 1 : Nat) : Int) - 1) = V.int (m : Nat) := by congr 1; omega
    have v1n : v1 ≠ 0 := fun e => c1 (by rw [e]; rfl)
    refine ⟨.int v1, rfl, _, _, rfl, rfl, _, rfl, ite2 (fun c2 => ?_) (fun c2 => ?_)⟩
    · have lt3 : v1 < 3 := of_decide_eq_true c2
      refine ⟨by show 2 ≤ sizeLine; decide, fun l hl => ?_⟩
      have s2 := Same.new (o := .lst [.str "and", .str "or"]) hl
      have l2 := upd_same (H := H1) (a := l) (o := .lst [.str "and", .str "or"])
      have b2 := b1.trans (Same.but s2)
      have d2 := d1.same s2
      obtain ⟨b, hb⟩ : ∃ b : Bool, atI [V.str "and", V.str "or"] (v1 - 1) = some (.str (wT b)) := by
        have : v1 = 1 ∨ v1 = 2 := by omega
        rcases this with rfl | rfl
        · exact ⟨true, rfl⟩
        · exact ⟨false, rfl⟩
      refine ⟨.int v1, rfl, _, 1, rfl, rfl, l, _, _, _, rfl, rfl, SqL.of l2, hb, ?_⟩
      refine ⟨.ref d, rfl, .int ((m + 1 : Nat) : Int), rfl, _, 1, rfl, rfl, d, by show [V.ref d, V.int (((m + 1 : Nat) : Int) - 1)] ++ [] = _; rw [em]; rfl, d2, fun vf tf H2 b3 d3 hf pf df => ?_⟩
      refine ⟨.ref d, rfl, .int ((m + 1 : Nat) : Int), rfl, _, 1, rfl, rfl, d, by show [V.ref d, V.int (((m + 1 : Nat) : Int) - 1)] ++ [] = _; rw [em]; rfl, d3, fun vg tg H4 b4 d4 hg pg dg => ?_⟩
      refine ⟨by show 3 ≤ sizeLine; decide, fun p hp => ?_⟩
      have s5 := Same.new (o := .tup [.str (wT b), vf, vg]) hp
      exact k _ (.two b tf tg) _ (((b2.trans b3).trans b4).trans (Same.but s5)) (d4.same s5) (.two (SqT.of upd_same) ((hf.but d3.lst b4).same s5) (hg.same s5)) ⟨pf, pg⟩ (by show max tf.depth tg.depth + 1 ≤ _; omega)
    · refine ⟨.ref d, rfl, d, 2, rfl, d1, by decide, fun v2 H2 v20 v22 b2 d2 => ?_⟩
      refine ⟨.ref d, rfl, .int ((m + 1 : Nat) : Int), rfl, _, 1, rfl, rfl, d, by show [V.ref d, V.int (((m + 1 : Nat) : Int) - 1)] ++ [] = _; rw [em]; rfl, d2, fun vf tf H3 b3 d3 hf pf df => ?_⟩
      refine ⟨by show 3 ≤ sizeLine; decide, fun p hp => ?_⟩
      have s5 := Same.new (o := .tup [.str "some", .int v2, vf]) hp
      exact k _ (.one .some v2 tf) _ (((b1.trans b2).trans b3).trans (Same.but s5)) (d3.same s5) (.one (SqT.of upd_same) (hf.same s5)) ⟨rfl, pf⟩ (by show tf.depth + 1 ≤ _; omega)
theorem all_some {f : Addr} {fd : FuncData} (FF : Fun K "_law_some_statement" "_law_some_statement" s_law_some_statement f fd) (b : Binds K fd a_law_some_statement []) (m : mg "_law_some_statement" = some (.ref f)) (T : Txt K mg C J B)
    (h_law_take : Has P w K mg base "_law_take" 1 a_law_take spTake) : ∀ n, Has P w K mg base "_law_some_statement" (n + 2) a_law_some_statement (spSo K n)
  | 0 => ⟨f, fd, m, FF.kp, b, noneOk⟩
  | n + 1 => ⟨f, fd, m, FF.kp, b, ok_law_some n FF T h_law_take (all_some FF b m T h_law_take n)⟩
end
end Fw

set_option maxRecDepth 100000
set_option maxHeartbeats 2000000
/-! x in a list, deep -/
namespace Fw
open PySem PySem.Spec PyProof.Rows L2
def rInL (K : PySem.W.Frag) : R2 := fun x y H Q => ∃ d ds, Dp K H x d ∧ Dp K H y (.list ds) ∧ SeqAt.shaped d = true ∧ SeqAt.shaped (.list ds) = true ∧ Q (.bl (ds.any fun z => PyData.eqv z d)) H
theorem op_inL {X : Cx} (hu : X.A.units + 64 < cLine) : OpR X (compareOp .In) (rInL X.K) := by
  intro pins s σ H x y v u Q I rx ry h
  obtain ⟨d, ds, hd, he, sd, se, q⟩ := h
  obtain ⟨as, r1⟩ := Dp.reads I d x v hd rx
  obtain ⟨bs, r2⟩ := Dp.reads I (.list ds) y u he ry
  have : X.A.units + 1 + min (PyData.depthAll ds) d.depth < cLine := by
    have e : (PyData.canLay0 (.list ds) && decide (PyData.depth (.list ds) ≤ 64)) = true := se
    have := of_decide_eq_true (Bool.and_eq_true_iff.mp e).2
    simp only [PyData.depth] at this
    omega
  exact SeqAt.in_list_reads r2 r1 (SeqAt.canLay_of_shaped se) (SeqAt.canLay_of_shaped sd) this ⟨.bl _, H, I, rfl, q⟩
def pD (p : Int × Int) : PyData := .tuple [.int p.1, .int p.2]
theorem pD_eqv (p q : Int × Int) : PyData.eqv (pD p) (pD q) = decide (p = q) := by
  obtain ⟨a, b⟩ := p
  obtain ⟨c, d⟩ := q
  simp only [pD, PyData.eqv, PyData.eqvAll, Prod.mk.injEq, Bool.and_true]
  by_cases h1 : a = c <;> by_cases h2 : b = d <;> simp [h1, h2, PyData.eqv]
theorem pD_any (p : Int × Int) (ps : List (Int × Int)) : ((ps.map pD).any fun z => PyData.eqv z (pD p)) = decide (p ∈ ps) := by
  induction ps with
  | nil => simp
  | cons q ps ih =>
    rw [List.map_cons, List.any_cons, ih, pD_eqv]
    by_cases h1 : q = p
    · subst h1; simp
    · have h2 : ¬ p = q := fun e => h1 e.symm
      simp [h1, h2]
theorem pD_shaped (p : Int × Int) : SeqAt.shaped (pD p) = true := by simp [SeqAt.shaped, pD, PyData.canLay0, PyData.canLayAll0, PyData.depth, PyData.depthAll]
theorem pD_lay (ps : List (Int × Int)) : PyData.canLayAll0 (ps.map pD) = true := by
  induction ps with
  | nil => simp [PyData.canLayAll0]
  | cons q ps ih => simp [PyData.canLayAll0, pD, PyData.canLay0] at ih ⊢; exact ih
theorem pD_dep (ps : List (Int × Int)) : PyData.depthAll (ps.map pD) ≤ 2 := by
  induction ps with
  | nil => simp [PyData.depthAll]
  | cons q ps ih => simp [PyData.depthAll, pD, PyData.depth] at ih ⊢; omega
theorem pDs_shaped (ps : List (Int × Int)) : SeqAt.shaped (.list (ps.map pD)) = true := by
  have := pD_dep ps
  simp [SeqAt.shaped, PyData.canLay0, pD_lay, PyData.depth]
  omega
theorem pDs_same (ps : List (Int × Int)) : PyData.eqv (.list (ps.map pD)) (.list (ps.map pD)) = true := SeqAt.eqv_refl _ (by simp [PyData.canLay0, pD_lay])
end Fw

set_option maxRecDepth 100000
set_option maxHeartbeats 8000000
namespace Fw
open PySem PySem.Spec PyProof.Rows L2
theorem rows_eqv (xs ys : List Int) : PyData.eqv (.list (xs.map PyData.int)) (.list (ys.map PyData.int)) = decide (xs = ys) := by
  have : ∀ xs ys : List Int, PyData.eqvAll (xs.map PyData.int) (ys.map PyData.int) = decide (xs = ys) := fun xs => by
    induction xs with
    | nil => intro ys; cases ys <;> simp [PyData.eqvAll]
    | cons x xs ih =>
      intro ys
      cases ys with
      | nil => simp [PyData.eqvAll]
      | cons y ys =>
        rw [List.map_cons, List.map_cons]
        simp only [PyData.eqvAll, ih, PyData.eqv]
        by_cases h1 : x = y <;> by_cases h2 : xs = ys <;> simp [h1, h2]
  simp only [PyData.eqv, this]
theorem PrA.dp {K : PySem.W.Frag} {H : Hp} : ∀ {as : List Addr} {ps : List (Int × Int)}, PrA H as ps → DpAll K H (as.map V.ref) (ps.map pD)
  | [], [], _ => .nil
  | [], p :: ps, h => by cases h.1
  | a :: as, [], h => by cases h.1
  | a :: as, p :: ps, h => by
    have h0 := h.2 0 a p rfl rfl
    refine .cons (.tup (SqT.of h0) (.cons (.int _) (.cons (.int _) .nil))) (PrA.dp ⟨by have := h.1; simpa using this, fun i b q e1 e2 => h.2 (i + 1) b q e1 e2⟩)
def flwB (ss : List T3) (ps : List (Int × Int)) (s t : Int) : Bool := (rng 2).all fun l => (begS ss s l).all fun one => (begS ss t l).any fun two => decide ((one, two) ∈ ps)
section
variable {P : Program} {w : World} {K : PySem.W.Frag} {mg : Str → Option Value} {base : Heap} {C J B WC DC : Addr}
def spIsP : Sp := fun vs H Q _ => ∃ (a b : Addr) (as bs : List Addr) (ps : List (Int × Int)), vs = [.ref a, .ref b] ∧ H a = some (.lst (as.map V.ref)) ∧ H b = some (.lst (bs.map V.ref)) ∧ PrA H as ps ∧ PrA H bs ps ∧ Q (.bl true) H
theorem ok_law_is_list {f : Addr} {fd : FuncData} (FF : Fun K "_law_is_list" "_law_is_list" s_law_is_list f fd) (T : Txt K mg C J B) : FnOk P w K mg base CX0 1 f fd a_law_is_list spIsP := by
  refine FF.ok sc_law_is_list (fun vs H Q E h => ?_) (fun cdv A outer s H vs Q E hr h => ?_)
  · obtain ⟨a, b, as, bs, ps, rfl, _⟩ := h
    rfl
  · obtain ⟨a, b, as, bs, ps, rfl, ha, hb, la, lb, k⟩ := h
    refine ⟨_, (pss_one (ps_ret (pe_and (pe_callB call_isi rfl T.z_isinstance (by decide +kernel) (pa_cons (pv 0) (pa_cons (pe_bltn (v := .ty "list") (u := .type "list") rfl T.z_list (by decide +kernel) rfl) pa_nil))) (pe_one (pe_cmpR (op_eqD hr.units) (pv 0) (pv 1) (nomark _)))))), ?_⟩
    refine ⟨.ref a, rfl, .ref a, .ty "list", .type "list", .type "list", true, rfl, .ty "list", .base (.lst ha), kit_ty (by decide +kernel), true, rfl, iteT ?_⟩
    refine ⟨.ref a, rfl, .ref b, rfl, _, _, .lst (SqL.of ha) la.dp, .lst (SqL.of hb) lb.dp, pDs_shaped ps, pDs_shaped ps, ?_⟩
    rw [pDs_same]
    exact k
def spFlw (K : PySem.W.Frag) : Sp := fun vs H Q _ => ∃ (v : V) (W : Wd) (pl : Addr) (as : List Addr) (ps : List (Int × Int)) (s t : Int), vs = [v, .ref pl, .int s, .int t] ∧ WSt K H v W ∧ W.steps.length ≤ 400 ∧ H pl = some (.lst (as.map V.ref)) ∧ PrA H as ps ∧
  ∀ H', Same H H' → Q (.bl (flwB W.steps ps s t)) H'
theorem ok_law_follows {f : Addr} {fd : FuncData} (FF : Fun K "_law_follows" "_law_follows" s_law_follows f fd) (T : Txt K mg C J B) (h_law_behind : Has P w K mg base "_law_behind" 1 a_law_behind (spBehind K)) : FnOk P w K mg base CX0 2 f fd a_law_follows (spFlw K) := by
  refine FF.ok sc_law_follows (fun vs H Q E h => ?_) (fun cdv A outer s0 H vs Q E hr h => ?_)
  · obtain ⟨v, W, pl, as, ps, s, t, rfl, _⟩ := h
    rfl
  · obtain ⟨v, W, pl, as, ps, s, t, rfl, hW, hst, gp, pr, k⟩ := h
    refine ⟨_, (pss_cons (ps_for PassesOwn.never rfl (pi_range1 rfl T.z_range (pa_cons pe_int pa_nil)) (pg_name (i := 4) sc_law_follows.nd rfl (.inl rfl)) (pss_one (ps_for PassesOwn.never rfl (pi_list (pe_callH h_law_behind (hr.mono (by omega)) (pa_cons (pv 0) (pa_cons (pv 2) (pa_cons (pv 4) pa_nil))))) (pg_name (i := 5) sc_law_follows.nd rfl (.inr rfl)) (pss_one (ps_if (pt_cmpR op_eq (pe_callB call_len_seq rfl T.z_len (by decide +kernel) (pa_cons (pe_lc (own := [("two", 6)]) (g := gName 6) rfl sc_law_follows.nd (pi_list (pe_callH h_law_behind (hr.mono (by omega)) (pa_cons (pv 0) (pa_cons (pv 3) (pa_cons (pv 4) pa_nil))))) (blkOk_by (own := [("two", 6)]) (N := n_law_follows) (sc := defScope s_law_follows) (by decide +kernel)) (fun _ _ _ _ _ => (pg_name (i := 6) sc_law_follows.nd rfl (.inl rfl))) (fun _ _ _ _ _ => (pts_one (pt_cmpR (@id (OpR _ _ (rInL K)) (op_inL hr.units)) (pe_tup (pa_cons (pv 5) (pa_cons (pv 6) pa_nil))) (pv 1) (by rfl)))) (fun _ _ _ _ _ => (pv 6))) pa_nil)) pe_int (nomark _)) (pss_one (ps_ret pe_bl)) pss_nil)))))
      (pss_one (ps_ret pe_bl))), ?_⟩
    have beh : ∀ s l, W.beh s l = begS W.steps s l := fun _ _ => rfl
    refine ⟨2, rfl, by decide, by decide, for_it walk_range (fun i σ G => ∃ (y4 y5 : Option V), σ = [some v, some (.ref pl), some (.int s), some (.int t), y4, y5, none] ∧ Same H G ∧ ((rng i).all fun l => (begS W.steps s l).all fun one => (begS W.steps t l).any fun two => decide ((one, two) ∈ ps)) = true)
      ⟨none, none, rfl, Same.refl _, rfl⟩ (fun i σ G _ _ => trivial) ?_ ?_⟩
    · rintro i x σ G0 G hi ⟨y4, y5, rfl, sG, all⟩ ⟨rfl, rfl⟩
      have i2 : i < 2 := hi
      have e0 : (fun i : Nat => V.int (0 + (i : Int))) i = V.int (i : Nat) := by show V.int _ = _; rw [Int.zero_add]
      rw [e0]
      refine ⟨v, rfl, .int s, rfl, .int (i : Nat), rfl, v, W, s, (i : Nat), rfl, hW.same sG, hst, fun b G1 s1 nb gb => ⟨b, rfl, ⟨_, SqL.of gb⟩, ?_⟩⟩
      have sG1 := sG.trans s1
      refine for_list (xs := (begS W.steps s (i : Nat)).map V.int) (fun j σ G => ∃ (y5 : Option V), σ = [some v, some (.ref pl), some (.int s), some (.int t), some (.int (i : Nat)), y5, none] ∧ Same G1 G ∧ (((begS W.steps s (i : Nat)).take j).all fun one => (begS W.steps t (i : Nat)).any fun two => decide ((one, two) ∈ ps)) = true)
        ⟨_, rfl, Same.refl _, rfl⟩ (fun j σ G _ ⟨_, _, s2, _⟩ => SqL.of (s2 _ _ gb)) ?_ ?_
      · rintro j x σ G2 hj ⟨y5, rfl, s2, all2⟩
        obtain ⟨one, h1, rfl⟩ := ints_nth hj
        have sG2 := sG1.trans s2
        refine ⟨v, rfl, .int t, rfl, .int (i : Nat), rfl, v, W, t, (i : Nat), rfl, hW.same sG2, hst, fun b2 G3 s3 nb3 gb3 => ⟨b2, rfl, ⟨_, SqL.of gb3⟩, fun D hD => ?_⟩⟩
        have sG3 := sG2.trans s3
        have lbh : (begS W.steps t (i : Nat)).length ≤ 400 := by
          unfold begS
          rw [List.length_map]
          exact Nat.le_trans (List.length_filter_le _ _) hst
        refine lc_fil (fun two => decide ((one, two) ∈ ps)) gb3 hD lbh (fun two ht G4 Y N s4 hY hN => ?_) (fun G4 s4 g4 => ?_)
        · have sG4 := sG3.trans s4
          refine ⟨rfl, .int one, rfl, .int two, rfl, by show 2 ≤ sizeLine; decide, fun q hq => ?_⟩
          have s5 := Same.new (o := .tup [.int one, .int two]) hq
          have sG5 := sG4.trans s5
          refine ⟨.ref pl, rfl, pD (one, two), ps.map pD, .tup (SqT.of upd_same) (.cons (.int _) (.cons (.int _) .nil)), .lst (SqL.of (sG5 _ _ gp)) (pr.same sG5).dp, pD_shaped _, pDs_shaped _, _, rfl, ?_⟩
          rw [pD_any]
          by_cases c : (one, two) ∈ ps
          · rw [decide_eq_true c]
            exact iteT ⟨_, rfl, hY (decide_eq_true c) _ s5⟩
          · rw [decide_eq_false c]
            exact iteF (hN (decide_eq_false c) _ s5)
        · refine ⟨D, _, rfl, .inl (SqL.of g4), rfl, _, rfl, ?_⟩
          have tk : (begS W.steps s (i : Nat)).take (j + 1) = (begS W.steps s (i : Nat)).take j ++ [one] := by rw [List.take_add_one, h1]; rfl
          rw [List.length_map]
          refine ite2 (fun c => ?_) (fun c => ?_)
          · have c0 : ((((begS W.steps t (i : Nat)).filter fun two => decide ((one, two) ∈ ps)).length : Nat) : Int) = 0 := V.int.inj (of_decide_eq_true c)
            have e : ((begS W.steps t (i : Nat)).filter fun two => decide ((one, two) ∈ ps)) = [] := List.length_eq_zero_iff.mp (by omega)
            have no : flwB W.steps ps s t = false := by
              unfold flwB
              refine List.all_eq_false.mpr ⟨(i : Nat), rng_mem.mpr ⟨by omega, by omega⟩, fun z => ?_⟩
              have := List.all_eq_true.mp z one (List.mem_of_getElem? h1)
              obtain ⟨two, q1, q2⟩ := List.any_eq_true.mp this
              have : two ∈ ((begS W.steps t (i : Nat)).filter fun two => decide ((one, two) ∈ ps)) := List.mem_filter.mpr ⟨q1, q2⟩
              rw [e] at this
              cases this
            have kk := k G4 (sG3.trans s4)
            rw [no] at kk
            exact kk
          · refine ⟨_, rfl, s2.trans (s3.trans s4), ?_⟩
            rw [tk, List.all_append, all2, Bool.true_and, List.all_cons, List.all_nil, Bool.and_true]
            refine List.any_eq_true.mpr ?_
            cases e : ((begS W.steps t (i : Nat)).filter fun two => decide ((one, two) ∈ ps)) with
            | nil => exact absurd (by show decide (V.int ((((begS W.steps t (i : Nat)).filter fun two => decide ((one, two) ∈ ps)).length : Nat) : Int) = V.int 0) = true; rw [e]; rfl) c
            | cons two r =>
              have := List.mem_filter.mp (show two ∈ ((begS W.steps t (i : Nat)).filter fun two => decide ((one, two) ∈ ps)) by rw [e]; exact List.mem_cons_self)
              exact ⟨two, this.1, this.2⟩
      · rintro σ G2 ⟨y5, rfl, s2, all2⟩
        rw [List.length_map, List.take_length] at all2
        refine ⟨_, _, rfl, sG1.trans s2, ?_⟩
        rw [rng_succ, List.all_append, all, Bool.true_and, List.all_cons, List.all_nil, Bool.and_true]
        exact all2
    · rintro σ G ⟨y4, y5, rfl, sG, all⟩
      have kk := k G sG
      rw [show flwB W.steps ps s t = true from all] at kk
      exact kk
end
end Fw

set_option maxRecDepth 100000
set_option maxHeartbeats 4000000
namespace Fw
open PySem
/-- pairs with the same facts -/
def rowP (Xs : List (List Int)) (s : Int) : List (Int × Int) := ((rng Xs.length).filter fun t => decide (Xs[s.toNat]? = Xs[t.toNat]?)).map fun t => (s, t)
def prs0 (Xs : List (List Int)) : List (Int × Int) := (rng Xs.length).flatMap (rowP Xs)
def rndN (ss : List T3) (ps : List (Int × Int)) : Nat → List (Int × Int)
  | 0 => ps
  | k + 1 => (rndN ss ps k).filter fun p => flwB ss (rndN ss ps k) p.1 p.2
def bitP (D : Nat → Nat) (p : Int × Int) : Bool := (D p.1.toNat).testBit p.2.toNat
theorem mem_prs0 {Xs : List (List Int)} {s t : Int} : (s, t) ∈ prs0 Xs ↔ (0 ≤ s ∧ s < (Xs.length : Int)) ∧ (0 ≤ t ∧ t < (Xs.length : Int)) ∧ Xs[s.toNat]? = Xs[t.toNat]? := by
  unfold prs0 rowP
  rw [List.mem_flatMap]
  constructor
  · rintro ⟨s', h1, h2⟩
    obtain ⟨t', h3, h4⟩ := List.mem_map.mp h2
    obtain ⟨rfl, rfl⟩ := Prod.mk.inj h4
    obtain ⟨h5, h6⟩ := List.mem_filter.mp h3
    exact ⟨rng_mem.mp h1, rng_mem.mp h5, of_decide_eq_true h6⟩
  · rintro ⟨h1, h2, h3⟩
    exact ⟨s, rng_mem.mpr h1, List.mem_map.mpr ⟨t, List.mem_filter.mpr ⟨rng_mem.mpr h2, decide_eq_true h3⟩, rfl⟩⟩
theorem prs0_len (Xs : List (List Int)) : (prs0 Xs).length ≤ Xs.length * Xs.length := by
  have part : ∀ i, ((rng i).flatMap (rowP Xs)).length ≤ i * Xs.length := fun i => by
    induction i with
    | zero => simp [rng]
    | succ i ih =>
      have h2 : (rowP Xs (i : Int)).length ≤ Xs.length := by
        unfold rowP
        rw [List.length_map]
        have := List.length_filter_le (fun t : Int => decide (Xs[((i : Nat) : Int).toNat]? = Xs[t.toNat]?)) (rng Xs.length)
        rw [rng_len] at this
        exact this
      rw [rng_succ, List.flatMap_append, List.length_append, Nat.add_mul, Nat.one_mul]
      simp only [List.flatMap_cons, List.flatMap_nil, List.append_nil]
      omega
  exact part _
theorem all_bits {Xs : List (List Int)} {D : Nat → Nat} (sub : ∀ i j, bt (D i) j → bt (eqM Xs i) j) : (rng Xs.length).flatMap (rowD Xs.length D) = (prs0 Xs).filter (bitP D) := by
  unfold prs0
  rw [List.filter_flatMap]
  have : ∀ s ∈ rng Xs.length, rowD Xs.length D s = (rowP Xs s).filter (bitP D) := fun s hs => by
    unfold rowD rowP
    rw [List.filter_map, List.filter_filter]
    congr 1
    unfold bitsOf flt
    refine List.filter_congr fun t ht => ?_
    show (D s.toNat).testBit t.toNat = ((D s.toNat).testBit t.toNat && decide (Xs[s.toNat]? = Xs[t.toNat]?))
    cases c : (D s.toNat).testBit t.toNat with
    | false => rfl
    | true =>
      have := (eqM_bt.mp (sub _ _ c)).2.2
      rw [decide_eq_true this.symm]
      rfl
  generalize hr : rng Xs.length = r at this
  clear hr
  induction r with
  | nil => rfl
  | cons a r ih => rw [List.flatMap_cons, List.flatMap_cons, this a List.mem_cons_self, ih fun s hs => this s (List.mem_cons_of_mem _ hs)]
section
variable {ss : List T3} {Xs : List (List Int)} {D : Nat → Nat}
theorem rnd_sub {ps : List (Int × Int)} : ∀ {k : Nat} {p : Int × Int}, p ∈ rndN ss ps k → p ∈ ps
  | 0, _, h => h
  | k + 1, _, h => rnd_sub (List.mem_filter.mp h).1
theorem rnd_fil {ps : List (Int × Int)} : ∀ k : Nat, ∃ r : Int × Int → Bool, rndN ss ps k = ps.filter r
  | 0 => ⟨fun _ => true, (List.filter_eq_self.mpr fun _ _ => rfl).symm⟩
  | k + 1 => by
    obtain ⟨r, h⟩ := rnd_fil (ps := ps) k
    refine ⟨fun p => flwB ss (rndN ss ps k) p.1 p.2 && r p, ?_⟩
    show (rndN ss ps k).filter (fun p => flwB ss (rndN ss ps k) p.1 p.2) = _
    rw [← List.filter_filter, ← h]
theorem rnd_stop {ps : List (Int × Int)} : ∀ k : Nat, rndN ss ps (k + 1) = rndN ss ps k ∨ (rndN ss ps k).length + k ≤ ps.length
  | 0 => .inr (Nat.le_refl _)
  | k + 1 => by
    have st : rndN ss ps (k + 1) = rndN ss ps k → rndN ss ps (k + 1 + 1) = rndN ss ps (k + 1) := fun e => by
      show (rndN ss ps (k + 1)).filter (fun p => flwB ss (rndN ss ps (k + 1)) p.1 p.2) = _
      rw [e]
      exact e
    rcases rnd_stop (ps := ps) k with e | e
    · exact .inl (st e)
    · by_cases c : (rndN ss ps (k + 1)).length = (rndN ss ps k).length
      · refine .inl (st ?_)
        exact List.filter_eq_self.mpr (List.length_filter_eq_length_iff.mp c)
      · have := List.length_filter_le (fun p => flwB ss (rndN ss ps k) p.1 p.2) (rndN ss ps k)
        have e2 : (rndN ss ps (k + 1)).length = ((rndN ss ps k).filter fun p => flwB ss (rndN ss ps k) p.1 p.2).length := rfl
        refine .inr ?_
        omega
theorem rnd_keep (hin : InN Xs.length ss) (g : Grt ss (eqM Xs) D) : ∀ (k : Nat) (s t : Nat), bt (D s) t → ((s : Int), (t : Int)) ∈ rndN ss (prs0 Xs) k
  | 0, s, t, h => by
    obtain ⟨h1, h2, h3⟩ := eqM_bt.mp (g.sub s t h)
    exact mem_prs0.mpr ⟨⟨by omega, by omega⟩, ⟨by omega, by omega⟩, by rw [Int.toNat_natCast, Int.toNat_natCast, h3]⟩
  | k + 1, s, t, h => by
    refine List.mem_filter.mpr ⟨rnd_keep hin g k s t h, ?_⟩
    refine List.all_eq_true.mpr fun l hl => List.all_eq_true.mpr fun one h1 => ?_
    have m := mem_begS.mp h1
    have r := hin _ m
    simp only at r
    obtain ⟨o, rfl⟩ := Int.eq_ofNat_of_zero_le r.2.2.1
    obtain ⟨u, u1, u2⟩ := g.sim s t h l o m
    exact List.any_eq_true.mpr ⟨(u : Int), mem_begS.mpr u1, decide_eq_true (rnd_keep hin g k o u u2)⟩
theorem rnd_last (hin : InN Xs.length ss) (hl : ∀ p ∈ ss, 0 ≤ p.2.1 ∧ p.2.1 < 2) (g : Grt ss (eqM Xs) D) : rndN ss (prs0 Xs) (Xs.length * Xs.length) = (rng Xs.length).flatMap (rowD Xs.length D) := by
  rw [all_bits g.sub]
  have fix : ∀ p ∈ rndN ss (prs0 Xs) (Xs.length * Xs.length), flwB ss (rndN ss (prs0 Xs) (Xs.length * Xs.length)) p.1 p.2 = true := by
    rcases rnd_stop (ss := ss) (ps := prs0 Xs) (Xs.length * Xs.length) with e | e
    · exact List.filter_eq_self.mp e
    · have := prs0_len Xs
      have e2 : rndN ss (prs0 Xs) (Xs.length * Xs.length) = [] := List.length_eq_zero_iff.mp (by omega)
      intro p hp
      rw [e2] at hp
      cases hp
  have sim : SimG (RS ss) (fun s t => ((s : Int), (t : Int)) ∈ rndN ss (prs0 Xs) (Xs.length * Xs.length)) := fun s t h l e r => by
    have h1 := fix _ h
    have h2 := List.all_eq_true.mp (List.all_eq_true.mp h1 l (rng_mem.mpr (hl _ r))) (e : Int) (mem_begS.mpr r)
    obtain ⟨two, q1, q2⟩ := List.any_eq_true.mp h2
    have m := mem_begS.mp q1
    have r2 := hin _ m
    simp only at r2
    obtain ⟨u, rfl⟩ := Int.eq_ofNat_of_zero_le r2.2.2.1
    exact ⟨u, m, of_decide_eq_true q2⟩
  have up := g.low _ sim fun s t h => by
    obtain ⟨h1, h2, h3⟩ := mem_prs0.mp (rnd_sub h)
    rw [Int.toNat_natCast, Int.toNat_natCast] at h3
    exact eqM_bt.mpr ⟨by omega, by omega, h3.symm⟩
  obtain ⟨r, hr⟩ := rnd_fil (ss := ss) (ps := prs0 Xs) (Xs.length * Xs.length)
  rw [hr]
  refine List.filter_congr fun p hp => ?_
  obtain ⟨s, t⟩ := p
  obtain ⟨h1, h2, h3⟩ := mem_prs0.mp hp
  obtain ⟨a, rfl⟩ := Int.eq_ofNat_of_zero_le h1.1
  obtain ⟨b, rfl⟩ := Int.eq_ofNat_of_zero_le h2.1
  have q1 : ((a : Int), (b : Int)) ∈ rndN ss (prs0 Xs) (Xs.length * Xs.length) ↔ r ((a : Int), (b : Int)) = true := by
    rw [hr, List.mem_filter]
    exact ⟨fun h => h.2, fun h => ⟨hp, h⟩⟩
  have q2 : bitP D ((a : Int), (b : Int)) = true ↔ bt (D a) b := by
    unfold bitP bt
    rw [Int.toNat_natCast, Int.toNat_natCast]
  have q3 : r ((a : Int), (b : Int)) = true ↔ bitP D ((a : Int), (b : Int)) = true := by
    rw [← q1, q2]
    exact ⟨up a b, rnd_keep hin g _ a b⟩
  cases e1 : r ((a : Int), (b : Int)) <;> cases e2 : bitP D ((a : Int), (b : Int)) <;> simp_all
/-- what is made of facts, and, or and some stays true -/
theorem pos_keep {W : Wd} {D : Nat → Nat} (hin : InN W.facts.length W.steps) (g : Grt W.steps (eqM W.facts) D) : ∀ {t : F} {e : Int → List Int}, posF t → ∀ {a b : Nat}, bt (D a) b → (a : Int) ∈ val W t e → (b : Int) ∈ val W t e
  | .leaf .has n, e, _, a, b, h, m => by
    obtain ⟨h1, h2, h3⟩ := eqM_bt.mp (g.sub a b h)
    obtain ⟨m1, m2⟩ := mem_flt.mp m
    refine mem_flt.mpr ⟨⟨by omega, by show _ < (W.facts.length : Int); omega⟩, ?_⟩
    unfold Wd.at at m2 ⊢
    rw [Int.toNat_natCast] at m2 ⊢
    rw [h3]
    exact m2
  | .leaf .lacks n, e, _, a, b, h, m => by
    obtain ⟨h1, h2, h3⟩ := eqM_bt.mp (g.sub a b h)
    obtain ⟨m1, m2⟩ := mem_flt.mp m
    refine mem_flt.mpr ⟨⟨by omega, by show _ < (W.facts.length : Int); omega⟩, ?_⟩
    unfold Wd.at at m2 ⊢
    rw [Int.toNat_natCast] at m2 ⊢
    rw [h3]
    exact m2
  | .leaf .var n, e, p, _, _, _, _ => absurd rfl p
  | .nul _, _, p, _, _, _, _ => p.elim
  | .two c f f2, e, p, a, b, h, m => by
    obtain ⟨h1, h2, h3⟩ := eqM_bt.mp (g.sub a b h)
    have bn : 0 ≤ (b : Int) ∧ (b : Int) < (W.n : Int) := ⟨by omega, by show _ < (W.facts.length : Int); omega⟩
    cases c with
    | true =>
      obtain ⟨m1, m2⟩ := mem_flt.mp (show (a : Int) ∈ flt W.n (fun s => sIn (val W f2 e) s && sIn (val W f e) s) from m)
      obtain ⟨m3, m4⟩ := Bool.and_eq_true_iff.mp m2
      exact mem_flt.mpr ⟨bn, Bool.and_eq_true_iff.mpr ⟨sIn_iff.mpr (pos_keep hin g p.2 h (sIn_iff.mp m3)), sIn_iff.mpr (pos_keep hin g p.1 h (sIn_iff.mp m4))⟩⟩
    | false =>
      obtain ⟨m1, m2⟩ := mem_flt.mp (show (a : Int) ∈ flt W.n (fun s => sIn (val W f2 e) s || sIn (val W f e) s) from m)
      refine mem_flt.mpr ⟨bn, Bool.or_eq_true_iff.mpr ((Bool.or_eq_true_iff.mp m2).imp (fun q => sIn_iff.mpr (pos_keep hin g p.2 h (sIn_iff.mp q))) fun q => sIn_iff.mpr (pos_keep hin g p.1 h (sIn_iff.mp q)))⟩
  | .one k l f, e, p, a, b, h, m => by
    obtain ⟨rfl, p2⟩ := p
    obtain ⟨h1, h2, h3⟩ := eqM_bt.mp (g.sub a b h)
    have bn : 0 ≤ (b : Int) ∧ (b : Int) < (W.n : Int) := ⟨by omega, by show _ < (W.facts.length : Int); omega⟩
    obtain ⟨m1, m2⟩ := mem_flt.mp m
    have m3 := of_decide_eq_true m2
    obtain ⟨u, hu⟩ : ∃ u, u ∈ (W.beh (a : Int) l).filter (sIn (val W f e)) := by
      cases c : (W.beh (a : Int) l).filter (sIn (val W f e)) with
      | nil => rw [c] at m3; exact absurd m3 (by decide)
      | cons u r => exact ⟨u, List.mem_cons_self⟩
    obtain ⟨u1, u2⟩ := List.mem_filter.mp hu
    have mm := mem_begS.mp (show u ∈ begS W.steps (a : Int) l from u1)
    have r := hin _ mm
    simp only at r
    obtain ⟨o, rfl⟩ := Int.eq_ofNat_of_zero_le r.2.2.1
    obtain ⟨z, z1, z2⟩ := g.sim a b h l o mm
    have vz := pos_keep (e := e) hin g p2 z2 (sIn_iff.mp u2)
    refine mem_flt.mpr ⟨bn, decide_eq_true ?_⟩
    have : (z : Int) ∈ (W.beh (b : Int) l).filter (sIn (val W f e)) := List.mem_filter.mpr ⟨mem_begS.mpr z1, sIn_iff.mpr vz⟩
    have := List.length_pos_of_mem this
    omega
end
end Fw

set_option maxRecDepth 100000
set_option maxHeartbeats 16000000
namespace Fw
open PySem PySem.Spec PyProof.Rows L2 GxR
theorem Draws.tb {A d : Addr} {H H' : Hp} (g : TabG H A) (t : Tb A H H') (h : Draws H d) : Draws H' d := by
  obtain ⟨ds, q⟩ := h
  exact ⟨ds, t.1 _ _ (g.ne q (by intro _ z; cases z)) q⟩
theorem PrA.tb {A : Addr} {H H' : Hp} (g : TabG H A) (t : Tb A H H') {as : List Addr} {ps : List (Int × Int)} (h : PrA H as ps) : PrA H' as ps := ⟨h.1, fun i a p e1 e2 => t.1 _ _ (g.ne (h.2 i a p e1 e2) (by intro _ z; cases z)) (h.2 i a p e1 e2)⟩
theorem PrA.butD {d : Addr} {H H' : Hp} (dr : Draws H d) (b : But d H H') {as : List Addr} {ps : List (Int × Int)} (h : PrA H as ps) : PrA H' as ps := by
  obtain ⟨ds, q⟩ := dr
  exact ⟨h.1, fun i a p e1 e2 => b _ _ (ne_of (h.2 i a p e1 e2) q (by intro z; cases z)) (h.2 i a p e1 e2)⟩
theorem PrA.append {H : Hp} {as bs : List Addr} {ps qs : List (Int × Int)} (h : PrA H as ps) (g : PrA H bs qs) : PrA H (as ++ bs) (ps ++ qs) :=
  ⟨by rw [List.length_append, List.length_append, h.1, g.1], fun i a p e1 e2 => by
    by_cases c : i < as.length
    · rw [List.getElem?_append_left c] at e1
      rw [List.getElem?_append_left (by rw [← h.1]; exact c)] at e2
      exact h.2 i a p e1 e2
    · rw [List.getElem?_append_right (by omega)] at e1
      rw [List.getElem?_append_right (by rw [← h.1]; omega), ← h.1] at e2
      exact g.2 _ a p e1 e2⟩
theorem PrA.nth {H : Hp} {as : List Addr} {ps : List (Int × Int)} (h : PrA H as ps) {i : Nat} {x : V} (hx : (as.map V.ref)[i]? = some x) : ∃ a p, x = .ref a ∧ as[i]? = some a ∧ ps[i]? = some p ∧ H a = some (.tup [.int p.1, .int p.2]) := by
  rw [List.getElem?_map] at hx
  cases e : as[i]? with
  | none => rw [e] at hx; cases hx
  | some a =>
    rw [e] at hx
    have il := (List.getElem?_eq_some_iff.mp e).1
    rw [h.1] at il
    exact ⟨a, ps[i], (Option.some.inj hx).symm, rfl, List.getElem?_eq_getElem il, h.2 i a _ e (List.getElem?_eq_getElem il)⟩
theorem PrA.put {H : Hp} {as : List Addr} {ps : List (Int × Int)} {D : Addr} {xs : List V} {o : HO} (h : PrA H as ps) (e : H D = some (.lst xs)) : PrA (upd H D o) as ps :=
  ⟨h.1, fun i a p e1 e2 => by rw [upd_ne (ne_of (h.2 i a p e1 e2) e (by intro z; cases z))]; exact h.2 i a p e1 e2⟩
theorem rows_lay (ns : List Int) : SeqAt.shaped (.list (ns.map PyData.int)) = true := ints_shaped ns
section
variable {P : Program} {w : World} {K : PySem.W.Frag} {mg : Str → Option Value} {base : Heap} {C J B NC WC DC cA tA : Addr}
def spLaw (K : PySem.W.Frag) (tA : Addr) : Sp := fun vs H Q _ => ∃ (a : Addr) (ns : List Int), vs = [.ref a] ∧ SqL K H a (ns.map V.int) ∧ TabG H tA ∧ ns.length ≤ 63 ∧ ∀ H', Q (.bl true) H'
theorem ok_law {f : Addr} {fd : FuncData} (FF : Fun K "law" "law" s_law f fd) (T : Txt K mg C J B) (h_law_draws : Has P w K mg base "_law_draws" 1 a_law_draws (spDraws K)) (h_law_take : Has P w K mg base "_law_take" 1 a_law_take spTake)
    (h_law_some_statement : Has P w K mg base "_law_some_statement" 6 a_law_some_statement (spSo K 4)) (h_law_world : Has P w K mg base "_law_world" 2 a_law_world spWorld) (h_law_made : HasX P w K mg base "_law_made" 8 a_law_made (spMade K WC tA))
    (h_law_truth : Has P w K mg base "_law_truth" 23 a_law_truth (spTruth K)) (h_law_follows : Has P w K mg base "_law_follows" 2 a_law_follows (spFlw K)) (h_law_is_list : Has P w K mg base "_law_is_list" 1 a_law_is_list spIsP)
    (h_can_do : Has P w K mg base "can_do" 7 a_can_do (spCan K WC)) : FnOk P w K mg base CX0 24 f fd a_law (spLaw K tA) := by
  refine FF.ok sc_law (fun vs H Q E h => ?_) (fun cdv A outer s H vs Q E hr h => ?_)
  · obtain ⟨a, ns, rfl, _⟩ := h
    rfl
  · obtain ⟨a, ns, rfl, hS, tg, hlen, k⟩ := h
    refine ⟨_, (pss_cons (ps_set (i := 1) sc_law.nd rfl (.inl rfl) (pe_callH h_law_draws (hr.mono (by omega)) (pa_cons (pv 0) (pa_cons pe_int pa_nil))))
      (pss_cons (ps_set (i := 2) sc_law.nd rfl (.inl rfl) (pe_op op_add pe_int (pe_callH h_law_take (hr.mono (by omega)) (pa_cons (pv 1) (pa_cons pe_int pa_nil)))))
      (pss_cons (ps_set (i := 3) sc_law.nd rfl (.inr rfl) (pe_callH h_law_world (hr.mono (by omega)) (pa_cons (pv 1) (pa_cons pe_int (pa_cons (pv 2) pa_nil)))))
      (pss_cons (ps_set (i := 4) sc_law.nd rfl (.inl rfl) (pe_callB call_len_seq rfl T.z_len (by decide +kernel) (pa_cons (pe_ix ix_tup (pv 3) pe_int (fun _ _ => rfl)) pa_nil)))
      (pss_cons (ps_set (i := 5) sc_law.nd rfl (.inr rfl) (pe_lst pa_nil))
      (pss_cons (ps_for PassesOwn.never rfl (pi_range1 rfl T.z_range (pa_cons (pv 4) pa_nil)) (pg_name (i := 6) sc_law.nd rfl (.inr rfl)) (pss_one (ps_set (i := 5) sc_law.nd rfl (.inr rfl) (pe_op op_cat (pv 5) (pe_lc (own := [("second", 10)]) (g := gName 10) rfl sc_law.nd (pi_range1 rfl T.z_range (pa_cons (pv 4) pa_nil)) (blkOk_by (own := [("second", 10)]) (N := n_law) (sc := defScope s_law) (by decide +kernel)) (fun _ _ _ _ _ => (pg_name (i := 10) sc_law.nd rfl (.inl rfl))) (fun _ _ _ _ _ => (pts_one (pt_cmpR (@id (OpR _ _ (rEqD K)) (op_eqD hr.units)) (pe_ix (@id (IxR _ (rIxL K)) ix_list) (pe_ix (@id (IxR _ (rIxT K)) ix_tup) (pv 3) pe_int (fun _ _ => rfl)) (pv 6) (fun _ _ => rfl)) (pe_ix (@id (IxR _ (rIxL K)) ix_list) (pe_ix (@id (IxR _ (rIxT K)) ix_tup) (pv 3) pe_int (fun _ _ => rfl)) (pv 10) (fun _ _ => rfl)) (nomark _)))) (fun _ _ _ _ _ => (pe_tup (pa_cons (pv 6) (pa_cons (pv 10) pa_nil)))))))))
      (pss_cons (ps_for PassesOwn.never rfl (pi_range1 rfl T.z_range (pa_cons (pe_op op_mul (pv 4) (pv 4)) pa_nil)) (pg_name (i := 7) sc_law.nd rfl (.inl rfl)) (pss_one (ps_set (i := 5) sc_law.nd rfl (.inr rfl) (pe_lc (own := [("pair", 9)]) (g := gName 9) rfl sc_law.nd (pi_list (pv 5)) (blkOk_by (own := [("pair", 9)]) (N := n_law) (sc := defScope s_law) (by decide +kernel)) (fun _ _ _ _ _ => (pg_name (i := 9) sc_law.nd rfl (.inl rfl))) (fun _ _ _ _ _ => (pts_one (pt_val (pe_callH h_law_follows (hr.mono (by omega)) (pa_cons (pv 3) (pa_cons (pv 5) (pa_cons (pe_ix (@id (IxR _ (rIxT K)) ix_tup) (pv 9) pe_int (fun _ _ => rfl)) (pa_cons (pe_ix (@id (IxR _ (rIxT K)) ix_tup) (pv 9) pe_int (fun _ _ => rfl)) pa_nil)))))))) (fun _ _ _ _ _ => (pv 9))))))
      (pss_cons (ps_if (pt_not (pt_val (pe_callH h_law_is_list (hr.mono (by omega)) (pa_cons (pe_callH h_can_do (hr.mono (by omega)) (pa_cons (pe_callL h_law_made (hr.mono (by omega)) (pa_cons (pv 3) (pa_cons pe_int (pa_cons (pv 2) pa_nil)))) pa_nil)) (pa_cons (pv 5) pa_nil))))) (pss_one (ps_ret pe_bl)) pss_nil)
      (pss_cons (ps_set (i := 8) sc_law.nd rfl (.inr rfl) (pe_callH h_law_truth (hr.mono (by omega)) (pa_cons (pv 3) (pa_cons (pe_callH h_law_some_statement (hr.mono (by omega)) (pa_cons (pv 1) (pa_cons pe_int pa_nil))) pa_nil))))
      (pss_one (ps_ret (pe_cmpR op_eq (pe_callB call_len_seq rfl T.z_len (by decide +kernel) (pa_cons (pe_lc (own := [("pair", 9)]) (g := gName 9) rfl sc_law.nd (pi_list (pv 5)) (blkOk_by (own := [("pair", 9)]) (N := n_law) (sc := defScope s_law) (by decide +kernel)) (fun _ _ _ _ _ => (pg_name (i := 9) sc_law.nd rfl (.inl rfl))) (fun _ _ _ _ _ => (pts_one (PW.pt (pw_and (pt_cmpR (@id (OpR _ _ (rIn K false)) op_in_seq) (pe_ix (@id (IxR _ (rIxT K)) ix_tup) (pv 9) pe_int (fun _ _ => rfl)) (pv 8) (by rfl)) (pw_and1 (pt_cmpR (@id (OpR _ _ (rIn K true)) op_notIn_seq) (pe_ix (@id (IxR _ (rIxT K)) ix_tup) (pv 9) pe_int (fun _ _ => rfl)) (pv 8) (by rfl))))))) (fun _ _ _ _ _ => (pv 9))) pa_nil)) pe_int (nomark _))))))))))))), ?_⟩
    refine ⟨.ref a, rfl, a, ns, 250, rfl, hS, hlen, by decide, by decide, fun d H1 s1 hd0 d1 => ?_⟩
    have ntd : tA ≠ d := fun e => by obtain ⟨qs, q, _⟩ := tg; rw [e, hd0] at q; cases q
    refine ⟨.ref d, rfl, d, 2, rfl, d1, by decide, fun v H2 v0 v2 b2 d2 => ⟨1, v, rfl, rfl, ?_⟩⟩
    refine ⟨.ref d, rfl, .int (1 + v), rfl, d, 6, 1 + v, rfl, d2, by decide, by decide, by omega, by omega, fun wa sa pa fas pas W H3 b3 d3 X nsd npd nfd fit up n6 => ?_⟩
    have tg3 : TabG H3 tA := by
      obtain ⟨qs, q, t⟩ := tg.same s1
      exact ⟨qs, b3 _ _ ntd (b2 _ _ ntd q), t⟩
    clear hS hlen tg s1 hd0 d1 b2 d2 b3
    have n8 := fit.n8
    have nn : W.facts.length ≤ 6 := by unfold Wd.n at n6; omega
    refine ⟨.ref wa, rfl, wa, _, _, .ref sa, rfl, rfl, SqT.of X.w, rfl, sa, _, rfl, .inl (SqL.of X.s), ?_⟩
    rw [List.length_map, X.f.1]
    refine ⟨Nat.zero_le _, fun pl0 hpl0 => ?_⟩
    have s4 := Same.new (o := .lst []) hpl0
    have nHp0 := hpl0
    have gp4 : (upd H3 pl0 (.lst [])) pl0 = some (.lst (([] : List Addr).map V.ref)) := upd_same
    generalize upd H3 pl0 (.lst []) = H4 at s4 gp4
    refine ⟨.int (W.facts.length : Nat), rfl, _, rfl, by omega, by omega, ?_⟩
    rw [Int.toNat_natCast]
    refine for_it walk_range (fun i σ G => ∃ (y6 : Option V) (pl : Addr) (as : List Addr), σ = [some (.ref a), some (.ref d), some (.int (1 + v)), some (.ref wa), some (.int (W.facts.length : Nat)), some (.ref pl), y6, none, none, none, none] ∧ Same H3 G ∧ G pl = some (.lst (as.map V.ref)) ∧ PrA G as ((rng i).flatMap (rowP W.facts)) ∧ H3 pl = none ∧ as.length ≤ 6 * i)
      ⟨none, pl0, [], rfl, s4, gp4, ⟨rfl, fun i a p e _ => by simp at e⟩, nHp0, Nat.le_refl _⟩ (fun i σ G _ _ => trivial) ?_ ?_
    · rintro i x σ G0 G hi ⟨y6, pl, as, rfl, sG, gp, pr, nHp, la⟩ ⟨rfl, rfl⟩
      have e0 : (fun i : Nat => V.int (0 + (i : Int))) i = V.int (i : Nat) := by show V.int _ = _; rw [Int.zero_add]
      rw [e0]
      refine ⟨.ref pl, rfl, .int (W.facts.length : Nat), rfl, _, rfl, by omega, by omega, fun D hD => ?_⟩
      rw [Int.toNat_natCast]
      have XG := X.same sG
      have hif : i < fas.length := by rw [X.f.1]; exact hi
      have row : ∀ {u : Nat}, u < W.facts.length → ∃ fa Y, fas[u]? = some fa ∧ W.facts[u]? = some Y ∧ IL G fa Y := fun {u} hu => by
        have h1 := List.getElem?_eq_getElem (show u < fas.length by rw [X.f.1]; exact hu)
        have h2 := List.getElem?_eq_getElem hu
        exact ⟨_, _, h1, h2, XG.f.2 u _ _ h1 h2⟩
      obtain ⟨fa, Y, ha1, hY, gY⟩ := row hi
      refine lc_it walk_range (fun j G' => Same G G' ∧ ∃ bs : List Addr, G' D = some (.lst (bs.map V.ref)) ∧ PrA G' bs (((rng j).filter fun t => decide (W.facts[i]? = W.facts[t.toNat]?)).map fun t => ((i : Int), t)) ∧ bs.length ≤ j) ⟨Same.new hD, [], upd_same, ⟨rfl, fun i a p e _ => by simp at e⟩, Nat.le_refl _⟩ (fun _ _ _ _ => trivial) ?_ ?_
      · rintro j x G1 G2 hj ⟨sG1, bs, gD, prb, lb⟩ ⟨rfl, rfl⟩
        have e1 : (fun i : Nat => V.int (0 + (i : Int))) j = V.int (j : Nat) := by show V.int _ = _; rw [Int.zero_add]
        rw [e1]
        obtain ⟨fb, Z, hb1, hZ, gZ⟩ := row hj
        have X1 := XG.same sG1
        refine ⟨rfl, .ref wa, rfl, wa, _, _, .ref sa, rfl, rfl, SqT.of X1.w, rfl, .int (i : Nat), rfl, sa, _, _, .ref fa, rfl, rfl, SqL.of X1.s, atI_nat (j := i) (by rw [List.getElem?_map, ha1]; rfl), .ref wa, rfl, wa, _, _, .ref sa, rfl, rfl, SqT.of X1.w, rfl, .int (j : Nat), rfl, sa, _, _, .ref fb, rfl, rfl, SqL.of X1.s, atI_nat (j := j) (by rw [List.getElem?_map, hb1]; rfl), .list (Y.map PyData.int), .list (Z.map PyData.int), .lst (SqL.of (sG1 _ _ gY)) (dp_ints Y), .lst (SqL.of (sG1 _ _ gZ)) (dp_ints Z), ints_shaped Y, ints_shaped Z, _, rfl, ?_⟩
        rw [rows_eqv]
        have nx : (rng (j + 1)).filter (fun t => decide (W.facts[i]? = W.facts[t.toNat]?)) = (rng j).filter (fun t => decide (W.facts[i]? = W.facts[t.toNat]?)) ++ (if Y = Z then [(j : Int)] else []) := by
          rw [rng_succ, List.filter_append]
          congr 1
          by_cases c : Y = Z
          · rw [if_pos c, List.filter_cons_of_pos (by rw [Int.toNat_natCast, hY, hZ, c]; exact decide_eq_true rfl)]
            rfl
          · rw [if_neg c, List.filter_cons_of_neg (by rw [Int.toNat_natCast, hY, hZ]; simpa using c)]
            rfl
        by_cases c : Y = Z
        · rw [decide_eq_true c]
          refine iteT ⟨.int (i : Nat), rfl, .int (j : Nat), rfl, by show 2 ≤ sizeLine; decide, fun r hr' => ?_⟩
          have s7 := Same.new (o := .tup [.int (i : Nat), .int (j : Nat)]) hr'
          have nrD : r ≠ D := (ne_of_none gD hr').symm
          refine ⟨_, s7 _ _ gD, by rw [List.length_map]; exact small1000 (by omega), fun b o e => by rw [upd_ne (ne_of_none e hD)]; exact s7 _ _ (sG1 b o e), bs ++ [r], by rw [upd_same, List.map_append]; rfl, ?_, by rw [List.length_append, List.length_singleton]; omega⟩
          rw [nx, if_pos c, List.map_append]
          exact ((prb.same s7).put (s7 _ _ gD)).snoc (p := ((i : Int), (j : Int))) (by rw [upd_ne nrD, upd_same])
        · rw [decide_eq_false c]
          refine iteF ⟨sG1, bs, gD, ?_, by omega⟩
          rw [nx, if_neg c, List.append_nil]
          exact prb
      · rintro G1 ⟨sG1, bs, gD, prb, lb⟩
        refine ⟨pl, D, _, _, rfl, rfl, sG1 _ _ gp, gD, ?_, fun q hq => ?_⟩
        · rw [List.length_map, List.length_map]
          show _ ≤ 16777216
          omega
        have s7 := Same.new (o := .lst (as.map V.ref ++ bs.map V.ref)) hq
        have s37 := sG.trans (sG1.trans s7)
        refine ⟨_, q, as ++ bs, rfl, s37, by rw [upd_same, List.map_append], ?_, ?_, by rw [List.length_append]; omega⟩
        · rw [rng_succ, List.flatMap_append]
          simp only [List.flatMap_cons, List.flatMap_nil, List.append_nil]
          exact ((pr.same sG1).same s7).append (prb.same s7)
        · cases e : H3 q with
          | none => rfl
          | some u => rw [sG1 _ _ (sG _ _ e)] at hq; cases hq
    rintro σ H5 ⟨y6, pl, as, rfl, s5, gp5, pr5, nHp, la5⟩
    have X5 := X.same s5
    have d5 := d3.same s5
    have tg5 := tg3.same s5
    have nH4 : W.facts.length * W.facts.length ≤ 36 := Nat.mul_le_mul nn nn
    refine ⟨.int (W.facts.length : Nat), rfl, .int (W.facts.length : Nat), rfl, _, _, rfl, rfl, .inl ⟨by omega, by omega⟩, ((W.facts.length * W.facts.length : Nat) : Int), by show [V.int _] = [V.int _]; rw [Int.natCast_mul], ?_, ?_, ?_⟩
    · generalize W.facts.length * W.facts.length = z at nH4 ⊢; omega
    · generalize W.facts.length * W.facts.length = z at nH4 ⊢; omega
    rw [Int.toNat_natCast]
    refine for_it walk_range (fun i σ G => ∃ (y7 : Option V) (pl : Addr) (as : List Addr), σ = [some (.ref a), some (.ref d), some (.int (1 + v)), some (.ref wa), some (.int (W.facts.length : Nat)), some (.ref pl), y6, y7, none, none, none] ∧ Same H3 G ∧ G pl = some (.lst (as.map V.ref)) ∧ PrA G as (rndN W.steps (prs0 W.facts) i) ∧ H3 pl = none)
      ⟨none, pl, as, rfl, s5, gp5, pr5, nHp⟩ (fun i σ G _ _ => trivial) ?_ ?_
    · rintro i x σ G0 G hi ⟨y7, pl, as, rfl, sG, gp, pr, nHp⟩ ⟨rfl, rfl⟩
      have XG := X.same sG
      have lR : (rndN W.steps (prs0 W.facts) i).length ≤ 36 := by
        obtain ⟨r, hr'⟩ := rnd_fil (ss := W.steps) (ps := prs0 W.facts) i
        have h1 := List.length_filter_le r (prs0 W.facts)
        have h2 := prs0_len W.facts
        rw [hr']
        omega
      refine ⟨.ref pl, rfl, pl, rfl, ⟨_, SqL.of gp⟩, fun D hD => ?_⟩
      refine lc_list (xs := as.map V.ref) (fun j G' => Same G G' ∧ ∃ bs : List Addr, G' D = some (.lst (bs.map V.ref)) ∧ PrA G' bs (((rndN W.steps (prs0 W.facts) i).take j).filter fun p => flwB W.steps (rndN W.steps (prs0 W.facts) i) p.1 p.2)) ⟨Same.new hD, [], upd_same, ⟨rfl, fun i a p e _ => by simp at e⟩⟩ (fun j G' _ q => SqL.of (q.1 _ _ gp)) ?_ ?_
      · rintro j x G1 hx ⟨sG1, bs, gD, prb⟩
        obtain ⟨q, p, rfl, hq, hp, gq⟩ := (pr.same sG1).nth hx
        have jl := (List.getElem?_eq_some_iff.mp hp).1
        have tk : (rndN W.steps (prs0 W.facts) i).take (j + 1) = (rndN W.steps (prs0 W.facts) i).take j ++ [p] := by rw [List.take_add_one, hp]; rfl
        have lbs : bs.length ≤ 36 := by
          have h1 := List.length_filter_le (fun p : Int × Int => flwB W.steps (rndN W.steps (prs0 W.facts) i) p.1 p.2) ((rndN W.steps (prs0 W.facts) i).take j)
          rw [prb.1]
          rw [List.length_take] at h1
          omega
        refine ⟨rfl, .ref wa, rfl, .ref pl, rfl, .ref q, rfl, q, _, _, .int p.1, rfl, rfl, SqT.of gq, atI_nat (j := 0) rfl, .ref q, rfl, q, _, _, .int p.2, rfl, rfl, SqT.of gq, atI_nat (j := 1) rfl, .ref wa, W, pl, as, rndN W.steps (prs0 W.facts) i, p.1, p.2, rfl, ⟨wa, sa, pa, fas, pas, rfl, (XG.same sG1).gen⟩, by have := fit.st; omega, sG1 _ _ gp, pr.same sG1, fun G2 s2 => ⟨_, rfl, ?_⟩⟩
        cases c : flwB W.steps (rndN W.steps (prs0 W.facts) i) p.1 p.2 with
        | true =>
          refine iteT ⟨.ref q, rfl, _, s2 _ _ gD, by rw [List.length_map]; exact small1000 (by omega), fun b o e => by rw [upd_ne (ne_of_none e hD)]; exact s2 _ _ (sG1 b o e), bs ++ [q], by rw [upd_same, List.map_append]; rfl, ?_⟩
          rw [tk, List.filter_append, List.filter_cons_of_pos (p := fun p : Int × Int => flwB W.steps (rndN W.steps (prs0 W.facts) i) p.1 p.2) c]
          have gq2 := s2 _ _ gq
          exact ((prb.same s2).put (s2 _ _ gD)).snoc (p := p) (by rw [upd_ne (ne_of gq2 (s2 _ _ gD) (by intro z; cases z))]; exact gq2)
        | false =>
          refine iteF ⟨sG1.trans s2, bs, s2 _ _ gD, ?_⟩
          rw [tk, List.filter_append, List.filter_cons_of_neg (p := fun p : Int × Int => flwB W.steps (rndN W.steps (prs0 W.facts) i) p.1 p.2) (by rw [c]; exact Bool.false_ne_true), show ∀ p : Int × Int → Bool, List.filter p [] = [] from fun _ => rfl, List.append_nil]
          exact prb.same s2
      · rintro G1 ⟨sG1, bs, gD, prb⟩
        rw [List.length_map, pr.1, List.take_length] at prb
        refine ⟨_, D, bs, rfl, sG.trans sG1, gD, prb, ?_⟩
        cases e : H3 D with
        | none => rfl
        | some u => rw [sG _ _ e] at hD; cases hD
    clear gp5 pr5 nHp la5 as pl X5 d5 tg5 s5 H5
    rintro σ H5 ⟨y7, pl, as, rfl, s5, gp5, pr5, nHp⟩
    have X5 := X.same s5
    have d5 := d3.same s5
    have tg5 := tg3.same s5
    have hst := fit.st
    have n1 := fit.one
    have hin : InN W.facts.length W.steps := fun q hq => by
      have := up.in_ q hq
      unfold StUp Wd.n at this
      exact ⟨this.1, this.2.1, this.2.2.2.2.1, this.2.2.2.2.2.1⟩
    have hl2 : ∀ q ∈ W.steps, 0 ≤ q.2.1 ∧ q.2.1 < 2 := fun q hq => by
      have := up.in_ q hq
      unfold StUp at this
      exact ⟨this.2.2.1, this.2.2.2.1⟩
    refine ⟨.ref wa, rfl, .int (1 + v), rfl, wa, sa, pa, fas, pas, W, 2, 1 + v, 1 + v, rfl, X5, fit, up, by decide, by decide, Int.le_refl _, by omega, by omega, tg5, fun p dx ta tb dd ras as2 H6 t6 WE6 RT6 => ?_⟩
    have X6 := X5.tb tg5 t6
    have d6 := d5.tb tg5 t6
    have gp6 := t6.1 _ _ (tg5.ne gp5 (by intro _ z; cases z)) gp5
    have pr6 := pr5.tb tg5 t6
    have nd5 : pl ≠ d := fun e => by
      obtain ⟨ds, q⟩ := d3
      rw [e, q] at nHp
      cases nHp
    clear X5 d5 gp5 pr5 tg5 t6 tg3 X s5 nHp
    refine ⟨p, W.facts, W.steps, rfl, ⟨_, dx, 2, 1 + v, ta, tb, dd, ras, as2, WE6, RT6⟩, hin, fun q hq => by have := hl2 q hq; omega, by omega, by omega, fun l as3 D H7 s7 gl7 pr7 g => ?_⟩
    rw [rnd_last hin hl2 g] at pr6
    refine ⟨.ref pl, rfl, l, pl, as3, as, _, rfl, gl7, s7 _ _ gp6, pr7, pr6.same s7, true, rfl, iteF ?_⟩
    have X7 := X6.same s7
    have d7 := d6.same s7
    have gp7 := s7 _ _ gp6
    have prL := pr6.same s7
    clear X6 d6 gp6 pr6 gl7 pr7 WE6 RT6 s7
    refine ⟨.ref wa, rfl, .ref d, rfl, d, rfl, d7, fun tv t H8 b8 d8 ht pf dep => ?_⟩
    have X8 := X7.butD d7 b8 nsd npd nfd
    have gp8 := b8 _ _ nd5 gp7
    have pr8 := prL.butD d7 b8
    clear X7 gp7 prL d7 b8
    refine ⟨.ref wa, tv, W, t, fun _ => [], rfl, ⟨wa, sa, pa, fas, pas, rfl, X8.gen⟩, ⟨by omega, by omega⟩, ht, Nat.le_trans (show t.depth ≤ 4 from dep) (by decide), posF_fv pf, fun ga H9 s9 gg => ?_⟩
    have gp9 := s9 _ _ gp8
    have pr9 := pr8.same s9
    refine ⟨.ref pl, rfl, pl, rfl, ⟨_, SqL.of gp9⟩, fun Dl hDl => ?_⟩
    refine lc_list (xs := as.map V.ref) (fun j G => Same H9 G ∧ G Dl = some (.lst [])) ⟨Same.new hDl, upd_same⟩ (fun j G _ q => SqL.of (q.1 _ _ gp9)) ?_ ?_
    · rintro j x G hx ⟨sG, gD⟩
      obtain ⟨q, pp, rfl, hq, hp, gq⟩ := (pr9.same sG).nth hx
      have hm := List.mem_of_getElem? hp
      rw [all_bits g.sub] at hm
      obtain ⟨m1, m2⟩ := List.mem_filter.mp hm
      obtain ⟨ps, pt⟩ := pp
      obtain ⟨h1, h2, _⟩ := mem_prs0.mp m1
      obtain ⟨sa', rfl⟩ := Int.eq_ofNat_of_zero_le h1.1
      obtain ⟨sb', rfl⟩ := Int.eq_ofNat_of_zero_le h2.1
      have bb : bt (D sa') sb' := by
        unfold bitP at m2
        rw [Int.toNat_natCast, Int.toNat_natCast] at m2
        exact m2
      have ggG := sG _ _ gg
      refine ⟨rfl, .ref q, rfl, q, _, _, .int (sa' : Nat), rfl, rfl, SqT.of gq, atI_nat (j := 0) rfl, .ref ga, rfl, ga, _, rfl, .inl (SqL.of ggG), rfl, flat_ints _, _, rfl, ?_⟩
      rw [if_neg Bool.false_ne_true, in_ints]
      by_cases c : (sa' : Int) ∈ val W t (fun _ => [])
      · rw [decide_eq_true c]
        refine iteT ⟨.ref q, rfl, q, _, _, .int (sb' : Nat), rfl, rfl, SqT.of gq, atI_nat (j := 1) rfl, .ref ga, rfl, ga, _, rfl, .inl (SqL.of ggG), rfl, flat_ints _, _, rfl, ?_⟩
        rw [if_pos rfl, in_ints, decide_eq_true (pos_keep hin g pf bb c)]
        exact iteF ⟨sG, gD⟩
      · rw [decide_eq_false c]
        exact iteF (iteF ⟨sG, gD⟩)
    · rintro G ⟨sG, gD⟩
      refine ⟨Dl, _, rfl, .inl (SqL.of gD), rfl, ?_⟩
      exact k _
end
end Fw

set_option maxRecDepth 100000
set_option maxHeartbeats 4000000
namespace Fw
open PySem PySem.Spec PyProof.Rows L2
theorem exm_own {K : PySem.W.Frag} {S : Addr} (h1 : PySem.W.subIn K (.ref S) (.type "BaseException") = some true) (h2 : PySem.W.hasDictIn K S = true) (h3 : PySem.W.typeIn K (.ref S) = some (.type "type")) (h4 : PySem.W.subIn K (.ref S) (.ref S) = some true) :
    PySem.W.exmOne K (.ref S) (.ref S) = some true := PySem.W.exm_ref h1 h2 h3 h4
/-- what is known of the law where the worlds are tried -/
def Top19 (P : Program) (w : World) (K : PySem.W.Frag) (mg : Str → Option Value) (fa : Addr) : Prop :=
  ∃ (fd : FuncData) (cA tA : Addr), PySem.W.tabIn K "ascends" = some (cA, tA) ∧ K.lookup tA = none ∧ (∀ (s : Shared) (u : Value), BindsTo s fd ⟨[u], []⟩ [("script", u)]) ∧
    ∀ base : Heap, K.In base → base.Ns mainGlobals mg → GxR.TabB base mg cA tA → FnOk P w K mg base CX0 24 fa fd ["script"] (spLaw K tA)
theorem pairK {K : PySem.W.Frag} {J : Addr} {d : Option Addr} {n : Nat} {sl : Array (Option Value)} {t1 t2 : Tok} {x y : Str} (l : K.lookup J = some ⟨.type "tuple", d, .seq #[.str x t1, .str y t2] n, sl⟩) (H : Hp) : SqT K H J [.str x, .str y] :=
  .inr ⟨_, #[.str x t1, .str y t2], n, l, rfl, rfl, by show 2 ≤ sizeLine; decide, .cons ⟨t1, rfl⟩ (.cons ⟨t2, rfl⟩ .nil)⟩
theorem all_mk {P : Program} {w : World} {K : PySem.W.Frag} {h : Heap} {mg : Str → Option Value} {c_ascends t_ascends : Addr}
    {NC : Addr}
    {C_World : Addr}
    {C_Doers : Addr}
    {fa f0 f1 f2 f3 f4 f5 f6 f7 f8 f9 f10 f11 f12 f13 f14 f15 f16 f17 f18 f19 f20 f21 f22 f23 f24 f25 f26 f27 f28 f29 f30 f31 f32 : Addr}
    {od0 an0 od1 an1 od2 an2 od3 an3 od4 an4 od5 an5 od6 an6 od7 an7 od8 an8 od9 an9 od10 an10 od11 an11 od12 an12 od13 an13 od14 an14 od15 an15 od16 an16 od17 an17 od18 an18 od19 an19 od20 an20 od21 an21 od22 an22 od23 an23 od24 an24 od25 an25 od26 an26 od27 an27 od28 an28 od29 an29 od30 an30 od31 an31 od32 an32 : Option Addr} {sl0 sl1 sl2 sl3 sl4 sl5 sl6 sl7 sl8 sl9 sl10 sl11 sl12 sl13 sl14 sl15 sl16 sl17 sl18 sl19 sl20 sl21 sl22 sl23 sl24 sl25 sl26 sl27 sl28 sl29 sl30 sl31 sl32 : Array (Option Value)} {oc0 kV0 dc0 pm0 cd0 ct0 oc1 kV1 dc1 pm1 cd1 ct1 oc2 kV2 dc2 pm2 cd2 ct2 oc3 kV3 dc3 pm3 cd3 ct3 oc4 kV4 dc4 pm4 cd4 ct4 oc5 kV5 dc5 pm5 cd5 ct5 oc6 kV6 dc6 pm6 cd6 ct6 oc7 kV7 dc7 pm7 cd7 ct7 oc8 kV8 dc8 pm8 cd8 ct8 oc9 kV9 dc9 pm9 cd9 ct9 oc10 kV10 dc10 pm10 cd10 ct10 oc11 kV11 dc11 pm11 cd11 ct11 oc12 kV12 dc12 pm12 cd12 ct12 oc13 kV13 dc13 pm13 cd13 ct13 oc14 kV14 dc14 pm14 cd14 ct14 oc15 kV15 dc15 pm15 cd15 ct15 oc16 kV16 dc16 pm16 cd16 ct16 oc17 kV17 dc17 pm17 cd17 ct17 oc18 kV18 dc18 pm18 cd18 ct18 oc19 kV19 dc19 pm19 cd19 ct19 oc20 kV20 dc20 pm20 cd20 ct20 oc21 kV21 dc21 pm21 cd21 ct21 oc22 kV22 dc22 pm22 cd22 ct22 oc23 kV23 dc23 pm23 cd23 ct23 oc24 kV24 dc24 pm24 cd24 ct24 oc25 kV25 dc25 pm25 cd25 ct25 oc26 kV26 dc26 pm26 cd26 ct26 oc27 kV27 dc27 pm27 cd27 ct27 oc28 kV28 dc28 pm28 cd28 ct28 oc29 kV29 dc29 pm29 cd29 ct29 oc30 kV30 dc30 pm30 cd30 ct30 oc31 kV31 dc31 pm31 cd31 ct31 oc32 kV32 dc32 pm32 cd32 ct32 : Value}
    {t_MOST_LABELS : Tok}
    {t_MOST_FACTS : Tok}
    {t_MOST_STATES : Tok}
    {cc_ascends : Value} {cd_ascends : Option Addr} {cv_ascends : Array Value} {cn_ascends : Array (Option Value)}
    (X : K.In h) (G : h.Ns mainGlobals mg) (hfa : mg "law" = some (.ref fa))
    (aC_Doers : PySem.W.nsIn K mainGlobals "Doers" = some (some (.ref C_Doers)))
    (aC_World : PySem.W.nsIn K mainGlobals "World" = some (some (.ref C_World)))
    (a0 : PySem.W.nsIn K mainGlobals "components" = some (some (.ref f0)))
    (l0 : K.lookup f0 = some ⟨oc0, od0, .func (PySem.W.fnOf "components" "components" (defArgs s_components) (defBody s_components) (defScope s_components) .none kV0 dc0 pm0 an0 cd0 ct0), sl0⟩)
    (c0 : PySem.W.codeIn K cd0 "components" = true)
    (k0 : PySem.W.keepIn K (.ref f0) = true)
    (a1 : PySem.W.nsIn K mainGlobals "finished" = some (some (.ref f1)))
    (l1 : K.lookup f1 = some ⟨oc1, od1, .func (PySem.W.fnOf "finished" "finished" (defArgs s_finished) (defBody s_finished) (defScope s_finished) .none kV1 dc1 pm1 an1 cd1 ct1), sl1⟩)
    (c1 : PySem.W.codeIn K cd1 "finished" = true)
    (k1 : PySem.W.keepIn K (.ref f1) = true)
    (a2 : PySem.W.nsIn K mainGlobals "turned" = some (some (.ref f2)))
    (l2 : K.lookup f2 = some ⟨oc2, od2, .func (PySem.W.fnOf "turned" "turned" (defArgs s_turned) (defBody s_turned) (defScope s_turned) .none kV2 dc2 pm2 an2 cd2 ct2), sl2⟩)
    (c2 : PySem.W.codeIn K cd2 "turned" = true)
    (k2 : PySem.W.keepIn K (.ref f2) = true)
    (a3 : PySem.W.nsIn K mainGlobals "flood" = some (some (.ref f3)))
    (l3 : K.lookup f3 = some ⟨oc3, od3, .func (PySem.W.fnOf "flood" "flood" (defArgs s_flood) (defBody s_flood) (defScope s_flood) .none kV3 dc3 pm3 an3 cd3 ct3), sl3⟩)
    (c3 : PySem.W.codeIn K cd3 "flood" = true)
    (k3 : PySem.W.keepIn K (.ref f3) = true)
    (a4 : PySem.W.nsIn K mainGlobals "states_in" = some (some (.ref f4)))
    (l4 : K.lookup f4 = some ⟨oc4, od4, .func (PySem.W.fnOf "states_in" "states_in" (defArgs s_states_in) (defBody s_states_in) (defScope s_states_in) .none kV4 dc4 pm4 an4 cd4 ct4), sl4⟩)
    (c4 : PySem.W.codeIn K cd4 "states_in" = true)
    (k4 : PySem.W.keepIn K (.ref f4) = true)
    (a5 : PySem.W.nsIn K mainGlobals "mask_of" = some (some (.ref f5)))
    (l5 : K.lookup f5 = some ⟨oc5, od5, .func (PySem.W.fnOf "mask_of" "mask_of" (defArgs s_mask_of) (defBody s_mask_of) (defScope s_mask_of) .none kV5 dc5 pm5 an5 cd5 ct5), sl5⟩)
    (c5 : PySem.W.codeIn K cd5 "mask_of" = true)
    (k5 : PySem.W.keepIn K (.ref f5) = true)
    (a6 : PySem.W.nsIn K mainGlobals "led" = some (some (.ref f6)))
    (l6 : K.lookup f6 = some ⟨oc6, od6, .func (PySem.W.fnOf "led" "led" (defArgs s_led) (defBody s_led) (defScope s_led) .none kV6 dc6 pm6 an6 cd6 ct6), sl6⟩)
    (c6 : PySem.W.codeIn K cd6 "led" = true)
    (k6 : PySem.W.keepIn K (.ref f6) = true)
    (a7 : PySem.W.nsIn K mainGlobals "step_masks" = some (some (.ref f7)))
    (l7 : K.lookup f7 = some ⟨oc7, od7, .func (PySem.W.fnOf "step_masks" "step_masks" (defArgs s_step_masks) (defBody s_step_masks) (defScope s_step_masks) .none kV7 dc7 pm7 an7 cd7 ct7), sl7⟩)
    (c7 : PySem.W.codeIn K cd7 "step_masks" = true)
    (k7 : PySem.W.keepIn K (.ref f7) = true)
    (a8 : PySem.W.nsIn K mainGlobals "like_at_once" = some (some (.ref f8)))
    (l8 : K.lookup f8 = some ⟨oc8, od8, .func (PySem.W.fnOf "like_at_once" "like_at_once" (defArgs s_like_at_once) (defBody s_like_at_once) (defScope s_like_at_once) .none kV8 dc8 pm8 an8 cd8 ct8), sl8⟩)
    (c8 : PySem.W.codeIn K cd8 "like_at_once" = true)
    (k8 : PySem.W.keepIn K (.ref f8) = true)
    (a9 : PySem.W.nsIn K mainGlobals "doers_of" = some (some (.ref f9)))
    (l9 : K.lookup f9 = some ⟨oc9, od9, .func (PySem.W.fnOf "doers_of" "doers_of" (defArgs s_doers_of) (defBody s_doers_of) (defScope s_doers_of) .none kV9 dc9 pm9 an9 cd9 ct9), sl9⟩)
    (c9 : PySem.W.codeIn K cd9 "doers_of" = true)
    (k9 : PySem.W.keepIn K (.ref f9) = true)
    (a10 : PySem.W.findIn K (.ref C_Doers) "__init__" = some (some (.ref f10)))
    (i10 : PySem.W.isFn K (.ref f10) = true)
    (l10 : K.lookup f10 = some ⟨oc10, od10, .func (PySem.W.fnOf "__init__" "Doers.__init__" (defArgs s_Doers_init) (defBody s_Doers_init) (defScope s_Doers_init) .none kV10 dc10 pm10 an10 cd10 ct10), sl10⟩)
    (c10 : PySem.W.codeIn K cd10 "Doers.__init__" = true)
    (k10 : PySem.W.keepIn K (.ref f10) = true)
    (a11 : PySem.W.findIn K (.ref C_Doers) "_take_out" = some (some (.ref f11)))
    (i11 : PySem.W.isFn K (.ref f11) = true)
    (l11 : K.lookup f11 = some ⟨oc11, od11, .func (PySem.W.fnOf "_take_out" "Doers._take_out" (defArgs s_Doers__take_out) (defBody s_Doers__take_out) (defScope s_Doers__take_out) .none kV11 dc11 pm11 an11 cd11 ct11), sl11⟩)
    (c11 : PySem.W.codeIn K cd11 "Doers._take_out" = true)
    (k11 : PySem.W.keepIn K (.ref f11) = true)
    (a12 : PySem.W.findIn K (.ref C_Doers) "_lose" = some (some (.ref f12)))
    (i12 : PySem.W.isFn K (.ref f12) = true)
    (l12 : K.lookup f12 = some ⟨oc12, od12, .func (PySem.W.fnOf "_lose" "Doers._lose" (defArgs s_Doers__lose) (defBody s_Doers__lose) (defScope s_Doers__lose) .none kV12 dc12 pm12 an12 cd12 ct12), sl12⟩)
    (c12 : PySem.W.codeIn K cd12 "Doers._lose" = true)
    (k12 : PySem.W.keepIn K (.ref f12) = true)
    (a13 : PySem.W.nsIn K mainGlobals "ends_first" = some (some (.ref f13)))
    (l13 : K.lookup f13 = some ⟨oc13, od13, .func (PySem.W.fnOf "ends_first" "ends_first" (defArgs s_ends_first) (defBody s_ends_first) (defScope s_ends_first) .none kV13 dc13 pm13 an13 cd13 ct13), sl13⟩)
    (c13 : PySem.W.codeIn K cd13 "ends_first" = true)
    (k13 : PySem.W.keepIn K (.ref f13) = true)
    (a14 : PySem.W.nsIn K mainGlobals "is_number" = some (some (.ref f14)))
    (l14 : K.lookup f14 = some ⟨oc14, od14, .func (PySem.W.fnOf "is_number" "is_number" (defArgs s_is_number) (defBody s_is_number) (defScope s_is_number) .none kV14 dc14 pm14 an14 cd14 ct14), sl14⟩)
    (c14 : PySem.W.codeIn K cd14 "is_number" = true)
    (k14 : PySem.W.keepIn K (.ref f14) = true)
    (a15 : PySem.W.nsIn K mainGlobals "ascends" = some (some (.ref f15)))
    (l15 : K.lookup f15 = some ⟨oc15, od15, .func (PySem.W.fnOf "ascends" "ascends" (defArgs s_ascends) (defBody s_ascends) (defScope s_ascends) .none kV15 dc15 pm15 an15 cd15 ct15), sl15⟩)
    (c15 : PySem.W.codeIn K cd15 "ascends" = true)
    (k15 : PySem.W.keepIn K (.ref f15) = true)
    (a16 : PySem.W.findIn K (.ref C_World) "__init__" = some (some (.ref f16)))
    (i16 : PySem.W.isFn K (.ref f16) = true)
    (l16 : K.lookup f16 = some ⟨oc16, od16, .func (PySem.W.fnOf "__init__" "World.__init__" (defArgs s_World_init) (defBody s_World_init) (defScope s_World_init) .none kV16 dc16 pm16 an16 cd16 ct16), sl16⟩)
    (c16 : PySem.W.codeIn K cd16 "World.__init__" = true)
    (k16 : PySem.W.keepIn K (.ref f16) = true)
    (a17 : PySem.W.nsIn K mainGlobals "check_numbers" = some (some (.ref f17)))
    (l17 : K.lookup f17 = some ⟨oc17, od17, .func (PySem.W.fnOf "check_numbers" "check_numbers" (defArgs s_check_numbers) (defBody s_check_numbers) (defScope s_check_numbers) .none kV17 dc17 pm17 an17 cd17 ct17), sl17⟩)
    (c17 : PySem.W.codeIn K cd17 "check_numbers" = true)
    (k17 : PySem.W.keepIn K (.ref f17) = true)
    (a18 : PySem.W.nsIn K mainGlobals "check_states" = some (some (.ref f18)))
    (l18 : K.lookup f18 = some ⟨oc18, od18, .func (PySem.W.fnOf "check_states" "check_states" (defArgs s_check_states) (defBody s_check_states) (defScope s_check_states) .none kV18 dc18 pm18 an18 cd18 ct18), sl18⟩)
    (c18 : PySem.W.codeIn K cd18 "check_states" = true)
    (k18 : PySem.W.keepIn K (.ref f18) = true)
    (a19 : PySem.W.nsIn K mainGlobals "check_steps" = some (some (.ref f19)))
    (l19 : K.lookup f19 = some ⟨oc19, od19, .func (PySem.W.fnOf "check_steps" "check_steps" (defArgs s_check_steps) (defBody s_check_steps) (defScope s_check_steps) .none kV19 dc19 pm19 an19 cd19 ct19), sl19⟩)
    (c19 : PySem.W.codeIn K cd19 "check_steps" = true)
    (k19 : PySem.W.keepIn K (.ref f19) = true)
    (a20 : PySem.W.nsIn K mainGlobals "ends_of" = some (some (.ref f20)))
    (l20 : K.lookup f20 = some ⟨oc20, od20, .func (PySem.W.fnOf "ends_of" "ends_of" (defArgs s_ends_of) (defBody s_ends_of) (defScope s_ends_of) .none kV20 dc20 pm20 an20 cd20 ct20), sl20⟩)
    (c20 : PySem.W.codeIn K cd20 "ends_of" = true)
    (k20 : PySem.W.keepIn K (.ref f20) = true)
    (a21 : PySem.W.nsIn K mainGlobals "can_do" = some (some (.ref f21)))
    (l21 : K.lookup f21 = some ⟨oc21, od21, .func (PySem.W.fnOf "can_do" "can_do" (defArgs s_can_do) (defBody s_can_do) (defScope s_can_do) .none kV21 dc21 pm21 an21 cd21 ct21), sl21⟩)
    (c21 : PySem.W.codeIn K cd21 "can_do" = true)
    (k21 : PySem.W.keepIn K (.ref f21) = true)
    (a22 : PySem.W.nsIn K mainGlobals "_law_draws" = some (some (.ref f22)))
    (l22 : K.lookup f22 = some ⟨oc22, od22, .func (PySem.W.fnOf "_law_draws" "_law_draws" (defArgs s_law_draws) (defBody s_law_draws) (defScope s_law_draws) .none kV22 dc22 pm22 an22 cd22 ct22), sl22⟩)
    (c22 : PySem.W.codeIn K cd22 "_law_draws" = true)
    (k22 : PySem.W.keepIn K (.ref f22) = true)
    (a23 : PySem.W.nsIn K mainGlobals "_law_take" = some (some (.ref f23)))
    (l23 : K.lookup f23 = some ⟨oc23, od23, .func (PySem.W.fnOf "_law_take" "_law_take" (defArgs s_law_take) (defBody s_law_take) (defScope s_law_take) .none kV23 dc23 pm23 an23 cd23 ct23), sl23⟩)
    (c23 : PySem.W.codeIn K cd23 "_law_take" = true)
    (k23 : PySem.W.keepIn K (.ref f23) = true)
    (a24 : PySem.W.nsIn K mainGlobals "_law_world" = some (some (.ref f24)))
    (l24 : K.lookup f24 = some ⟨oc24, od24, .func (PySem.W.fnOf "_law_world" "_law_world" (defArgs s_law_world) (defBody s_law_world) (defScope s_law_world) .none kV24 dc24 pm24 an24 cd24 ct24), sl24⟩)
    (c24 : PySem.W.codeIn K cd24 "_law_world" = true)
    (k24 : PySem.W.keepIn K (.ref f24) = true)
    (a25 : PySem.W.nsIn K mainGlobals "_law_made" = some (some (.ref f25)))
    (l25 : K.lookup f25 = some ⟨oc25, od25, .func (PySem.W.fnOf "_law_made" "_law_made" (defArgs s_law_made) (defBody s_law_made) (defScope s_law_made) .none kV25 dc25 pm25 an25 cd25 ct25), sl25⟩)
    (c25 : PySem.W.codeIn K cd25 "_law_made" = true)
    (k25 : PySem.W.keepIn K (.ref f25) = true)
    (a26 : PySem.W.nsIn K mainGlobals "_law_behind" = some (some (.ref f26)))
    (l26 : K.lookup f26 = some ⟨oc26, od26, .func (PySem.W.fnOf "_law_behind" "_law_behind" (defArgs s_law_behind) (defBody s_law_behind) (defScope s_law_behind) .none kV26 dc26 pm26 an26 cd26 ct26), sl26⟩)
    (c26 : PySem.W.codeIn K cd26 "_law_behind" = true)
    (k26 : PySem.W.keepIn K (.ref f26) = true)
    (a27 : PySem.W.nsIn K mainGlobals "_law_value" = some (some (.ref f27)))
    (l27 : K.lookup f27 = some ⟨oc27, od27, .func (PySem.W.fnOf "_law_value" "_law_value" (defArgs s_law_value) (defBody s_law_value) (defScope s_law_value) .none kV27 dc27 pm27 an27 cd27 ct27), sl27⟩)
    (c27 : PySem.W.codeIn K cd27 "_law_value" = true)
    (k27 : PySem.W.keepIn K (.ref f27) = true)
    (a28 : PySem.W.nsIn K mainGlobals "_law_truth" = some (some (.ref f28)))
    (l28 : K.lookup f28 = some ⟨oc28, od28, .func (PySem.W.fnOf "_law_truth" "_law_truth" (defArgs s_law_truth) (defBody s_law_truth) (defScope s_law_truth) .none kV28 dc28 pm28 an28 cd28 ct28), sl28⟩)
    (c28 : PySem.W.codeIn K cd28 "_law_truth" = true)
    (k28 : PySem.W.keepIn K (.ref f28) = true)
    (a29 : PySem.W.nsIn K mainGlobals "_law_is_list" = some (some (.ref f29)))
    (l29 : K.lookup f29 = some ⟨oc29, od29, .func (PySem.W.fnOf "_law_is_list" "_law_is_list" (defArgs s_law_is_list) (defBody s_law_is_list) (defScope s_law_is_list) .none kV29 dc29 pm29 an29 cd29 ct29), sl29⟩)
    (c29 : PySem.W.codeIn K cd29 "_law_is_list" = true)
    (k29 : PySem.W.keepIn K (.ref f29) = true)
    (a30 : PySem.W.nsIn K mainGlobals "_law_some_statement" = some (some (.ref f30)))
    (l30 : K.lookup f30 = some ⟨oc30, od30, .func (PySem.W.fnOf "_law_some_statement" "_law_some_statement" (defArgs s_law_some_statement) (defBody s_law_some_statement) (defScope s_law_some_statement) .none kV30 dc30 pm30 an30 cd30 ct30), sl30⟩)
    (c30 : PySem.W.codeIn K cd30 "_law_some_statement" = true)
    (k30 : PySem.W.keepIn K (.ref f30) = true)
    (a31 : PySem.W.nsIn K mainGlobals "_law_follows" = some (some (.ref f31)))
    (l31 : K.lookup f31 = some ⟨oc31, od31, .func (PySem.W.fnOf "_law_follows" "_law_follows" (defArgs s_law_follows) (defBody s_law_follows) (defScope s_law_follows) .none kV31 dc31 pm31 an31 cd31 ct31), sl31⟩)
    (c31 : PySem.W.codeIn K cd31 "_law_follows" = true)
    (k31 : PySem.W.keepIn K (.ref f31) = true)
    (a32 : PySem.W.nsIn K mainGlobals "law" = some (some (.ref f32)))
    (l32 : K.lookup f32 = some ⟨oc32, od32, .func (PySem.W.fnOf "law" "law" (defArgs s_law) (defBody s_law) (defScope s_law) .none kV32 dc32 pm32 an32 cd32 ct32), sl32⟩)
    (c32 : PySem.W.codeIn K cd32 "law" = true)
    (k32 : PySem.W.keepIn K (.ref f32) = true)
    (pg_Doers : PySem.W.plainGet K C_Doers Str.empty = true)
    (hd_Doers : PySem.W.hasDictIn K C_Doers = true)
    (po_Doers : PySem.W.plainOver K C_Doers = true)
    (sa_Doers : PySem.W.findIn K (.ref C_Doers) "__setattr__" = some (some (.builtin "object.__setattr__")))
    (mk_Doers : PySem.W.makesIn K C_Doers = true)
    (kc_Doers : PySem.W.keepIn K (.ref C_Doers) = true)
    (n_Doers_doers : PySem.W.findIn K (.ref C_Doers) "doers" = some none)
    (n_Doers__mutual : PySem.W.findIn K (.ref C_Doers) "_mutual" = some none)
    (n_Doers__lost : PySem.W.findIn K (.ref C_Doers) "_lost" = some none)
    (n_Doers__waiting : PySem.W.findIn K (.ref C_Doers) "_waiting" = some none)
    (pg_World : PySem.W.plainGet K C_World Str.empty = true)
    (hd_World : PySem.W.hasDictIn K C_World = true)
    (po_World : PySem.W.plainOver K C_World = true)
    (sa_World : PySem.W.findIn K (.ref C_World) "__setattr__" = some (some (.builtin "object.__setattr__")))
    (mk_World : PySem.W.makesIn K C_World = true)
    (kc_World : PySem.W.keepIn K (.ref C_World) = true)
    (n_World_labels : PySem.W.findIn K (.ref C_World) "labels" = some none)
    (n_World_facts : PySem.W.findIn K (.ref C_World) "facts" = some none)
    (n_World_states : PySem.W.findIn K (.ref C_World) "states" = some none)
    (n_World_steps : PySem.W.findIn K (.ref C_World) "steps" = some none)
    (n_World__ends : PySem.W.findIn K (.ref C_World) "_ends" = some none)
    (z_all : PySem.W.nsIn K mainGlobals "all" = some none)
    (z_bool : PySem.W.nsIn K mainGlobals "bool" = some none)
    (z_enumerate : PySem.W.nsIn K mainGlobals "enumerate" = some none)
    (z_int : PySem.W.nsIn K mainGlobals "int" = some none)
    (z_isinstance : PySem.W.nsIn K mainGlobals "isinstance" = some none)
    (z_len : PySem.W.nsIn K mainGlobals "len" = some none)
    (z_list : PySem.W.nsIn K mainGlobals "list" = some none)
    (z_range : PySem.W.nsIn K mainGlobals "range" = some none)
    (z_reversed : PySem.W.nsIn K mainGlobals "reversed" = some none)
    (z_sorted : PySem.W.nsIn K mainGlobals "sorted" = some none)
    (z_tuple : PySem.W.nsIn K mainGlobals "tuple" = some none)
    (z_zip : PySem.W.nsIn K mainGlobals "zip" = some none)
    (aI_MOST_LABELS : PySem.W.nsIn K mainGlobals "MOST_LABELS" = some (some (.int 3 t_MOST_LABELS)))
    (aI_MOST_FACTS : PySem.W.nsIn K mainGlobals "MOST_FACTS" = some (some (.int 6 t_MOST_FACTS)))
    (aI_MOST_STATES : PySem.W.nsIn K mainGlobals "MOST_STATES" = some (some (.int 400 t_MOST_STATES)))
    (e_gC : PySem.W.nsIn K mainGlobals "InvalidWorld" = some (some (.ref NC)))
    (e_xC : PySem.W.excIn K NC [.type "ValueError", .type "Exception", .type "BaseException", .type "object"] "ValueError.__new__" = true)
    (e_kC : PySem.W.keepIn K (.ref NC) = true)
    (e_bC : PySem.W.subIn K (.ref NC) (.type "BaseException") = some true)
    (e_tC : PySem.W.typeIn K (.ref NC) = some (.type "type"))
    (e_sC : PySem.W.subIn K (.ref NC) (.ref NC) = some true)
    (e_xd : PySem.W.hasDictIn K NC = true)
    (hc_ascends : cd15 = .ref c_ascends)
    (lc_ascends : K.lookup c_ascends = some ⟨cc_ascends, cd_ascends, .fields cv_ascends, cn_ascends⟩)
    (pT_ascends : (cv_ascends[11]? : Option Value) = some (.ref t_ascends))
    (nT_ascends : K.lookup t_ascends = none) :
    Top19 P w K mg fa := by
  have e := hfa.symm.trans (PySem.W.mg_of X G a32)
  cases e
  have F_components := fun_mk (st := s_components) l0 c0 k0
  have b_components := F_components.binds (ps := a_components) fun _ _ _ _ _ _ us hl => match us, hl with | [_], _ => rfl
  have m_components := PySem.W.mg_of X G a0
  have F_finished := fun_mk (st := s_finished) l1 c1 k1
  have b_finished := F_finished.binds (ps := a_finished) fun _ _ _ _ _ _ us hl => match us, hl with | [_], _ => rfl
  have m_finished := PySem.W.mg_of X G a1
  have F_turned := fun_mk (st := s_turned) l2 c2 k2
  have b_turned := F_turned.binds (ps := a_turned) fun _ _ _ _ _ _ us hl => match us, hl with | [_], _ => rfl
  have m_turned := PySem.W.mg_of X G a2
  have F_flood := fun_mk (st := s_flood) l3 c3 k3
  have b_flood := F_flood.binds (ps := a_flood) fun _ _ _ _ _ _ us hl => match us, hl with | [_, _, _], _ => rfl
  have m_flood := PySem.W.mg_of X G a3
  have F_states_in := fun_mk (st := s_states_in) l4 c4 k4
  have b_states_in := F_states_in.binds (ps := a_states_in) fun _ _ _ _ _ _ us hl => match us, hl with | [_], _ => rfl
  have m_states_in := PySem.W.mg_of X G a4
  have F_mask_of := fun_mk (st := s_mask_of) l5 c5 k5
  have b_mask_of := F_mask_of.binds (ps := a_mask_of) fun _ _ _ _ _ _ us hl => match us, hl with | [_], _ => rfl
  have m_mask_of := PySem.W.mg_of X G a5
  have F_led := fun_mk (st := s_led) l6 c6 k6
  have b_led := F_led.binds (ps := a_led) fun _ _ _ _ _ _ us hl => match us, hl with | [_, _], _ => rfl
  have m_led := PySem.W.mg_of X G a6
  have F_step_masks := fun_mk (st := s_step_masks) l7 c7 k7
  have b_step_masks := F_step_masks.binds (ps := a_step_masks) fun _ _ _ _ _ _ us hl => match us, hl with | [_, _, _], _ => rfl
  have m_step_masks := PySem.W.mg_of X G a7
  have F_like_at_once := fun_mk (st := s_like_at_once) l8 c8 k8
  have b_like_at_once := F_like_at_once.binds (ps := a_like_at_once) fun _ _ _ _ _ _ us hl => match us, hl with | [_], _ => rfl
  have m_like_at_once := PySem.W.mg_of X G a8
  have F_doers_of := fun_mk (st := s_doers_of) l9 c9 k9
  have b_doers_of := F_doers_of.binds (ps := a_doers_of) fun _ _ _ _ _ _ us hl => match us, hl with | [_], _ => rfl
  have m_doers_of := PySem.W.mg_of X G a9
  have F_Doers_init := fun_mk (st := s_Doers_init) l10 c10 k10
  have b_Doers_init := F_Doers_init.binds (ps := a_Doers_init) fun _ _ _ _ _ _ us hl => match us, hl with | [_, _, _, _, _], _ => rfl
  have F_Doers__take_out := fun_mk (st := s_Doers__take_out) l11 c11 k11
  have b_Doers__take_out := F_Doers__take_out.binds (ps := a_Doers__take_out) fun _ _ _ _ _ _ us hl => match us, hl with | [_, _, _, _, _], _ => rfl
  have F_Doers__lose := fun_mk (st := s_Doers__lose) l12 c12 k12
  have b_Doers__lose := F_Doers__lose.binds (ps := a_Doers__lose) fun _ _ _ _ _ _ us hl => match us, hl with | [_, _, _], _ => rfl
  have F_ends_first := fun_mk (st := s_ends_first) l13 c13 k13
  have b_ends_first := F_ends_first.binds (ps := a_ends_first) fun _ _ _ _ _ _ us hl => match us, hl with | [_, _], _ => rfl
  have m_ends_first := PySem.W.mg_of X G a13
  have F_is_number := fun_mk (st := s_is_number) l14 c14 k14
  have b_is_number := F_is_number.binds (ps := a_is_number) fun _ _ _ _ _ _ us hl => match us, hl with | [_, _, _], _ => rfl
  have m_is_number := PySem.W.mg_of X G a14
  have F_ascends := fun_mk (st := s_ascends) l15 c15 k15
  have b_ascends := F_ascends.binds (ps := a_ascends) fun _ _ _ _ _ _ us hl => match us, hl with | [_], _ => rfl
  have m_ascends := PySem.W.mg_of X G a15
  have F_World_init := fun_mk (st := s_World_init) l16 c16 k16
  have b_World_init := F_World_init.binds (ps := a_World_init) fun _ _ _ _ _ _ us hl => match us, hl with | [_, _, _, _, _], _ => rfl
  have F_check_numbers := fun_mk (st := s_check_numbers) l17 c17 k17
  have b_check_numbers := F_check_numbers.binds (ps := a_check_numbers) fun _ _ _ _ _ _ us hl => match us, hl with | [_, _], _ => rfl
  have m_check_numbers := PySem.W.mg_of X G a17
  have F_check_states := fun_mk (st := s_check_states) l18 c18 k18
  have b_check_states := F_check_states.binds (ps := a_check_states) fun _ _ _ _ _ _ us hl => match us, hl with | [_], _ => rfl
  have m_check_states := PySem.W.mg_of X G a18
  have F_check_steps := fun_mk (st := s_check_steps) l19 c19 k19
  have b_check_steps := F_check_steps.binds (ps := a_check_steps) fun _ _ _ _ _ _ us hl => match us, hl with | [_], _ => rfl
  have m_check_steps := PySem.W.mg_of X G a19
  have F_ends_of := fun_mk (st := s_ends_of) l20 c20 k20
  have b_ends_of := F_ends_of.binds (ps := a_ends_of) fun _ _ _ _ _ _ us hl => match us, hl with | [_], _ => rfl
  have m_ends_of := PySem.W.mg_of X G a20
  have F_can_do := fun_mk (st := s_can_do) l21 c21 k21
  have b_can_do := F_can_do.binds (ps := a_can_do) fun _ _ _ _ _ _ us hl => match us, hl with | [_], _ => rfl
  have m_can_do := PySem.W.mg_of X G a21
  have F_law_draws := fun_mk (st := s_law_draws) l22 c22 k22
  have b_law_draws := F_law_draws.binds (ps := a_law_draws) fun _ _ _ _ _ _ us hl => match us, hl with | [_, _], _ => rfl
  have m_law_draws := PySem.W.mg_of X G a22
  have F_law_take := fun_mk (st := s_law_take) l23 c23 k23
  have b_law_take := F_law_take.binds (ps := a_law_take) fun _ _ _ _ _ _ us hl => match us, hl with | [_, _], _ => rfl
  have m_law_take := PySem.W.mg_of X G a23
  have F_law_world := fun_mk (st := s_law_world) l24 c24 k24
  have b_law_world := F_law_world.binds (ps := a_law_world) fun _ _ _ _ _ _ us hl => match us, hl with | [_, _, _], _ => rfl
  have m_law_world := PySem.W.mg_of X G a24
  have F_law_made := fun_mk (st := s_law_made) l25 c25 k25
  have b_law_made := F_law_made.binds (ps := a_law_made) fun _ _ _ _ _ _ us hl => match us, hl with | [_, _, _], _ => rfl
  have m_law_made := PySem.W.mg_of X G a25
  have F_law_behind := fun_mk (st := s_law_behind) l26 c26 k26
  have b_law_behind := F_law_behind.binds (ps := a_law_behind) fun _ _ _ _ _ _ us hl => match us, hl with | [_, _, _], _ => rfl
  have m_law_behind := PySem.W.mg_of X G a26
  have F_law_value := fun_mk (st := s_law_value) l27 c27 k27
  have b_law_value := F_law_value.binds (ps := a_law_value) fun _ _ _ _ _ _ us hl => match us, hl with | [_, _, _], _ => rfl
  have m_law_value := PySem.W.mg_of X G a27
  have F_law_truth := fun_mk (st := s_law_truth) l28 c28 k28
  have b_law_truth := F_law_truth.binds (ps := a_law_truth) fun _ _ _ _ _ _ us hl => match us, hl with | [_, _], _ => rfl
  have m_law_truth := PySem.W.mg_of X G a28
  have F_law_is_list := fun_mk (st := s_law_is_list) l29 c29 k29
  have b_law_is_list := F_law_is_list.binds (ps := a_law_is_list) fun _ _ _ _ _ _ us hl => match us, hl with | [_, _], _ => rfl
  have m_law_is_list := PySem.W.mg_of X G a29
  have F_law_some_statement := fun_mk (st := s_law_some_statement) l30 c30 k30
  have b_law_some_statement := F_law_some_statement.binds (ps := a_law_some_statement) fun _ _ _ _ _ _ us hl => match us, hl with | [_, _], _ => rfl
  have m_law_some_statement := PySem.W.mg_of X G a30
  have F_law_follows := fun_mk (st := s_law_follows) l31 c31 k31
  have b_law_follows := F_law_follows.binds (ps := a_law_follows) fun _ _ _ _ _ _ us hl => match us, hl with | [_, _, _, _], _ => rfl
  have m_law_follows := PySem.W.mg_of X G a31
  have F_law := fun_mk (st := s_law) l32 c32 k32
  have T : Txt K mg C_World C_World C_World := ⟨PySem.W.mg_none_of X G z_all, PySem.W.mg_none_of X G z_bool, PySem.W.mg_none_of X G z_enumerate, PySem.W.mg_none_of X G z_int, PySem.W.mg_none_of X G z_isinstance, PySem.W.mg_none_of X G z_len, PySem.W.mg_none_of X G z_list, PySem.W.mg_none_of X G z_range, PySem.W.mg_none_of X G z_reversed, PySem.W.mg_none_of X G z_sorted, PySem.W.mg_none_of X G z_tuple, PySem.W.mg_none_of X G z_zip⟩
  have TE : TxtEW K mg NC := ⟨PySem.W.mg_of X G e_gC, e_xC, e_kC, e_bC, e_tC, exm_own e_bC e_xd e_tC e_sC⟩
  have TC : TxtC K C_World := ⟨⟨pg_World, hd_World, po_World, sa_World⟩, n_World_labels, n_World_facts, n_World_states, n_World_steps, n_World__ends⟩
  have TD : TxtDo K C_Doers := ⟨⟨pg_Doers, hd_Doers, po_Doers, sa_Doers⟩, n_Doers_doers, n_Doers__mutual, n_Doers__lost, n_Doers__waiting⟩
  have TR : TxtL mg t_MOST_LABELS t_MOST_FACTS t_MOST_STATES := ⟨PySem.W.mg_of X G aI_MOST_LABELS, PySem.W.mg_of X G aI_MOST_FACTS, PySem.W.mg_of X G aI_MOST_STATES⟩
  subst hc_ascends
  have aT_ascends : PySem.W.tabIn K "ascends" = some (c_ascends, t_ascends) := by
    simp only [PySem.W.tabIn, a15, l15, PySem.W.fnOf, lc_ascends, pT_ascends]
  have FC : FunC K "ascends" "ascends" s_ascends f15 _ c_ascends := ⟨⟨_, _, _, _, _, _, _, _, rfl, l15, c15⟩⟩
  refine ⟨PySem.W.fnOf "law" "law" (defArgs s_law) (defBody s_law) (defScope s_law) .none kV32 dc32 pm32 an32 cd32 ct32, c_ascends, t_ascends, aT_ascends, nT_ascends, fun s u => .of_eq rfl, fun base _ _ TB => ?_⟩
  have h_num : Has P w K mg base "is_number" 1 a_is_number spNum := ⟨_, _, m_is_number, F_is_number.kp, b_is_number, ok_is_number F_is_number T⟩
  have h_asc : Has P w K mg base "ascends" 4 a_ascends (spAsc K t_ascends) := ⟨_, _, m_ascends, F_ascends.kp, b_ascends, ok_ascends FC T TB⟩
  have h_ckn : HasX P w K mg base "check_numbers" 2 a_check_numbers (spCkN NC) := ⟨_, _, m_check_numbers, F_check_numbers.kp, b_check_numbers, ok_check_numbers F_check_numbers T TE TR h_num⟩
  have h_cks : HasX P w K mg base "check_states" 5 a_check_states (spCkS K NC C_World t_ascends) := ⟨_, _, m_check_states, F_check_states.kp, b_check_states, ok_check_states F_check_states T TC TE TR h_num h_asc⟩
  have h_ckt : HasX P w K mg base "check_steps" 5 a_check_steps (spCkT K NC C_World t_ascends) := ⟨_, _, m_check_steps, F_check_steps.kp, b_check_steps, ok_check_steps F_check_steps T TC TE h_num h_asc⟩
  have h_ends : Has P w K mg base "ends_of" 1 a_ends_of (spEnds K) := ⟨_, _, m_ends_of, F_ends_of.kp, b_ends_of, ok_ends_of F_ends_of T⟩
  have h_World : HasCX P w K mg base "World" C_World 6 a_World_init (spWInit K NC C_World t_ascends) := ⟨_, _, PySem.W.mg_of X G aC_World, ⟨mk_World, a16, i16, kc_World⟩, b_World_init, ok_World_init F_World_init T TC h_ckn h_cks h_ckt h_ends⟩
  have h_mask : Has P w K mg base "mask_of" 1 a_mask_of spMask := ⟨_, _, m_mask_of, F_mask_of.kp, b_mask_of, ok_mask_of F_mask_of⟩
  have h_sti : Has P w K mg base "states_in" 1 a_states_in spSt := ⟨_, _, m_states_in, F_states_in.kp, b_states_in, ok_states_in F_states_in⟩
  have h_led : Has P w K mg base "led" 2 a_led spLed := ⟨_, _, m_led, F_led.kp, b_led, ok_led F_led h_sti⟩
  have h_stm : Has P w K mg base "step_masks" 1 a_step_masks (spSM K) := ⟨_, _, m_step_masks, F_step_masks.kp, b_step_masks, ok_step_masks F_step_masks⟩
  have h_like : Has P w K mg base "like_at_once" 1 a_like_at_once (spLike K) := ⟨_, _, m_like_at_once, F_like_at_once.kp, b_like_at_once, ok_like_at_once F_like_at_once T⟩
  have h_turn : Has P w K mg base "turned" 1 a_turned spTurn := ⟨_, _, m_turned, F_turned.kp, b_turned, ok_turned F_turned T⟩
  have h_fini : Has P w K mg base "finished" 1 a_finished spFin := ⟨_, _, m_finished, F_finished.kp, b_finished, ok_finished F_finished T⟩
  have h_floo : Has P w K mg base "flood" 1 a_flood spFlood := ⟨_, _, m_flood, F_flood.kp, b_flood, ok_flood F_flood T⟩
  have h_comp : Has P w K mg base "components" 2 a_components spCom := ⟨_, _, m_components, F_components.kp, b_components, ok_components F_components h_turn h_fini h_floo T⟩
  have h_endf : Has P w K mg base "ends_first" 3 a_ends_first (spEF K) := ⟨_, _, m_ends_first, F_ends_first.kp, b_ends_first, ok_ends_first F_ends_first h_comp T⟩
  have M_lo : Meth K C_Doers "_lose" f12 := ⟨a12, i12, k12⟩
  have M_ta : Meth K C_Doers "_take_out" f11 := ⟨a11, i11, k11⟩
  have g_lo := ok_lose (P := P) (w := w) (mg := mg) (base := base) F_Doers__lose TD
  have g_ta := ok_take_out (P := P) (w := w) (mg := mg) (base := base) F_Doers__take_out TD h_sti h_mask M_lo g_lo b_Doers__lose
  have h_Doers : HasC P w K mg base "Doers" C_Doers 4 a_Doers_init (spDo K C_Doers) := ⟨_, _, PySem.W.mg_of X G aC_Doers, ⟨mk_Doers, a10, i10, kc_Doers⟩, b_Doers_init, ok_Doers_init F_Doers_init T TD h_endf h_stm h_led M_ta g_ta b_Doers__take_out⟩
  have h_dof : Has P w K mg base "doers_of" 6 a_doers_of (spDf K C_World) := ⟨_, _, m_doers_of, F_doers_of.kp, b_doers_of, ok_doers_of F_doers_of T TC TD h_like h_sti h_Doers⟩
  have h_can : Has P w K mg base "can_do" 7 a_can_do (spCan K C_World) := ⟨_, _, m_can_do, F_can_do.kp, b_can_do, ok_can_do F_can_do T h_dof h_sti⟩
  have h_draws : Has P w K mg base "_law_draws" 1 a_law_draws (spDraws K) := ⟨_, _, m_law_draws, F_law_draws.kp, b_law_draws, ok_law_draws F_law_draws T⟩
  have h_take : Has P w K mg base "_law_take" 1 a_law_take spTake := ⟨_, _, m_law_take, F_law_take.kp, b_law_take, ok_law_take F_law_take T⟩
  have h_some := all_some (P := P) (w := w) (base := base) F_law_some_statement b_law_some_statement m_law_some_statement T h_take
  have h_world : Has P w K mg base "_law_world" 2 a_law_world spWorld := ⟨_, _, m_law_world, F_law_world.kp, b_law_world, ok_law_world F_law_world T h_take⟩
  have h_behind : Has P w K mg base "_law_behind" 1 a_law_behind (spBehind K) := ⟨_, _, m_law_behind, F_law_behind.kp, b_law_behind, ok_law_behind F_law_behind T⟩
  have h_value := all_value (P := P) (w := w) (base := base) F_law_value b_law_value m_law_value T h_behind 20
  have h_truth : Has P w K mg base "_law_truth" 23 a_law_truth (spTruth K) := ⟨_, _, m_law_truth, F_law_truth.kp, b_law_truth, ok_law_truth F_law_truth T h_value⟩
  have h_flw : Has P w K mg base "_law_follows" 2 a_law_follows (spFlw K) := ⟨_, _, m_law_follows, F_law_follows.kp, b_law_follows, ok_law_follows F_law_follows T h_behind⟩
  have h_isl : Has P w K mg base "_law_is_list" 1 a_law_is_list spIsP := ⟨_, _, m_law_is_list, F_law_is_list.kp, b_law_is_list, ok_law_is_list F_law_is_list T⟩
  have h_made : HasX P w K mg base "_law_made" 8 a_law_made (spMade K C_World t_ascends) := ⟨_, _, m_law_made, F_law_made.kp, b_law_made, ok_law_made F_law_made T h_World⟩
  exact ok_law F_law T h_draws h_take (h_some 4) h_world h_made h_truth h_flw h_isl h_can
theorem walk {l : PySem.W.OpenLaw} {q : Program} {loose : List Str} {XP : (Str → Option Value) → Heap → Prop} {YP : World → Heap → Prop} {d dA : DefRec} {K : Params → PySem.W.Frag} (hn : l.most = some 63) (hdf : d.params.defaults = [])
    (hY : ∀ (w : World) (h : Heap), YP w h → (K w.params).In h) (hA : (recsOf q).find? (fun e => e.name == ("ascends" : Str)) = some dA)
    (F : ∀ (w : World) (mg : Str → Option Value) (fa : Addr) (h : Heap), (K w.params).In h → h.Ns mainGlobals mg → mg d.name = some (.ref fa) → Top19 l.prog w (K w.params) mg fa) :
    PySem.W.WalkO q loose XP YP l.row.toRowW d [] (fun f vs => PySem.call f vs) := by
  refine Att.attach_callB hn hdf fun w s₀ s₁ mg mb fa o pm cd doc a vs ns G Y ho hd hcd hmg hobj hints hlen hbits hg => ?_
  have KX := hY w _ Y
  obtain ⟨fd, cA, tA, tA1, nT, hb, hF⟩ := F w mg fa _ KX G.T.g hmg
  obtain ⟨C, hT⟩ := PySem.W.tab_of G.T KX hA tA1
  refine LamX.law_callTs (cs := [(cA, tA)]) (k := 24) (sp := spLaw (K w.params) tA) (CX := CX0) KX G.T.g G.T.b G.T.builtins G.T.nolimit hg (fun p hp => ?_) (fun p hp => ?_) (fun p hp => ?_) G.T.bmain hobj hints (Nat.le_trans hlen (by decide)) ⟨rfl, by decide, by decide⟩ (fun base b1 b2 TB => ?_) hb (fun H hH hS => ?_) fun H e s' z => z
  · rw [List.mem_singleton.mp hp]; exact hT
  · rw [List.mem_singleton.mp hp]; exact nT
  · rw [List.mem_singleton.mp hp]; exact C
  · have tb := TB _ List.mem_cons_self
    exact hF base b1 b2 ⟨tb.code, tb.bm, tb.gP⟩
  · exact ⟨a, ns, rfl, hS, ⟨_, hH _ List.mem_cons_self, trivial⟩, hlen, fun _ => rfl⟩
end Fw

set_option maxRecDepth 100000
open PySem PySem.W PyProof.Rows
set_option maxHeartbeats 0 in
theorem PySem.Challenge.cw_fixworlds_k19_doing_all_holds : PySem.Challenge.rw_fixworlds_k19_doing_all.Holds := by
  w_on; o_law; k_head; (case hw => w_witness2)
  k_fill
  refine Fw.walk (l := PySem.Challenge.rw_fixworlds_k19_doing_all) rfl rfl (fun w h Y => PySem.W.kIn_of Y) rfl ?F
  case F =>
    intro w mg fa h KX G hmg
    refine' Fw.all_mk KX G hmg ?aC_Doers ?aC_World ?a0 ?l0 ?c0 ?k0 ?a1 ?l1 ?c1 ?k1 ?a2 ?l2 ?c2 ?k2 ?a3 ?l3 ?c3 ?k3 ?a4 ?l4 ?c4 ?k4 ?a5 ?l5 ?c5 ?k5 ?a6 ?l6 ?c6 ?k6 ?a7 ?l7 ?c7 ?k7 ?a8 ?l8 ?c8 ?k8 ?a9 ?l9 ?c9 ?k9 ?a10 ?i10 ?l10 ?c10 ?k10 ?a11 ?i11 ?l11 ?c11 ?k11 ?a12 ?i12 ?l12 ?c12 ?k12 ?a13 ?l13 ?c13 ?k13 ?a14 ?l14 ?c14 ?k14 ?a15 ?l15 ?c15 ?k15 ?a16 ?i16 ?l16 ?c16 ?k16 ?a17 ?l17 ?c17 ?k17 ?a18 ?l18 ?c18 ?k18 ?a19 ?l19 ?c19 ?k19 ?a20 ?l20 ?c20 ?k20 ?a21 ?l21 ?c21 ?k21 ?a22 ?l22 ?c22 ?k22 ?a23 ?l23 ?c23 ?k23 ?a24 ?l24 ?c24 ?k24 ?a25 ?l25 ?c25 ?k25 ?a26 ?l26 ?c26 ?k26 ?a27 ?l27 ?c27 ?k27 ?a28 ?l28 ?c28 ?k28 ?a29 ?l29 ?c29 ?k29 ?a30 ?l30 ?c30 ?k30 ?a31 ?l31 ?c31 ?k31 ?a32 ?l32 ?c32 ?k32 ?pg_Doers ?hd_Doers ?po_Doers ?sa_Doers ?mk_Doers ?kc_Doers ?n_Doers_doers ?n_Doers__mutual ?n_Doers__lost ?n_Doers__waiting ?pg_World ?hd_World ?po_World ?sa_World ?mk_World ?kc_World ?n_World_labels ?n_World_facts ?n_World_states ?n_World_steps ?n_World__ends ?z_all ?z_bool ?z_enumerate ?z_int ?z_isinstance ?z_len ?z_list ?z_range ?z_reversed ?z_sorted ?z_tuple ?z_zip ?aI_MOST_LABELS ?aI_MOST_FACTS ?aI_MOST_STATES ?e_gC ?e_xC ?e_kC ?e_bC ?e_tC ?e_sC ?e_xd ?hc_ascends ?lc_ascends ?pT_ascends ?nT_ascends
    (case aC_Doers => k_is)
    (case aC_World => k_is)
    (case a0 => k_is)
    (case l0 => k_is)
    (case c0 => k_is)
    (case k0 => k_is)
    (case a1 => k_is)
    (case l1 => k_is)
    (case c1 => k_is)
    (case k1 => k_is)
    (case a2 => k_is)
    (case l2 => k_is)
    (case c2 => k_is)
    (case k2 => k_is)
    (case a3 => k_is)
    (case l3 => k_is)
    (case c3 => k_is)
    (case k3 => k_is)
    (case a4 => k_is)
    (case l4 => k_is)
    (case c4 => k_is)
    (case k4 => k_is)
    (case a5 => k_is)
    (case l5 => k_is)
    (case c5 => k_is)
    (case k5 => k_is)
    (case a6 => k_is)
    (case l6 => k_is)
    (case c6 => k_is)
    (case k6 => k_is)
    (case a7 => k_is)
    (case l7 => k_is)
    (case c7 => k_is)
    (case k7 => k_is)
    (case a8 => k_is)
    (case l8 => k_is)
    (case c8 => k_is)
    (case k8 => k_is)
    (case a9 => k_is)
    (case l9 => k_is)
    (case c9 => k_is)
    (case k9 => k_is)
    (case a10 => k_is)
    (case i10 => k_is)
    (case l10 => k_is)
    (case c10 => k_is)
    (case k10 => k_is)
    (case a11 => k_is)
    (case i11 => k_is)
    (case l11 => k_is)
    (case c11 => k_is)
    (case k11 => k_is)
    (case a12 => k_is)
    (case i12 => k_is)
    (case l12 => k_is)
    (case c12 => k_is)
    (case k12 => k_is)
    (case a13 => k_is)
    (case l13 => k_is)
    (case c13 => k_is)
    (case k13 => k_is)
    (case a14 => k_is)
    (case l14 => k_is)
    (case c14 => k_is)
    (case k14 => k_is)
    (case a15 => k_is)
    (case l15 => k_is)
    (case c15 => k_is)
    (case k15 => k_is)
    (case a16 => k_is)
    (case i16 => k_is)
    (case l16 => k_is)
    (case c16 => k_is)
    (case k16 => k_is)
    (case a17 => k_is)
    (case l17 => k_is)
    (case c17 => k_is)
    (case k17 => k_is)
    (case a18 => k_is)
    (case l18 => k_is)
    (case c18 => k_is)
    (case k18 => k_is)
    (case a19 => k_is)
    (case l19 => k_is)
    (case c19 => k_is)
    (case k19 => k_is)
    (case a20 => k_is)
    (case l20 => k_is)
    (case c20 => k_is)
    (case k20 => k_is)
    (case a21 => k_is)
    (case l21 => k_is)
    (case c21 => k_is)
    (case k21 => k_is)
    (case a22 => k_is)
    (case l22 => k_is)
    (case c22 => k_is)
    (case k22 => k_is)
    (case a23 => k_is)
    (case l23 => k_is)
    (case c23 => k_is)
    (case k23 => k_is)
    (case a24 => k_is)
    (case l24 => k_is)
    (case c24 => k_is)
    (case k24 => k_is)
    (case a25 => k_is)
    (case l25 => k_is)
    (case c25 => k_is)
    (case k25 => k_is)
    (case a26 => k_is)
    (case l26 => k_is)
    (case c26 => k_is)
    (case k26 => k_is)
    (case a27 => k_is)
    (case l27 => k_is)
    (case c27 => k_is)
    (case k27 => k_is)
    (case a28 => k_is)
    (case l28 => k_is)
    (case c28 => k_is)
    (case k28 => k_is)
    (case a29 => k_is)
    (case l29 => k_is)
    (case c29 => k_is)
    (case k29 => k_is)
    (case a30 => k_is)
    (case l30 => k_is)
    (case c30 => k_is)
    (case k30 => k_is)
    (case a31 => k_is)
    (case l31 => k_is)
    (case c31 => k_is)
    (case k31 => k_is)
    (case a32 => k_is)
    (case l32 => k_is)
    (case c32 => k_is)
    (case k32 => k_is)
    (case pg_Doers => k_is)
    (case hd_Doers => k_is)
    (case po_Doers => k_is)
    (case sa_Doers => k_is)
    (case mk_Doers => k_is)
    (case kc_Doers => k_is)
    (case n_Doers_doers => k_is)
    (case n_Doers__mutual => k_is)
    (case n_Doers__lost => k_is)
    (case n_Doers__waiting => k_is)
    (case pg_World => k_is)
    (case hd_World => k_is)
    (case po_World => k_is)
    (case sa_World => k_is)
    (case mk_World => k_is)
    (case kc_World => k_is)
    (case n_World_labels => k_is)
    (case n_World_facts => k_is)
    (case n_World_states => k_is)
    (case n_World_steps => k_is)
    (case n_World__ends => k_is)
    (case z_all => k_is)
    (case z_bool => k_is)
    (case z_enumerate => k_is)
    (case z_int => k_is)
    (case z_isinstance => k_is)
    (case z_len => k_is)
    (case z_list => k_is)
    (case z_range => k_is)
    (case z_reversed => k_is)
    (case z_sorted => k_is)
    (case z_tuple => k_is)
    (case z_zip => k_is)
    (case aI_MOST_LABELS => k_is)
    (case aI_MOST_FACTS => k_is)
    (case aI_MOST_STATES => k_is)
    (case e_gC => k_is)
    (case e_xC => k_exc)
    (case e_kC => k_is)
    (case e_bC => k_is)
    (case e_tC => k_is)
    (case e_sC => first | rfl | k_is)
    (case e_xd => k_is)
    (case hc_ascends => rfl)
    (case lc_ascends => k_is)
    (case pT_ascends => rfl)
    (case nT_ascends => first | rfl | kernel_rfl | decide)

