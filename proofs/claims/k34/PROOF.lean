import PyProof.Rows.All
import PySem.Challenge.RW_topups_k34_whole_equal_parts
import HandS.ForMost
import HandS.AnyAll
import HandS.GenOver
import HandS.Gcd
import HandS.Wide
import HandS.IsInst
import HandS.More
import HandS.EndTab
import PyProof.TypeEq
import PyProof.ReprRoads
import PyProof.ReprLen
import HandS.Style
import PyProof.CallFns
import PyProof.Rows.RuleB_floordiv
import HandS.Zip
import HandS.Walk
import HandS.TupLen
import HandS.Dict
import HandS.OwnIter
import HandS.Iter
import KE.KDictZip
import HandS.Property
import PyProof.SumWalkG
import HandS.SetBool
import HandS.SetKeys
import HandS.Deep
import HandS.Exc
import HandS.ExcOwn
import HandS.WordsExc
import HandS.TryOnly
import PyProof.InstEq
import KE.KDictWalk
import HandS.DictTup
import HandS.CallLocal
import HandS.DictComp
import HandS.SetFor
import HandS.Strs
import KE.DataFind
import PyProof.ConsumeWalk
import HandS.SortRule
import KE.LtData
import PyProof.TupleIter
import HandS.Conv
import KE.KNestM
import KE.KTryMore
import KE.HD3
section
set_option Elab.async false
set_option linter.all false
set_option maxRecDepth 100000
set_option maxHeartbeats 4000000
/-! Generator expressions walked by all(..), with the element any expression of the layer; a code object's table is held as an open thing. -/
namespace Gx
open PySem PySem.Spec PyProof.Rows L2 GxR

/-- a code object's table, whatever it holds so far -/
def tabPhi (P : Addr) : Heap → Prop := fun h => ∃ ps : Array Value, h.get? P = some { cls := .none, data := .fields ps } ∧ TriplesOk ps.toList
def TabO (P : Addr) : HO := .ext (tabPhi P)
theorem tab_stay {P : Addr} : ∀ h1 h2 : Heap, tabPhi P h1 → (∀ o, h1.get? P = some o → h2.get? P = some o) → tabPhi P h2 := fun h1 h2 ⟨ps, e, t⟩ k => ⟨ps, k _ e, t⟩
theorem tab_ok {Pr : Program} {w : World} {H : Hp} {h : Heap} {P : Addr} (t : tabPhi P h) : ObjOk Pr w H h P (TabO P) := ⟨t, let ⟨ps, e, _⟩ := t; ⟨_, e⟩, tab_stay⟩

theorem inv_same {X : Cx} {pins : List (Addr × Obj)} {σ : L2.St} {H : Hp} {s s' : Shared} (I : Inv X pins σ H s) (h : s'.heap = s.heap) (o : s'.os = s.os) (b : AllBare s'.gens) : Inv X pins σ H s' :=
  ⟨I.ok, o.trans I.os, b, by rw [h]; exact I.base, by rw [h]; exact I.loc, by rw [h]; exact I.cell, I.free, I.freeC, by rw [h]; exact I.pin, by rw [h]; exact I.hok, I.len⟩
theorem bare_set {s : Shared} {g : Nat} {x : GenState} (h : AllBare s.gens) (hx : x.bare = true) : AllBare (s.setGen g x).gens :=
  AllBare.moved h (.inr ⟨GenOnly.setGen s g x, fun y hy => by
    have h1 : (s.gens.setIfInBounds g x)[g]? = some y := hy
    rw [Array.getElem?_setIfInBounds_self] at h1
    split at h1
    · cases h1; exact hx
    · cases h1⟩)
theorem setGen_at {s : Shared} {g : Nat} {x : GenState} (h : g < s.gens.size) : (s.setGen g x).gens[g]? = some x := by
  show (s.gens.setIfInBounds g x)[g]? = some x
  rw [Array.getElem?_setIfInBounds_self, if_pos h]

/-- the context of a generator expression's frame: made at s; fp: its iterator's objects -/
abbrev gcx (X : Cx) (s : Shared) (H : Hp) (N : List Str) (cenv : Env) (fp : List Addr) (A : Around) : Cx :=
  { X with A := A, N := N, s_0 := s, H_0 := H, env := cenv, outer := X.stack, stack := cenv :: X.stack, ex := fp, fn := fun _ => false, calm := true, pn := [], xe := fun _ _ => False }
/-- the expression's own scope: x its target; ns: the names that it captures, with their places in the def -/
structure GOk (N : List Str) (sc scope : Scope) (x : Str) (ns : List (Str × Nat)) : Prop where
  kind : scope.kind = .function
  co : scope.isCoroutine = false
  cell : ∀ y ∈ scope.names, y.2 ≠ .cell
  dot : scope.names.lookup (".0" : Str) = some NameKind.local
  loc : scope.names.lookup x = some .local
  free : ∀ y ∈ scope.names, y.2 = .free → sc.names.lookup y.1 = some .cell ∨ sc.names.lookup y.1 = some .free
  caps : ∀ p ∈ ns, N[p.2]? = some p.1 ∧ (p.1, NameKind.free) ∈ scope.names
  uniq : ∀ y ∈ scope.names, scope.names.lookup y.1 = some y.2
def capsOf (σ : L2.St) (ns : List (Str × Nat)) : L2.St := ns.map fun p => (σ[p.2]?).join

section
variable {X : Cx} {pins : List (Addr × Obj)} {σ : L2.St} {H : Hp} {s : Shared}
theorem clo_lookup {cells : List (Str × Addr)} {names : List (Str × NameKind)} {y : Str} {c : Addr} (h : (y, NameKind.free) ∈ names) (hc : cells.lookup y = some c) : (cloFrom cells names []).lookup y = some c := by
  obtain ⟨c', e⟩ := mem_lookup (cloFrom_has (cells := cells) (acc := []) h)
  rcases cloFrom_mem (PySem.mem_of_lookup e) with z | ⟨_, z⟩
  · cases z
  · rw [e, z, hc]; rfl
theorem clo_of {cells : List (Str × Addr)} {names : List (Str × NameKind)} {y : Str} {c : Addr} (hf : ∀ y ∈ names, y.2 = .free → ∃ c, cells.lookup y.1 = some c) (h : (cloFrom cells names []).lookup y = some c) : (y, NameKind.free) ∈ names ∧ cells.lookup y = some c := by
  rcases cloFrom_mem (PySem.mem_of_lookup h) with z | ⟨z1, z2⟩
  · cases z
  · obtain ⟨d, hd⟩ := hf _ z1 rfl
    refine ⟨z1, ?_⟩
    have hd' : cells.lookup y = some d := hd
    rw [hd'] at z2
    rw [hd', z2]; rfl
theorem inv_gen {s5 : Shared} {scope : Scope} {x : Str} {ns : List (Str × Nat)} {fp : List Addr} {P C a : Addr} {go : Obj} {code it : Value} {A : Around}
    (I : Inv X pins σ H s) (S : GOk X.N X.env.scope scope x ns) (hP : H P = some (TabO P)) (hf : ∀ b ∈ fp, FpOk X pins H b) (hfo : ∀ b ∈ fp, ∃ o, s.heap.get? b = some o)
    (hA : A.frames = some (genEnv scope (cloFrom X.env.cells scope.names []) C code builtinsNs X.env :: X.stack)) (hh : A.handled = none) (hC : s.heap.objs.size ≤ C) (ha : C < a)
    (ho : s5.os = s.os) (hb : AllBare s5.gens) (k : ∀ b o, b ≠ P → s.heap.get? b = some o → s5.heap.get? b = some o) (hp : tabPhi P s5.heap)
    (hn : s5.heap.Ns C (fun y => if y = ".0" then some it else none)) (hgo : s5.heap.get? a = some go) (hgd : ∀ v, go.data ≠ .cell v) :
    Inv (gcx X s H (x :: ns.map (·.1)) (genEnv scope (cloFrom X.env.cells scope.names []) C code builtinsNs X.env) fp A) [(a, go)] (none :: capsOf σ ns) H s5 := by
  have hfree : ∀ y ∈ scope.names, y.2 = .free → ∃ c, X.env.cells.lookup y.1 = some c := fun y hy e => by
    rcases S.free y hy e with k | k
    · exact I.ok.has _ (.inl k)
    · exact I.ok.has _ (.inr k)
  have nP : ∀ b, H b = none → b ≠ P := fun b e z => by
    rw [z, hP] at e
    cases e
  have fplt : ∀ b ∈ fp, b < s.heap.objs.size := fun b hb => let ⟨o, e⟩ := hfo b hb; Heap.lt_size e
  have stk : ∀ b ∈ fp, b ∉ frs X.stack := fun b hb hm => by
    obtain ⟨_, f1, f2, _⟩ := hf b hb
    rcases List.mem_cons.mp (I.stkSub b hm) with z | z
    · exact f1 z
    · exact f2 z
  have noA : ∀ b, s.heap.objs.size ≤ b → b ∉ frs X.stack := fun b hb hm => by
    rcases List.mem_cons.mp (I.stkSub b hm) with z | z
    · have := I.lt
      rw [← z] at this
      exact absurd (Nat.lt_of_lt_of_le this hb) (Nat.lt_irrefl _)
    · exact I.nofs hb z
  refine ⟨⟨I.mod, S.kind, I.ok.glob, rfl, hC, fun y z c h1 h2 => ?_, fun y hy => ?_, fun y c h _ => (by cases h), fun _ => hh, hA, .inr ⟨rfl, rfl⟩, fun b hb => ⟨?_, fun y c h z => ?_⟩, fun b o e => I.bs b o e, Nat.le_trans I.ok.bsz I.sz, fun b o e hm => ?_, fun b hb => stk b hb, I.stack, I.stkFree⟩,
    ho, hb, ⟨fun b o e n _ _ => k b o (nP b n) e, fun b o e n _ _ => ⟨o.slots, k b o (nP b n) e⟩, fun _ _ _ n _ => n, fun b o e _ => ?_, fun _ _ q => q, fun _ _ _ q => q, fun b ps q => ⟨#[], by
      have q' : H b = some (.tbl ps) := q
      rw [q']; simp⟩⟩,
    ⟨_, hn, fun i y v h1 h2 h3 => ?_⟩, fun y c h => ?_, I.hok.fresh hC, fun y c h => ?_, fun p hp' => ?_, fun b u e => ?_, ?_⟩
  · exact I.ok.inj _ _ _ (clo_of hfree h1).2 (clo_of hfree h2).2
  · have hy : scope.names.lookup y = some .cell ∨ scope.names.lookup y = some .free := hy
    rcases hy with hy | hy
    · exact absurd rfl (S.cell _ (PySem.mem_of_lookup hy))
    · obtain ⟨c, e⟩ := hfree _ (PySem.mem_of_lookup hy) rfl
      exact ⟨c, clo_lookup (PySem.mem_of_lookup hy) e⟩
  · exact Nat.ne_of_lt (Nat.lt_of_lt_of_le (fplt b hb) hC)
  · obtain ⟨_, _, _, _, f4, _⟩ := hf b hb
    exact f4 y c (clo_of hfree h).2 z
  · obtain ⟨_, _, _, f3, _⟩ := hf b hm
    rcases f3 with z | z
    · exact I.ok.noex b o e z
    · exact absurd (Nat.lt_of_lt_of_le (Heap.lt_size e) (Nat.le_trans I.ok.bsz z)) (Nat.lt_irrefl _)
  · by_cases hb : b = P
    · obtain ⟨ps, e2, _⟩ := hp
      exact ⟨_, by rw [hb]; exact e2⟩
    · exact ⟨o, k b o hb e⟩
  · cases i with
    | zero => cases h2
    | succ i =>
      have h1' : (ns.map (·.1))[i]? = some y := h1
      have h2' : (capsOf σ ns)[i]? = some (some v) := h2
      unfold capsOf at h2'
      rw [List.getElem?_map] at h1' h2'
      cases e : ns[i]? with
      | none => rw [e] at h1'; cases h1'
      | some p =>
        rw [e] at h1' h2'
        have e1 : p.1 = y := Option.some.inj h1'
        have e2 : (σ[p.2]?).join = some v := Option.some.inj h2'
        obtain ⟨c1, c2⟩ := S.caps p (List.mem_of_getElem? e)
        obtain ⟨m, hm, hl⟩ := I.loc
        have e3 : σ[p.2]? = some (some v) := by
          cases q : σ[p.2]? with
          | none => rw [q] at e2; cases e2
          | some w => rw [q] at e2; have e2' : w = some v := e2; rw [e2']
        have hk := S.free _ c2 rfl
        have hvis : Vis X.env.scope p.1 := .inr hk
        obtain ⟨u, r, lk⟩ := hl p.2 p.1 v c1 e3 hvis
        refine ⟨u, r, ?_⟩
        rcases lk with ⟨kl, _⟩ | ⟨_, c, hc, ic⟩
        · have kl' : X.env.scope.names.lookup p.1 = some .local := kl
          rcases hk with hk | hk
          · rw [show X.env.scope.names.lookup p.1 = some .cell from hk] at kl'; cases kl'
          · rw [show X.env.scope.names.lookup p.1 = some .free from hk] at kl'; cases kl'
        · rw [← e1]
          refine .inr ⟨.inr (S.uniq _ c2), c, clo_lookup c2 hc, ?_⟩
          obtain ⟨oc, ho', hd'⟩ := ic
          exact ⟨oc, k c oc (nP c (I.freeC _ _ hc)) ho', hd'⟩
  · have hc := (clo_of hfree h).2
    obtain ⟨v, oc, ho', hd'⟩ := I.cell y c hc
    exact ⟨v, oc, k c oc (nP c (I.freeC _ _ hc)) ho', hd'⟩
  · exact I.freeC _ _ (clo_of hfree h).2
  · have hp2 : p ∈ [(a, go)] := hp'
    rw [List.mem_singleton.mp hp2]
    have hsa : s.heap.objs.size ≤ a := Nat.le_trans hC (Nat.le_of_lt ha)
    exact ⟨hgo, I.hok.fresh hsa, Nat.ne_of_gt ha, noA a hsa, hgd⟩
  · by_cases hb : b = P
    · rw [hb, hP] at e
      cases e
      rw [hb]
      exact tab_ok hp
    · refine (I.hok b u e).stay (fun c v hc q => k c v ?_ q) (fun _ q => q) fun _ _ q => q
      rcases hc with z | z
      · rw [z]; exact hb
      · intro w
        rw [w, hP] at z
        cases z
  · show (none :: capsOf σ ns).length = (x :: ns.map (·.1)).length
    unfold capsOf
    simp
/-- back in the def -/
theorem inv_back {N : List Str} {cenv : Env} {fp : List Addr} {A : Around} {pins' : List (Addr × Obj)} {σ' : L2.St} {H' : Hp} {s' : Shared} (I : Inv X pins σ H s) (hf : ∀ b ∈ fp, FpOk X pins H b)
    (J : Inv (gcx X s H N cenv fp A) pins' σ' H' s') : Inv X pins σ H' s' :=
  I.call' (ch := fp) J.os J.base J.hok J.bare fun b hb => let ⟨_, f1, _, f3, f4, f5⟩ := hf b hb; ⟨f3, f1, f4, f5⟩
end

/-! ### the segment -/
def GEnd (G : Cx) (a : Addr) (go : Obj) (caps : L2.St) (L : Nat) (Pv : Nat → Hp → Prop) : Nat → Shared → Shared → Prop := fun n _ s => n = 1 ∧ ∃ H, Inv G [(a, go)] (none :: caps) H s ∧ Pv L H
def GYld (G : Cx) (a : Addr) (go : Obj) (caps : L2.St) (L : Nat) (Pv : Nat → Hp → Prop) (Ye : Nat → V → Hp → Prop) : Protocol := fun n _ v s kap =>
  ∃ i y H, i < L ∧ n + i = L ∧ RelV y v ∧ Inv G [(a, go)] (none :: caps) H s ∧ Ye i y H ∧ ∀ s', s'.heap = s.heap → s'.os = s.os → AllBare s'.gens → Pv (i + 1) H → kap (.send .none) s'
section
variable {G : Cx} {A : Around} {elt iter : Expr} {x : Str} {px : Pos} {scope : Scope} {pos : Pos} {it a : Addr} {go : Obj} {fp : List Addr} {tn : Nat → Heap → Prop} {J : It} {caps : L2.St} {te : TE} {L : Nat} {Pv : Nat → Hp → Prop} {Ye : Nat → V → Hp → Prop}
theorem seg_gloop (hA : A.over (.compLoop (.GeneratorExp elt [⟨.Name x px, iter, [], 0⟩] scope pos) 0 (.ref it) .none G.env) [] = G.A) (hc : G.calm = true) (hex : G.ex = fp) (hxe : G.xe = fun _ _ => False) (hpn : G.pn = []) (hco : G.env.scope.isCoroutine = false)
    (T : Turn G.prog G.w G.K (.Name x px) J fp it tn) (hg : PG G (.Name x px) (gName 0)) (he : PE G elt te) (ha : ∀ b ∈ fp, a ≠ b)
    (step : ∀ i H, i < L → Pv i H → J.go i H ∧ ∀ y H', J.yld i H y H' → te (some y :: caps) H' (Ye i)) (stop : ∀ H, Pv L H → J.stop L H) :
    ∀ (k i : Nat) (s₀ s : Shared) (H : Hp), L - i = k → i ≤ L → Inv G [(a, go)] (none :: caps) H s → tn i s.heap → (∀ b ∈ fp, H b = none) → Pv i H →
      Seg (model G.prog G.w) A (fun n s₀ r s₁ => r = .ok .next ∧ GEnd G a go caps L Pv n s₀ s₁) (GYld G a go caps L Pv Ye) (k + 1) s₀
        (.compLoop (.GeneratorExp elt [⟨.Name x px, iter, [], 0⟩] scope pos) 0 (.ref it) .none G.env)
        ((model G.prog G.w).den (.compLoop (.GeneratorExp elt [⟨.Name x px, iter, [], 0⟩] scope pos) 0 (.ref it) .none G.env)) [] s := by
  have fpok : ∀ {H : Hp} {σ : L2.St} {s : Shared}, Inv G [(a, go)] σ H s → (∀ b ∈ fp, H b = none) → ∀ b ∈ fp, FpOk G [(a, go)] H b := fun {H σ s} I hn b hb => by
    have hb' : b ∈ G.ex := by rw [hex]; exact hb
    obtain ⟨e1, e2⟩ := I.ok.exf b hb'
    refine ⟨hn b hb, e1, I.ok.exfs b hb', .inl hb', e2, fun p hp => ?_⟩
    rw [hpn, List.nil_append] at hp
    rw [List.mem_singleton.mp hp]
    exact ha b hb
  intro k
  induction k with
  | zero =>
    intro i s₀ s H hk hi I st fr pv
    have hin : i = L := by omega
    subst hin
    show Seg _ A _ _ _ s₀ _ ((compTurn (.GeneratorExp elt [⟨.Name x px, iter, [], 0⟩] scope pos) 0 (.ref it) .none G.env).onRaise (leaving G.env)) [] s
    rw [compTurn_gen, Sem.onRaise_eq_wrap]
    refine seg_bind_wrap (wpAny_standAt ?_)
    refine seg_bind_wrap ?_
    rw [hA]
    refine thn (T.done G rfl rfl rfl hc i _ s _ H _ I (fpok I fr) st (stop H pv)) fun r s1 ⟨hr, I1⟩ => ?_
    subst hr
    exact seg_end (.ok .next) ⟨rfl, rfl, H, I1, pv⟩
  | succ k ih =>
    intro i s₀ s H hk hi I st fr pv
    have hlt : i < L := by omega
    obtain ⟨hgo, hstep⟩ := step i H hlt pv
    show Seg _ A _ _ _ s₀ _ ((compTurn (.GeneratorExp elt [⟨.Name x px, iter, [], 0⟩] scope pos) 0 (.ref it) .none G.env).onRaise (leaving G.env)) [] s
    rw [compTurn_gen, Sem.onRaise_eq_wrap]
    refine seg_bind_wrap (wpAny_standAt ?_)
    refine seg_bind_wrap ?_
    rw [hA]
    refine thn (T.item G rfl rfl rfl hc i _ s _ H _ I (fpok I fr) st hgo) fun r s1 ⟨u, hr, h1⟩ => ?_
    subst hr
    refine seg_bind_wrap ?_
    rw [hA]
    refine thn h1 fun _ s2 ⟨y, H2, I2, ru, yl, st2, fr2⟩ => ?_
    have I2p := I2.pinned (fpok I2 fr2) (T.obj _ _ st2)
    refine seg_bind_wrap ?_
    rw [hA]
    refine wpAny_mono (hg.run _ s2 _ H2 y u (fun σ' H' => σ' = some y :: caps ∧ H' = H2) I2p ru ⟨rfl, rfl⟩) (fun _ s3 h3 => ?_) (fun e s' hx => by rw [hxe] at hx; exact hx.elim)
    obtain ⟨σ3, H3, I3, e3, e3'⟩ := h3
    subst e3 e3'
    simp only [List.forIn_nil]
    refine seg_bind_wrap (wpAny_pure ?_)
    simp only [if_true]
    have hy : ∀ v, yieldOut G.env v = yieldValue v := fun v => by simp only [yieldOut, hco, Bool.false_eq_true, if_false]
    simp only [hy]
    rw [Sem.bind_eq_wrap', Sem.bind_eq_wrap', Sem.wrap_wrap, Sem.wrap_wrap]
    refine seg_wrap ?_
    rw [hA]
    refine wpAny_mono (he.run _ s3 _ _ (Ye i) I3 (hstep y _ yl)) (fun v s4 h4 => ?_) (fun e s' hx => by rw [hxe] at hx; exact hx.elim)
    obtain ⟨y4, H4, I4, r4, q4⟩ := h4
    have pinAt : ∀ b ∈ fp, ∀ o, s2.heap.get? b = some o → s4.heap.get? b = some o ∧ H4 b = none := fun b hb o e =>
      let z := I4.pin (b, o) (List.mem_append_right _ (List.mem_append_right _ (mem_pinsAt hb e))); ⟨z.1, z.2.1⟩
    have st4 : tn (i + 1) s4.heap := T.keep _ _ _ st2 fun b hb o e => (pinAt b hb o e).1
    have fr4 : ∀ b ∈ fp, H4 b = none := fun b hb => by
      obtain ⟨o, e, _⟩ := T.obj _ _ st2 b hb
      exact (pinAt b hb o e).2
    have I4w : Inv G [(a, go)] (none :: caps) H4 s4 := I4.unpinned.weak rfl fun j v hj => by
      cases j with
      | zero => cases hj
      | succ j => exact hj
    refine seg_at (seg_yield rfl rfl rfl ⟨i, y4, H4, hlt, by omega, r4, I4w, q4, fun s5 eh eo eb pv5 => ?_⟩)
    exact seg_again rfl (ih (i + 1) s5 s5 H4 (by omega) hlt (inv_same I4w eh eo eb) (by rw [eh]; exact st4) fr4 pv5)

theorem seg_gstart (hA : A.over (.compLoop (.GeneratorExp elt [⟨.Name x px, iter, [], 0⟩] scope pos) 0 (.ref it) .none G.env) [] = G.A) (hc : G.calm = true) (hex : G.ex = fp) (hxe : G.xe = fun _ _ => False) (hpn : G.pn = []) (hco : G.env.scope.isCoroutine = false)
    (T : Turn G.prog G.w G.K (.Name x px) J fp it tn) (hg : PG G (.Name x px) (gName 0)) (he : PE G elt te) (ha : ∀ b ∈ fp, a ≠ b)
    (step : ∀ i H, i < L → Pv i H → J.go i H ∧ ∀ y H', J.yld i H y H' → te (some y :: caps) H' (Ye i)) (stop : ∀ H, Pv L H → J.stop L H)
    (s₀ s : Shared) (H : Hp) (I : Inv G [(a, go)] (none :: caps) H s) (st : tn 0 s.heap) (fr : ∀ b ∈ fp, H b = none) (pv : Pv 0 H) :
      Seg (model G.prog G.w) A (fun n s₀ r s₁ => r = .ok .next ∧ GEnd G a go caps L Pv n s₀ s₁) (GYld G a go caps L Pv Ye) (L + 1) s₀
        (.compStart (.GeneratorExp elt [⟨.Name x px, iter, [], 0⟩] scope pos) 0 (.ref it) .none G.env)
        ((model G.prog G.w).den (.compStart (.GeneratorExp elt [⟨.Name x px, iter, [], 0⟩] scope pos) 0 (.ref it) .none G.env)) [] s := by
  have loop := seg_gloop (a := a) (go := go) hA hc hex hxe hpn hco T hg he ha step stop L 0 s₀ s H (Nat.sub_zero _) (Nat.zero_le _) I st fr pv
  show Seg _ A _ _ _ s₀ _ ((compStart (.GeneratorExp elt [⟨.Name x px, iter, [], 0⟩] scope pos) 0 (.ref it) .none G.env).onRaise (leaving G.env)) [] s
  unfold compStart
  rw [Sem.onRaise_eq_wrap]
  show Seg _ A _ _ _ s₀ _ ((ask >>= _).wrap _ _ _ _) [] s
  refine seg_bind_wrap (wpAny_askSetting ?_)
  split
  · exact seg_again rfl loop
  · first
      | exact seg_bind_wrap (wpAny_rule (seg_bind_wrap (wpAny_standAt (seg_bind_wrap (T.self _ 0 s _ _ st (seg_again rfl loop))))))
      | (refine seg_bind_wrap (wpAny_rule ?_); show Seg _ A _ _ _ s₀ _ ((standAt iter.pos >>= _).wrap _ _ _ _) [] s; exact seg_bind_wrap (wpAny_standAt (seg_bind_wrap (T.self _ 0 s _ _ st (seg_again rfl loop)))))
end
end Gx
end

section
set_option Elab.async false
set_option linter.all false
/-! What is free stays as free as it was. -/
namespace Gx
open PySem PySem.Spec PyProof.Rows L2 GxR
def Fre (H H' : Hp) : Prop := ∀ x, H' x = none → H x = none
theorem Fre.put {j : Addr} {H : Hp} {o : HO} : Fre H (L2.upd H j o) := fun x h => by
  unfold L2.upd at h
  split at h
  · cases h
  · exact h
theorem Fre.trans {H H1 H2 : Hp} (a : Fre H H1) (b : Fre H1 H2) : Fre H H2 := fun x h => a x (b x h)
theorem Fre.of {H H' : Hp} (e : Same H H') : Fre H H' := fun x h => by
  cases e2 : H x with
  | none => rfl
  | some o => rw [e x o e2] at h; cases h
end Gx
end

section
set_option Elab.async false
set_option linter.all false
set_option maxRecDepth 100000
set_option maxHeartbeats 4000000
namespace Gx
open PySem PySem.Spec PyProof.Rows L2 GxR
/-- what stands when a generator expression has been made -/
def GReady (X : Cx) (pins : List (Addr × Obj)) (σ : L2.St) (J : It) (H2 : Hp) (te : TE) (caps : L2.St) (k : Nat) (a : Addr) (s5 : Shared) : Prop :=
  ∃ (g : Nat) (go : Obj) (c : Code), (∀ h : Heap, h.get? a = some go → h.IsGen a g) ∧ s5.gens[g]? = some (.fresh c) ∧
    ∀ A : Around, Room (k + 1) A → A.frames = some X.stack → ∃ G : Cx, G.prog = X.prog ∧ G.w = X.w ∧ (∀ H' s', Inv G [(a, go)] (none :: caps) H' s' → Inv X pins σ H' s') ∧ Inv G [(a, go)] (none :: caps) H2 s5 ∧
      ∀ (L : Nat) (Pv : Nat → Hp → Prop) (Ye : Nat → V → Hp → Prop), (∀ i H, i < L → Pv i H → J.go i H ∧ ∀ y H', J.yld i H y H' → te (some y :: caps) H' (Ye i)) → (∀ H, Pv L H → J.stop L H) → Pv 0 H2 →
        ∀ s', s'.heap = s5.heap → s'.os = s5.os → AllBare s'.gens →
          (GenState.fresh c).Goes (model X.prog X.w) A (fun n s₀ r s₁ => r = .ok .next ∧ GEnd G a go caps L Pv n s₀ s₁) (GYld G a go caps L Pv Ye) (L + 1) (.send .none) s'
section
variable {X : Cx} {pins : List (Addr × Obj)} {σ : L2.St} {H : Hp} {s : Shared}
theorem gen_made {c P : Addr} {elt iter : Expr} {x : Str} {px gpos : Pos} {scope : Scope} {ns : List (Str × Nat)} {wi : TI} {te : TE} {k k' : Nat} {Q' : Value → Shared → Prop} {R : It → Hp → Prop}
    (hr : Room k X.A) (TB : TabB X.base X.mg c P) (hcode : X.env.code = .ref c) (S : GOk X.N X.env.scope scope x ns) (hnd : (x :: ns.map (·.1)).Nodup) (hi : PI X (.Name x px) iter wi)
    (he : ∀ (s : Shared) (H : Hp) (C : Addr) (code : Value) (fp : List Addr) (A : Around), Room k' A → PE (gcx X s H (x :: ns.map (·.1)) (genEnv scope (cloFrom X.env.cells scope.names []) C code builtinsNs X.env) fp A) elt te)
    (hs : ∀ v, genFold iter X.env v = pure v) (I : Inv X pins σ H s) (h : wi σ H fun J H1 => H1 P = some (TabO P) ∧ R J H1)
    (hQ : ∀ J H2 a s5, R J H2 → GReady X pins σ J H2 te (capsOf σ ns) k' a s5 → Q' (.ref a) s5) :
    wpAny (model X.prog X.w) X.A (eval (.GeneratorExp elt [⟨.Name x px, iter, [], 0⟩] scope gpos) X.env) Q' X.xe s := by
  have hfree : ∀ y ∈ scope.names, y.2 = .free → ∃ c, X.env.cells.lookup y.1 = some c := fun y hy e => by
    rcases S.free y hy e with k | k
    · exact I.ok.has _ (.inl k)
    · exact I.ok.has _ (.inr k)
  refine wpAny_GeneratorExp_make S.co (closure_ok hfree) S.cell S.dot S.kind (by have := hr.dp; omega) (thn (hi.run pins s σ H _ I h) fun xv s1 hx => thn hx fun itv s2 h2 => ?_) hs
  obtain ⟨it, fp, tn, J, H2, e, I2, T, st2, f2, hP, q⟩ := h2
  subst e
  obtain ⟨⟨ps, hPs, ht⟩, _, _⟩ := I2.hok P _ hP
  have hPlt : P < s2.heap.objs.size := Heap.lt_size hPs
  have cd : PySem.W.CodeHd s2.heap c P := TB.code.keeps fun b u e => I2.bk b u e
  have cont : ∀ (code : Value) (h3 : Heap) (tk : Nat), Heap.ExtBut P s2.heap h3 → s2.heap.objs.size ≤ h3.objs.size → tabPhi P h3 →
      wpAny (model X.prog X.w) X.A (builtinsFor X.env.globals X.env.builtins) (fun bi s₄ =>
        ∀ h', h'.Ns s₄.heap.objs.size (fun y => if y = ".0" then some (.ref it) else none) → Heap.SameBut s₄.heap.objs.size (s₄.heap.push { cls := .type "frame", data := .dict #[] }) h' →
          Q' (.ref h'.objs.size) { s₄ with
            gens := s₄.gens.push (.fresh (.compStart (.GeneratorExp elt [⟨.Name x px, iter, [], 0⟩] scope gpos) 0 (.ref it) .none (genEnv scope (cloFrom X.env.cells scope.names []) s₄.heap.objs.size code bi X.env))),
            toks := s₄.toks + 1 + 1 + 1,
            heap := h'.push { cls := .type "generator", data := .fields #[.int s₄.gens.size 0, .str "<genexpr>" (s₄.toks + 1), .str (X.env.qual ++ "<genexpr>") (s₄.toks + 1 + 1)] } }) X.xe { s2 with heap := h3, toks := tk } := by
    intro code h3 tk hx hsz hp3
    obtain ⟨bm, ob, e1, e2, e3, e4, e5, e6, e7, e8⟩ := TB.bm
    have keep3 : ∀ b u, b ≠ P → s2.heap.get? b = some u → h3.get? b = some u := fun b u hb e => hx b u hb e
    refine wpAny_builtinsFor (m := X.mg) (by rw [I2.ok.glob]; exact (I2.mod.glob.keeps I2.bk).extBut hx TB.gP) e1 e2 (keep3 _ _ e4 (I2.bk _ _ e5)) e6 e7 e8 ?_
    intro h' hn' hs'
    have hn' : h'.Ns h3.objs.size (fun y => if y = ".0" then some (.ref it) else none) := hn'
    have hs' : Heap.SameBut h3.objs.size (h3.push { cls := .type "frame", data := .dict #[] }) h' := hs'
    have hsz' : h'.objs.size = h3.objs.size + 1 := by rw [hs'.1, Heap.size_push]
    have keep' : ∀ b o, h3.get? b = some o → h'.get? b = some o := fun b o e => hs'.extBut b o (Nat.ne_of_lt (Heap.lt_size e)) (Heap.get?_push_of_some _ e)
    generalize hgo : ({ cls := .type "generator", data := .fields #[.int s2.gens.size 0, .str "<genexpr>" (tk + 1), .str (X.env.qual ++ "<genexpr>") (tk + 1 + 1)] } : Obj) = go
    have hgen : ∀ h : Heap, h.get? h'.objs.size = some go → h.IsGen h'.objs.size s2.gens.size := fun h e => ⟨go, _, _, e, by rw [← hgo], by rw [← hgo], by rw [← hgo]⟩
    have hgd : ∀ v, go.data ≠ .cell v := fun v z => by rw [← hgo] at z; cases z
    have hself : (h'.push go).get? h'.objs.size = some go := Heap.get?_push_size _ (by rw [← hgo]; rfl)
    have keep5 : ∀ b o, b ≠ P → s2.heap.get? b = some o → (h'.push go).get? b = some o := fun b o hb e => Heap.get?_push_of_some _ (keep' b o (keep3 b o hb e))
    have phi5 : tabPhi P (h'.push go) := tab_stay _ _ hp3 fun o e => Heap.get?_push_of_some _ (keep' _ o e)
    have CP : fp = fp := rfl
    have hfo : ∀ b ∈ fp, ∃ o, s2.heap.get? b = some o := fun b hb => let ⟨o, e, _⟩ := T.obj _ _ st2 b hb; ⟨o, e⟩
    have fpP : ∀ b ∈ fp, b ≠ P := fun b hb z => by
      obtain ⟨f0, _⟩ := f2 b hb
      rw [z, hP] at f0
      cases f0
    refine hQ J H2 h'.objs.size _ q ?_
    refine ⟨s2.gens.size, go, _, hgen, Array.getElem?_push_size .., fun A hA hfr => ?_⟩
    have hAf : (A.over (.compLoop (.GeneratorExp elt [⟨.Name x px, iter, [], 0⟩] scope gpos) 0 (.ref it) .none (genEnv scope (cloFrom X.env.cells scope.names []) h3.objs.size code builtinsNs X.env)) []).frames = some ((genEnv scope (cloFrom X.env.cells scope.names []) h3.objs.size code builtinsNs X.env) :: X.stack) := by
      show pushEnvs [(genEnv scope (cloFrom X.env.cells scope.names []) h3.objs.size code builtinsNs X.env)] (pushEnvs [] A.frames) = _
      rw [hfr]
      rfl
    have hAr : Room k' (A.over (.compLoop (.GeneratorExp elt [⟨.Name x px, iter, [], 0⟩] scope gpos) 0 (.ref it) .none (genEnv scope (cloFrom X.env.cells scope.names []) h3.objs.size code builtinsNs X.env)) []) := by
      refine ⟨hA.hd, ?_, ?_⟩
      · have := hA.dp
        show A.depth + 1 + 3 * k' + 5 < _
        omega
      · have := hA.un
        show A.units + 3 + 16 * k' + 200 < _
        omega
    have I5 := inv_gen (s5 := { s2 with gens := s2.gens.push (.fresh (.compStart (.GeneratorExp elt [⟨.Name x px, iter, [], 0⟩] scope gpos) 0 (.ref it) .none (genEnv scope (cloFrom X.env.cells scope.names []) h3.objs.size code builtinsNs X.env))), toks := tk + 1 + 1 + 1, heap := h'.push go }) (code := code) (it := .ref it) (A := A.over (.compLoop (.GeneratorExp elt [⟨.Name x px, iter, [], 0⟩] scope gpos) 0 (.ref it) .none (genEnv scope (cloFrom X.env.cells scope.names []) h3.objs.size code builtinsNs X.env)) []) (a := h'.objs.size)
      I2 S hP f2 hfo hAf hAr.hd hsz (by rw [hsz']; exact Nat.lt_succ_self _) rfl (I2.bare.push rfl) keep5 phi5 (hn'.push _) hself hgd
    refine ⟨gcx X s2 H2 (x :: ns.map (·.1)) (genEnv scope (cloFrom X.env.cells scope.names []) h3.objs.size code builtinsNs X.env) fp (A.over (.compLoop (.GeneratorExp elt [⟨.Name x px, iter, [], 0⟩] scope gpos) 0 (.ref it) .none (genEnv scope (cloFrom X.env.cells scope.names []) h3.objs.size code builtinsNs X.env)) []), rfl, rfl, fun H' s' J' => inv_back I2 f2 J', I5, fun L Pv Ye step stop pv s' eh eo eb => ⟨rfl, ?_⟩⟩
    refine seg_gstart (G := gcx X s2 H2 (x :: ns.map (·.1)) (genEnv scope (cloFrom X.env.cells scope.names []) h3.objs.size code builtinsNs X.env) fp (A.over (.compLoop (.GeneratorExp elt [⟨.Name x px, iter, [], 0⟩] scope gpos) 0 (.ref it) .none (genEnv scope (cloFrom X.env.cells scope.names []) h3.objs.size code builtinsNs X.env)) [])) (fp := fp) (tn := tn) (J := J) rfl rfl rfl rfl rfl (S.co) T ?_ ?_ (fun b hb z => ?_) step stop s' s' H2 (inv_same I5 eh eo eb) ?_ (fun b hb => (f2 b hb).1) pv
    · refine pg_name (i := 0) hnd rfl (.inl S.loc) (.inr S.loc)
    · exact he s2 H2 h3.objs.size code fp (A.over (.compLoop (.GeneratorExp elt [⟨.Name x px, iter, [], 0⟩] scope gpos) 0 (.ref it) .none (genEnv scope (cloFrom X.env.cells scope.names []) h3.objs.size code builtinsNs X.env)) []) hAr
    · obtain ⟨o, e⟩ := hfo b hb
      have h1 := Heap.lt_size e
      rw [← z, hsz'] at h1
      have h1' : h3.objs.size + 1 < s2.heap.objs.size := h1
      omega
    · rw [eh]
      exact T.keep _ _ _ st2 fun b hb o e => keep5 b o (fpP b hb) e
  refine ⟨I2.nolimit, ?_⟩
  cases hf : codeAmong gpos ps.toList with
  | none =>
    refine wpAny_genexprCodeX hcode (cd.code hPs ht) (cd.tab hPs) hf fun c' h' tk hx hge hlt hco' _ htab' _ => ?_
    obtain ⟨o1, vs, f1, tf, fl, tg, inF, tx, tt, op, _, _, _, _, _, _, _, _, _, htr, _⟩ := hco'
    exact cont _ h' tk hx (Nat.le_trans hge (Nat.le_of_lt hlt)) ⟨_, htab'.2, htr⟩
  | some cv =>
    refine wpAny_genexprCode_hit hcode (cd.code hPs ht) hf ?_
    exact cont cv s2.heap s2.toks (Heap.ExtBut.refl _ _) (Nat.le_refl _) ⟨ps, hPs, ht⟩

theorem codeAny_allG {A0 : Around} {a : Addr} {g : Nat} {go : Obj} {G : Cx} {caps : L2.St} {L : Nat} {Pv : Nat → Hp → Prop} {Ye : Nat → V → Hp → Prop} {Qf : Hp → Prop} {R' : Result → Shared → Prop} {prog : Program} {w : World}
    (hG : G.prog = prog ∧ G.w = w) (hh : A0.handled = none) (hroom : A0.depth < recursionLimit) (hgen : ∀ h : Heap, h.get? a = some go → h.IsGen a g)
    (hYe : ∀ i y H, Ye i y H → ∃ b, y = .bl b ∧ if b = true then Pv (i + 1) H else Qf H)
    (hfalse : ∀ H s, Inv G [(a, go)] (none :: caps) H s → Qf H → R' (.ok (.ret (.bool false))) s) (htrue : ∀ H s, Inv G [(a, go)] (none :: caps) H s → Pv L H → R' (.ok (.ret (.bool true))) s) :
    ∀ (k i : Nat) (s : Shared) (gs : GenState), L - i = k → i ≤ L → (∃ H, Inv G [(a, go)] (none :: caps) H s) → s.gens[g]? = some gs →
      (∀ s', s'.heap = s.heap → s'.os = s.os → AllBare s'.gens → gs.Goes (model prog w) A0.in1.in1 (fun n s₀ r s₁ => r = .ok .next ∧ GEnd G a go caps L Pv n s₀ s₁) (GYld G a go caps L Pv Ye) (L - i + 1) (.send .none) s') →
      codeAny (model prog w) A0 (.builtin "all.loop" ⟨[.ref a], []⟩) R' s := by
  have pin : ∀ {H : Hp} {σ : L2.St} {s : Shared}, Inv G [(a, go)] σ H s → s.heap.IsGen a g := fun I => hgen _ (I.pin (a, go) (List.mem_append_right _ (List.mem_singleton.mpr rfl))).1
  intro k
  induction k with
  | zero =>
    intro i s gs hk hi ⟨H, I⟩ hgs hgo
    have hin : i = L := by omega
    subst hin
    refine codeAny_builtin F.entry_all_loop ?_
    rw [Around.under_plainId F.plain_all_loop _]
    show wpAny _ A0.in1 (pyNext (.ref a) >>= _) _ _ s
    refine wpAny_bind (wpAny_pyNext_genexpQ (n := i - i + 1) (P := GEnd G a go caps i Pv) hh I.nolimit hroom (pin I) hgs (hgo _ rfl rfl (bare_set I.bare rfl)) (fun v s₁ gs' hb hv => ?_) (fun s₁ hp h' hk => ?_))
    · obtain ⟨j, y, H2, hl, hj, _⟩ := hv
      have hj' : i - i + 1 - 1 + j = i := hj
      omega
    · obtain ⟨_, H2, I2, pv⟩ := hp
      refine wpAny_bind (wpAny_rule (wpAny_pure ?_))
      exact htrue H2 _ (inv_same ((inv_same I2 rfl rfl (s' := s₁.setGen g .finished) (bare_set I2.bare rfl)).kept (t' := s₁.toks) hk) rfl rfl (bare_set I2.bare rfl)) pv
  | succ k ih =>
    intro i s gs hk hi ⟨H, I⟩ hgs hgo
    have hlt : i < L := by omega
    refine codeAny_builtin F.entry_all_loop ?_
    rw [Around.under_plainId F.plain_all_loop _]
    show wpAny _ A0.in1 (pyNext (.ref a) >>= _) _ _ s
    have hsz : g + 1 ≤ s.gens.size := (Array.getElem?_eq_some_iff.mp hgs).1
    refine wpAny_bind (GenW.wpAny_gsz hsz (wpAny_pyNext_genexpQ (n := L - i + 1) (P := GEnd G a go caps L Pv) hh I.nolimit hroom (pin I) hgs (hgo _ rfl rfl (bare_set I.bare rfl)) (fun v s₁ gs' hb hv => ?_) (fun s₁ hp h' hk => ?_)))
    · obtain ⟨j, y, H2, hl, hj, r2, I2, ye, kap⟩ := hv
      have hj' : L - i + 1 - 1 + j = L := hj
      have hji : j = i := by omega
      subst hji
      obtain ⟨b, eb, hb2⟩ := hYe j y H2 ye
      subst eb
      have r2' : v = Value.bool b := r2
      subst r2'
      intro hz
      rw [GenW.setGen_size] at hz
      refine wpAny_bind (wpAny_holding (wpAny_truthy_bool ?_))
      refine wpAny_bind (wpAny_letGo ?_)
      have I3 : Inv G [(a, go)] (none :: caps) H2 (s₁.setGen g gs') := inv_same I2 rfl rfl (bare_set I2.bare hb)
      cases b with
      | true =>
        rw [if_pos rfl] at hb2
        simp only [if_true]
        refine wpAny_pure ⟨plainId_quiet F.plain_all_loop _, ih (j + 1) _ gs' (by omega) hl ⟨H2, I3⟩ (setGen_at hz) fun s' eh eo eb => ?_⟩
        have e : L - j = L - (j + 1) + 1 := by omega
        have := kap s' eh eo eb hb2
        rw [e] at this
        exact this
      | false =>
        rw [if_neg Bool.false_ne_true] at hb2
        simp only [Bool.false_eq_true, if_false]
        refine wpAny_bind (wpAny_rule (wpAny_pure ?_))
        exact hfalse H2 _ I3 hb2
    · obtain ⟨h0, _⟩ := hp
      have h0' : L - i + 1 = 1 := h0
      omega
end
end Gx
namespace Gx
open PySem PySem.Spec PyProof.Rows L2 GxR
/-- all(elt for x in iter): Pv i, what holds when i items have passed -/
def rAllG (te : TE) (caps : L2.St) (Q : VK) : It → Hp → Prop := fun J H1 => ∃ (L : Nat) (Pv : Nat → Hp → Prop), Pv 0 H1 ∧ (∀ H, Pv L H → J.stop L H ∧ Q (.bl true) H) ∧
    ∀ i H, i < L → Pv i H → J.go i H ∧ ∀ y H', J.yld i H y H' → te (some y :: caps) H' fun z H2 => ∃ b, z = .bl b ∧ if b = true then Pv (i + 1) H2 else Q (.bl false) H2
def tAllG (P : Addr) (wi : TI) (te : TE) (ns : List (Str × Nat)) : TE := fun σ H Q => wi σ H fun J H1 => H1 P = some (TabO P) ∧ rAllG te (capsOf σ ns) Q J H1
section
variable {X : Cx}
theorem pe_allG {c P : Addr} {elt iter : Expr} {x : Str} {px p pos gpos : Pos} {scope : Scope} {ns : List (Str × Nat)} {wi : TI} {te : TE} {k' : Nat}
    (hr : Room (k' + 3) X.A) (hg : Gl X "all") (hm : X.mg "all" = none) (TB : TabB X.base X.mg c P) (hcode : X.env.code = .ref c) (S : GOk X.N X.env.scope scope x ns) (hnd : (x :: ns.map (·.1)).Nodup) (hi : PI X (.Name x px) iter wi)
    (he : ∀ (s : Shared) (H : Hp) (C : Addr) (code : Value) (fp : List Addr) (A : Around), Room k' A → PE (gcx X s H (x :: ns.map (·.1)) (genEnv scope (cloFrom X.env.cells scope.names []) C code builtinsNs X.env) fp A) elt te)
    (hs : ∀ v, genFold iter X.env v = pure v := by intro _; rfl) (hb : bootBuiltins "all" = some (.builtin "all") := by decide +kernel)
    (hst : starEach [.GeneratorExp elt [⟨.Name x px, iter, [], 0⟩] scope gpos] X.env = (false, eval (.GeneratorExp elt [⟨.Name x px, iter, [], 0⟩] scope gpos) X.env) :: starEach [] X.env := by rfl) :
    PE X (.Call (.Name "all" p) [.GeneratorExp elt [⟨.Name x px, iter, [], 0⟩] scope gpos] [] pos) (tAllG P wi te ns) := by
  refine ⟨fun pins s σ H Q I h => ?_⟩
  refine wpAny_Call_Name_kw (ld_blt I hg hm hb ?_)
  refine PyProof.Rows.callWith_builtin1 ?_ hst (by rfl)
  rw [hst]
  show wpAny _ _ (spliced ((false, eval (.GeneratorExp elt [⟨.Name x px, iter, [], 0⟩] scope gpos) X.env) :: backTo pos (starEach [] X.env))) _ _ s
  refine Calls.spliced_cons (gen_made (R := rAllG te (capsOf σ ns) Q) hr TB hcode S hnd hi he hs I h fun J H1 a s5 hR hG => ?_)
  obtain ⟨g, go, c5, hgen, hgs, hA⟩ := hG
  have hr1 : Room (k' + 1) X.A.in1.in1 := hr.in1.in1
  obtain ⟨G, hG1, hG2, back, I5, goes⟩ := hA X.A.in1.in1 hr1 (by rw [show X.A.in1.in1.frames = X.A.frames from rfl]; exact I.ok.frames)
  obtain ⟨L, Pv, p0, hstop, hstep⟩ := hR
  refine Calls.spliced_nil ?_
  refine call_function_tree F.kind_all F.plain_all F.entry_all (F.args_all1 _) ?_
  unfold Builtin.«all»
  refine wpAny_bind (m := oneArg "all" _) (wpAny_pure ?_)
  refine wpAny_bind (wpAny_pyIter_gen (hgen _ (I5.pin (a, go) (List.mem_append_right _ (List.mem_singleton.mpr rfl))).1) ?_)
  refine wpAny_pure ⟨plainId_quiet F.plain_all_loop _, ?_⟩
  refine codeAny_allG (G := G) (L := L) (Pv := Pv) (Qf := fun H => Q (.bl false) H) (Ye := fun i z H2 => ∃ b, z = .bl b ∧ if b = true then Pv (i + 1) H2 else Q (.bl false) H2) ⟨hG1, hG2⟩ hr.hd (by have := hr.dp; show X.A.depth < recursionLimit; omega) hgen (fun i y H h => h) (fun H' s' J' q => ?_) (fun H' s' J' q => ?_) L 0 s5 (.fresh c5) rfl (Nat.zero_le _) ⟨H1, I5⟩ hgs
    (goes L Pv _ (fun i H' hi hp => hstep i H' hi hp) (fun H' hp => (hstop H' hp).1) p0)
  · exact ⟨.bl false, H', back H' s' J', rfl, q⟩
  · exact ⟨.bl true, H', back H' s' J', rfl, (hstop H' q).2⟩
end
end Gx
end

section
set_option Elab.async false
set_option linter.all false
set_option maxRecDepth 100000
set_option maxHeartbeats 4000000
/-! Defs that lean on «no repr is under way» (their callers' guards are empty), and the end of a law whose tables are open things. -/
namespace Gx
open PySem PySem.Spec PyProof.Rows L2 GxR
structure FnG (P : Program) (w : World) (K : PySem.W.Frag) (mg : Str → Option Value) (base : Heap) (k : Nat) (f : Addr) (fd : FuncData) (ps : List Str) (sp : Sp) : Prop where
  len : ∀ vs H Q E, sp vs H Q E → vs.length = ps.length
  run : ∀ (A : Around) (outer : List Env) (s : Shared) (H : Hp) (args : Args) (us : List Value) (vs : List V) (Q : VK) (E : XK), Room k A → A.guards = some [] → Env0 P w K mg base A outer s H → BindsTo s fd args (ps.zip us) → Vals vs us → sp vs H Q E →
    codeAny (model P w) A (.call (.ref f) args) (CR CX0 outer P w H s Q E) s
section
variable {P : Program} {w : World} {K : PySem.W.Frag} {mg : Str → Option Value} {base : Heap} {k : Nat} {f : Addr}
theorem fnG_of {x qual : Str} {st : Stmt} {fd : FuncData} {N ps : List Str} {sp : Sp} (F : Fun K x qual st f fd) (S : FnScope N ps (defScope st)) (len : ∀ vs H Q E, sp vs H Q E → vs.length = ps.length)
    (hbody : ∀ (cdv : Value) (A : Around) (outer : List Env) (s : Shared) (H : Hp) (vs : List V) (Q : VK) (E : XK), Room k (A.deeper (envOfC qual (defScope st) s.heap.objs.size f cdv)) → A.guards = some [] → sp vs H Q E →
      ∃ t, PSs (cxOf CX0 P w K mg base N qual (defScope st) f cdv A outer s H E).nox (defBody st) t ∧ t { nx := fun _ H' => Q .non H', rt := Q } (start N vs) H) : FnG P w K mg base (k + 1) f fd ps sp := by
  obtain ⟨oc, od, kV, doc, pm, an, cdv, ct, osl, rfl, lk, hcd⟩ := F.ex
  refine ⟨len, fun A outer s H args us vs Q E hr hg e0 hb r hsp => ?_⟩
  have KX : K.In s.heap := e0.mod.kin.keeps fun b o e => (e0.bs b o e).1
  refine codeAny_call_function hr.depth (KX _ _ lk) rfl S.co S.gen rfl (PySem.W.codeRec_of KX hcd) (hb _ _ _ _ ?_)
  refine wpAny_newFunctionEnv_cells S.kind (fun y hy => ?_) fun env he s1 x => ?_
  · rcases S.par y.1 (List.of_mem_zip hy).1 with q | q
    · exact .inl q
    · exact .inr ⟨q, PySem.W.cellsFrom_some _ _ _ (.inl q)⟩
  · subst he
    refine ⟨(e0.mod.nolimit.keeps fun b o e => (e0.bs b o e).1).keeps x.toInCall.keep, codeAny_func ?_⟩
    obtain ⟨t, ht, hq⟩ := hbody cdv A outer s H vs Q E (hr.deeper _) hg hsp
    have I : Inv (cxOf CX0 P w K mg base N qual (defScope st) f cdv A outer s H E) [] (start N vs) H s1 := inv_start S hr.hd e0 (len _ _ _ _ hsp) r x
    refine wpAny_mono (ht.nox.run [] s1 (start N vs) H _ I hq) (fun fl s' hs => ?_) fun e s' hs => hs
    cases fl with
    | ret u => exact let ⟨v, σ', H', J, rv, q⟩ := hs; ⟨v, H', J.os, J.bare, J.base, J.hok, rv, q⟩
    | next => exact let ⟨σ', H', J, q⟩ := hs; ⟨V.non, H', J.os, J.bare, J.base, J.hok, rfl, q⟩
    | brk => exact let ⟨_, _, _, q⟩ := hs; q.elim
    | cont => exact let ⟨_, _, _, q⟩ := hs; q.elim
end
/-- a def that may be called by its name: positionally (G: with the guards known) -/
structure Cal (P : Program) (w : World) (K : PySem.W.Frag) (mg : Str → Option Value) (base : Heap) (k : Nat) (x : Str) (ps : List Str) (sp : Sp) : Prop where
  ex : ∃ f fd, FnOk P w K mg base CX0 k f fd ps sp ∧ mg x = some (.ref f) ∧ PySem.W.keepIn K (.ref f) = true ∧ Binds K fd ps []
section
variable {X : Cx} {k : Nat} {x : Str} {ps : List Str} {sp : Sp}
theorem pe_cal {e : Expr} {es : List Expr} {p pos : Pos} {t : TA} (C : Cal X.prog X.w X.K X.mg X.base k x ps sp) (hr : Room k X.A) (ha : PA X (e :: es) t) (hg : Gl X x := by rfl) (hdb : (x == ("__debug__" : Str)) = false := by decide)
    (he : starEach (e :: es) X.env = (false, eval e X.env) :: starEach es X.env := by rfl) (hpl : (backTo pos (starEach es X.env)).any (·.1) = false := by rfl) : PE X (.Call (.Name x p) (e :: es) [] pos) (tCall sp [] E0 t) := by
  obtain ⟨f, fd, F, hm, hk, hb⟩ := C.ex
  exact pe_call F hr hg hm hk hb .nil pass0 ha hdb he hpl
end
/-! ### the end of a law -/
section
variable {P : Program} {w : World} {K : PySem.W.Frag} {mg mb : Str → Option Value} {k : Nat} {fa a : Addr} {cs : List (Addr × Addr)} {fd : FuncData} {x : Str} {sp : Sp} {s1 : Shared} {vs : List Value} {ns : List Int}
/-- what is tracked at the law's entry: the script (unless it is written), the tables -/
def H0 (cs : List (Addr × Addr)) (a : Addr) (wr : Bool) (o : Obj) (xs : List V) : Hp := fun b => if b = a ∧ wr = false then some (.frz o (.lst xs)) else if b ∈ cs.map (·.2) then some (TabO b) else none
theorem law_end (KX : K.In s1.heap) (hns : s1.heap.Ns mainGlobals mg) (hb : s1.heap.Ns builtinsNs mb) (hbb : ∀ x : Str, x ≠ "__name__" → mb x = bootBuiltins x) (hlim : s1.heap.NoLimit) (hg : s1.gens = #[])
    (hT : ∀ p ∈ cs, s1.heap.get? p.2 = some { cls := .none, data := .fields #[] }) (nT : ∀ p ∈ cs, K.lookup p.2 = none) (C : ∀ p ∈ cs, PySem.W.CodeHd s1.heap p.1 p.2)
    (hbm : ∃ (bm : Addr) (ob : Obj), mg "__builtins__" = some (.ref bm) ∧ bm ≠ builtinsNs ∧ s1.heap.get? bm = some ob ∧ ob.cls = .type "module" ∧ ob.dict = some builtinsNs ∧ ob.data = .plain)
    (ha : s1.heap.get? a = some { cls := .type "list", data := .seq vs.toArray }) (hi : IntsAre vs ns) (hl : ns.length ≤ sizeLine) (hr : Room k callerA)
    (F : ∀ base : Heap, K.In base → base.Ns mainGlobals mg → (∀ p ∈ cs, TabB base mg p.1 p.2) → FnG P w K mg base k fa fd [x] sp) (hbind : ∀ (s : Shared) (u : Value), BindsTo s fd ⟨[u], []⟩ [(x, u)])
    (hsp : ∀ H : Hp, (∀ p ∈ cs, H p.2 = some (TabO p.2)) → SqL K H a (ns.map V.int) → sp [.ref a] H (fun v H' => v = .bl true ∧ ∀ p ∈ cs, H' p.2 = some (TabO p.2)) E0) :
    codeAny (model P w) callerA (.call (.ref fa) ⟨[.ref a], []⟩) (fun r s' => r = .ok (.ret (.bool true)) ∧ OldK s1.heap s'.heap ∧ s'.os = s1.os ∧ AllBare s'.gens) s1 := by
  have rv := vals_ints hi
  obtain ⟨wr, hwr⟩ : ∃ wr : Bool, wr = (K.lookup a).isSome := ⟨_, rfl⟩
  obtain ⟨H, hH⟩ : ∃ H, H = H0 cs a wr { cls := .type "list", data := .seq vs.toArray } (ns.map V.int) := ⟨_, rfl⟩
  have tabNe : ∀ p ∈ cs, p.2 ≠ a := fun p hp z => by
    have e := hT p hp
    rw [z, ha] at e
    cases e
  have HT : ∀ p ∈ cs, H p.2 = some (TabO p.2) := fun p hp => by
    rw [hH]
    show (if p.2 = a ∧ wr = false then _ else if p.2 ∈ cs.map (·.2) then _ else _) = _
    rw [if_neg fun z => tabNe p hp z.1, if_pos (List.mem_map.mpr ⟨p, hp, rfl⟩)]
  -- an address that is tracked: the script, or a table
  have Hcase : ∀ b, H b = none ∨ (b = a ∧ wr = false ∧ H b = some (.frz { cls := .type "list", data := .seq vs.toArray } (.lst (ns.map V.int)))) ∨ (∃ p ∈ cs, p.2 = b ∧ H b = some (TabO b)) := fun b => by
    by_cases h1 : b = a ∧ wr = false
    · refine .inr (.inl ⟨h1.1, h1.2, ?_⟩)
      rw [hH]
      exact if_pos h1
    · by_cases h2 : b ∈ cs.map (·.2)
      · obtain ⟨p, hp, e⟩ := List.mem_map.mp h2
        refine .inr (.inr ⟨p, hp, e, ?_⟩)
        rw [← e]
        exact HT p hp
      · refine .inl ?_
        rw [hH]
        exact (if_neg h1).trans (if_neg h2)
  have free : ∀ {b : Addr} {o : Obj}, s1.heap.get? b = some o → (∀ z n, o.data ≠ .seq z n) → o.data ≠ .fields #[] → H b = none := fun {b o} e h1 h2 => by
    rcases Hcase b with z | ⟨z, _⟩ | ⟨p, hp, z, _⟩
    · exact z
    · rw [z, ha] at e
      cases e
      exact (h1 _ _ rfl).elim
    · have e2 := hT p hp
      rw [z, e] at e2
      cases e2
      exact (h2 rfl).elim
  have toBase : ∀ {b : Addr} {o : Obj}, s1.heap.get? b = some o → H b = none → (hidT s1.heap H).get? b = some o := fun e n => hidT_get e n
  have nsB : ∀ {b : Addr} {m : Str → Option Value}, s1.heap.Ns b m → (hidT s1.heap H).Ns b m := fun {b m} ⟨o, es, ep, e, d, r⟩ =>
    ⟨o, es, ep, toBase e (free e (fun z n q => by rw [d] at q; cases q) fun q => by rw [d] at q; cases q), d, r⟩
  have kinB : K.In (hidT s1.heap H) := fun b o e => toBase (KX b o e) (by
    rcases Hcase b with z | ⟨z, hw, _⟩ | ⟨p, hp, z, _⟩
    · exact z
    · rw [hwr, ← z, e] at hw
      cases hw
    · rw [← z, nT p hp] at e
      cases e)
  have modB : L2.Mod K mg (hidT s1.heap H) := ⟨kinB, nsB hns, ⟨mb, nsB hb, hbb⟩, let ⟨mc, h1, h2⟩ := hlim; ⟨mc, nsB h1, h2⟩⟩
  have TB : ∀ p ∈ cs, TabB (hidT s1.heap H) mg p.1 p.2 := fun p hp => by
    have e0 := hT p hp
    refine ⟨?_, ?_, fun z => ?_⟩
    · obtain ⟨o, us, file, tf, flags, tg, inF, text, tt, e1, r1, r2, r3, rest⟩ := C p hp
      refine ⟨o, us, file, tf, flags, tg, inF, text, tt, toBase e1 (free e1 (fun z n q => ?_) fun q => ?_), r1, r2, r3, rest⟩
      · rw [r2] at q; cases q
      · rw [r2] at q; cases q; simp at r3
    · obtain ⟨bm, ob, b1, b2, b3, b4, b5, b6⟩ := hbm
      refine ⟨bm, ob, b1, b2, fun q => ?_, fun q => ?_, toBase b3 (free b3 (fun z n q => by rw [b6] at q; cases q) fun q => by rw [b6] at q; cases q), b4, b5, b6⟩
      · obtain ⟨o, es, ep, e, hd, _⟩ := hns
        rw [q, e] at b3
        cases b3
        rw [hd] at b6
        cases b6
      · rw [q, e0] at b3
        cases b3
        cases b6
    · obtain ⟨o, es, ep, e, hd, _⟩ := hns
      rw [z, e0] at e
      cases e
      cases hd
  have okH : HOk P w H s1.heap := fun b u e => by
    rcases Hcase b with z | ⟨z, _, z2⟩ | ⟨p, hp, z, z2⟩
    · rw [z] at e; cases e
    · rw [z2] at e; cases e
      rw [z]
      exact ⟨ha, by rw [List.length_map]; exact hl, vs, _, rv, ha⟩
    · rw [z2] at e; cases e
      exact tab_ok ⟨#[], by rw [← z]; exact hT p hp, trivial⟩
  have e0 : Env0 P w K mg (hidT s1.heap H) callerA [] s1 H := ⟨rfl, modB, fun b o e => of_hidT e, Nat.le_of_eq (hidT_size _ _), trivial, fun b hb => absurd (show b ∈ ([] : List Addr) from hb) (by simp), okH, .of_eq hg⟩
  have hS : SqL K H a (ns.map V.int) := by
    cases hk : K.lookup a with
    | some o =>
      have e := KX a o hk
      rw [ha] at e
      cases e
      exact .inr ⟨_, vs.toArray, _, hk, rfl, rfl, rfl, by rw [List.size_toArray, hi.length]; exact hl, by simpa using rv⟩
    | none =>
      refine .inl (.inr ⟨{ cls := .type "list", data := .seq vs.toArray }, ?_⟩)
      rw [hH]
      exact if_pos ⟨rfl, by rw [hwr, hk]; rfl⟩
  refine codeAny_mono ((F _ kinB (nsB hns) TB).run callerA [] s1 H ⟨[.ref a], []⟩ [.ref a] [.ref a] _ _ hr rfl e0 (hbind s1 (.ref a)) (.cons rfl .nil) (hsp H HT hS)) fun r s' h => ?_
  cases r with
  | error e => exact False.elim h
  | ok fl =>
    cases fl with
    | next => exact False.elim h
    | brk => exact False.elim h
    | cont => exact False.elim h
    | ret u =>
      obtain ⟨v, H', os, bare, un, okH', r', q1, q2⟩ := h
      subst q1
      obtain rfl : u = Value.bool true := r'
      have grown : ∀ p ∈ cs, ∃ more : Array Value, s'.heap.get? p.2 = some { cls := .none, data := .fields more } := fun p hp => let ⟨⟨ps, e, _⟩, _⟩ := okH' p.2 _ (q2 p hp); ⟨ps, e⟩
      have other : ∀ b o, (∀ p ∈ cs, p.2 ≠ b) → s1.heap.get? b = some o → s'.heap.get? b = some o := fun b o nb e => by
        rcases Hcase b with z | ⟨z, _, z2⟩ | ⟨p, hp, z, _⟩
        · exact un.keep b o e z (by intro z; cases z) (by simp)
        · have e1 := (okH b _ z2).1
          rw [e] at e1
          cases e1
          exact (okH' b _ (un.frzs b _ _ z2)).1
        · exact (nb p hp z).elim
      refine ⟨rfl, ⟨fun b o e => ?_, fun b o e => ?_⟩, os, bare⟩
      · by_cases hb : ∃ p ∈ cs, p.2 = b
        · obtain ⟨p, hp, ep⟩ := hb
          obtain ⟨more, hm⟩ := grown p hp
          subst ep
          rw [hT p hp] at e
          cases e
          exact .inr (.inl ⟨((C p hp).tab (hT p hp)).isCodeTable, rfl, #[], more, rfl, by rw [Array.empty_append]; exact hm⟩)
        · exact .inl (other b o (fun p hp z => hb ⟨p, hp, z⟩) e)
      · by_cases hb : ∃ p ∈ cs, p.2 = b
        · obtain ⟨p, hp, ep⟩ := hb
          obtain ⟨more, hm⟩ := grown p hp
          rw [← ep]
          exact ⟨_, hm⟩
        · exact ⟨o, other b o (fun p hp z => hb ⟨p, hp, z⟩) e⟩
end
/-- what is to be shown of the law at the head's heap; tn: the defs whose tables may grow, their code objects and tables -/
def LawE (l : PySem.W.OpenLaw) (q : Program) (w : World) (K : PySem.W.Frag) (k n : Nat) (x : Str) (mg : Str → Option Value) (fa : Addr) : Prop :=
  ∃ (fd : FuncData) (tn : List (Str × Addr × Addr)) (sp : Sp), (∀ p ∈ tn, PySem.W.tabIn K p.1 = some p.2 ∧ ((recsOf q).any fun e => e.name == p.1) = true ∧ K.lookup p.2.2 = none) ∧ (∀ (s : Shared) (u : Value), BindsTo s fd ⟨[u], []⟩ [(x, u)]) ∧
    (∀ (H : Hp) (a : Addr) (ns : List Int), ns.length ≤ n → (∀ z ∈ ns, Builtin.Int.intBits z ≤ 1048576) → (∀ p ∈ tn, H p.2.2 = some (TabO p.2.2)) → SqL K H a (ns.map V.int) → sp [.ref a] H (fun v H' => v = .bl true ∧ ∀ p ∈ tn, H' p.2.2 = some (TabO p.2.2)) E0) ∧
    ∀ base : Heap, K.In base → base.Ns mainGlobals mg → (∀ p ∈ tn, TabB base mg p.2.1 p.2.2) → FnG l.prog w K mg base k fa fd [x] sp
end Gx
end

section
set_option Elab.async false
set_option linter.all false
set_option maxRecDepth 100000
set_option maxHeartbeats 4000000
/-! More rules: ** of great ints, repr of nested data of ints, xs[i] op= e, chains of three, != of types. -/
namespace Gx
open PySem PySem.Spec PyProof.Rows L2 GxR
/-! ### repr -/
section
variable {X : Cx}
/-! ### ** -/
def CPowW (i j : Int) : Prop := 0 ≤ j ∧ ∃ b : Nat, i.natAbs < 2 ^ b ∧ 0 < b ∧ (b : Int) * j ≤ 134217728
theorem op_powW : OpR X (binaryOp .Pow) (rI CPowW fun i j => .int (i ^ j.toNat)) := opI fun i j _ _ _ _ _ hc q => by
  obtain ⟨h0, b, hb, b0, hm⟩ := hc
  refine pow_int h0 ?_ q
  have h1 : Builtin.Int.intBits i ≤ b := by
    unfold Builtin.Int.intBits
    split
    · omega
    · have := PySem.Flt.log2_lt_of b0 hb
      omega
  have h2 : (Builtin.Int.intBits i : Int) * j ≤ (b : Int) * j := Int.mul_le_mul_of_nonneg_right (by omega) h0
  exact Int.le_trans h2 hm
/-! ### xs[i] op= e -/
def rGetL (K : PySem.W.Frag) : V → V → Hp → VK → Prop := fun x y H Q => ∃ p xs i v, x = .ref p ∧ y = .int i ∧ SqL K H p xs ∧ 0 ≤ i ∧ xs[i.toNat]? = some v ∧ Q v H
theorem get_list : PGet X (rGetL X.K) := by
  intro pins s σ H x y v u Q I rx ry h
  obtain ⟨p, xs, i, z, rfl, rfl, hq, h0, he, q⟩ := h
  cases rx
  obtain ⟨t, rfl⟩ := ry
  obtain ⟨its, r, pl, hz⟩ := I.list hq
  obtain ⟨w, ew, rw'⟩ := r.get he
  have hl := r.length
  have hn := line63
  have hlt := (List.getElem?_eq_some_iff.mp he).1
  exact wpAny_getItem_list pl.isList h0 (by omega) (by simpa using ew) ⟨z, H, I, rw', q⟩
/-! ### a < b < c <= d -/
def tChain3 (r r' r'' : R2) (ta tb tc td : TE) : TE := fun σ H Q => ta σ H fun x H1 => tb σ H1 fun y H2 => r x y H2 fun z H3 => ∃ k, z = .bl k ∧
  (if k = true then tc σ H3 fun x2 H4 => r' y x2 H4 fun z2 H5 => ∃ k2, z2 = .bl k2 ∧ (if k2 = true then td σ H5 fun x3 H6 => r'' x2 x3 H6 Q else Q (.bl false) H5) else Q (.bl false) H3)
theorem pe_chain3 {op op' op'' : CmpOp} {r r' r'' : R2} {a b c d : Expr} {ta tb tc td : TE} {pos : Pos} (ho : OpR X (compareOp op) r) (ho' : OpR X (compareOp op') r') (ho'' : OpR X (compareOp op'') r'') (ha : PE X a ta) (hb : PE X b tb) (hc : PE X c tc) (hd : PE X d td)
    (hm : lastMarks [op, op', op''] [b, c, d] = false := by with_unfolding_all rfl) : PE X (.Compare a [op, op', op''] [b, c, d] pos) (tChain3 r r' r'' ta tb tc td) := by
  refine ⟨fun pins s σ H Q I h => ?_⟩
  refine Compare_chain (thn (ha.run pins s σ H _ I h) fun v s1 ⟨x, H1, I1, r1, q1⟩ => chain_link (thn (hb.run pins s1 σ H1 _ I1 q1) fun u s2 ⟨y, H2, I2, r2, q2⟩ =>
    thn (ho pins s2 σ H2 x y v u _ I2 r1 r2 q2) fun d s3 ⟨z, H3, I3, r3, k, e, q3⟩ => ?_)) hm
  subst e
  cases r3
  refine wpAny_truthy_bool ?_
  cases k with
  | false => exact ite_ff ⟨.bl false, H3, I3, rfl, q3⟩
  | true =>
    refine ite_tt (chain_link (thn (hc.run pins s3 σ H3 _ I3 q3) fun w' s4 ⟨x2, H4, I4, r4, q4⟩ => thn (ho' pins s4 σ H4 y x2 u w' _ I4 r2 r4 q4) fun d2 s5 ⟨z2, H5, I5, r5, k2, e2, q5⟩ => ?_))
    subst e2
    cases r5
    refine wpAny_truthy_bool ?_
    cases k2 with
    | false => exact ite_ff ⟨.bl false, H5, I5, rfl, q5⟩
    | true => exact ite_tt (chain_last (thn (hd.run pins s5 σ H5 _ I5 q5) fun w2 s6 ⟨x3, H6, I6, r6, q6⟩ => ho'' pins s6 σ H6 x2 x3 w' w2 Q I6 r4 r6 q6))
/-! ### != of types -/
theorem slot_type_ne : Slot "type" (cmpInfo .NotEq).2.1 "object.__ne__" :=
  .of (owner := "object") (n := "__ne__") (by rw [typeLookup_type, builtinLookup_eq_fast]; kernel_rfl) (by decide +kernel) (by decide +kernel) (by decide +kernel)
    (by first | exact .inl (by decide +kernel) | exact .inr (by decide +kernel)) (by rw [isSubtype_type]; kernel_rfl)
theorem ne_type_same {prog : Program} {w : World} {A : Around} {E : Value → Shared → Prop} {s : Shared} {Q : Value → Shared → Prop} {T : String} (hX : ∀ s' : Shared, s'.TypeIs (.type T) "type") (h : Q (.bool false) s) :
    wpAny (model prog w) A (compareOp .NotEq (.type T) (.type T)) Q E s := by
  show wpAny _ A (richCompare .NotEq _ _) Q E s
  refine wpAny_richCompare_same (T := "type") (hX s) (hX s) slot_type_ne ?_
  refine wpAny_call_entry slot_type_ne (hX s) F.entry_object_ne ?_ (F.args_object_ne_2 _ _)
  unfold Builtin.«object.__ne__»
  refine wpAny_bind (wpAny_of_eq (a := (Value.type T, [Value.type T])) (by simp [slotArgs]) ?_)
  refine wpAny_bind (wpAny_cRoomFor_or (.inl rfl) ?_)
  refine wpAny_bind (wpAny_callSpecialIfBound?_slot (hX s) TypeEq.slot_type_eq (call_gives TypeEq.slot_type_eq (hX s) F.entry_object_eq (F.args_object_eq_2 _ _) (TypeEq.object_eq_same rfl (by simp)) ?_))
  refine wpAny_bind (wpAny_truthy_bool ?_)
  exact wpAny_pure ⟨.bool false, rfl, (by intro e; cases e), h⟩
end
end Gx
end

section
set_option Elab.async false
set_option linter.all false
set_option maxRecDepth 100000
set_option maxHeartbeats 4000000
/-! Defs of the text by their names. -/
namespace Gx
open PySem PySem.Spec PyProof.Rows L2 GxR
/-- a def whose code object stands at c -/
structure FunC (K : PySem.W.Frag) (x qual : Str) (st : Stmt) (f : Addr) (fd : FuncData) (c : Addr) : Prop where
  ex : ∃ (oc : Value) (od : Option Addr) (kV doc pm : Value) (an : Option Addr) (ct : Value) (osl : Array (Option Value)),
    fd = PySem.W.fnOf x qual (defArgs st) (defBody st) (defScope st) .none kV doc pm an (.ref c) ct ∧ K.lookup f = some ⟨oc, od, .func fd, osl⟩ ∧ PySem.W.codeIn K (.ref c) qual = true
  kp : PySem.W.keepIn K (.ref f) = true
theorem FunC.fn {K : PySem.W.Frag} {x qual : Str} {st : Stmt} {f : Addr} {fd : FuncData} {c : Addr} (F : FunC K x qual st f fd c) : Fun K x qual st f fd :=
  ⟨let ⟨oc, od, kV, doc, pm, an, ct, osl, h⟩ := F.ex; ⟨oc, od, kV, doc, pm, an, .ref c, ct, osl, h⟩, F.kp⟩
theorem FunC.ok {P : Program} {w : World} {K : PySem.W.Frag} {mg : Str → Option Value} {base : Heap} {x qual : Str} {st : Stmt} {f : Addr} {fd : FuncData} {c : Addr} {N ps : List Str} {k : Nat} {sp : Sp} (F : FunC K x qual st f fd c) (S : FnScope N ps (defScope st)) (len : ∀ vs H Q E, sp vs H Q E → vs.length = ps.length)
    (hbody : ∀ (A : Around) (outer : List Env) (s : Shared) (H : Hp) (vs : List V) (Q : VK) (E : XK), Room k (A.deeper (envOfC qual (defScope st) s.heap.objs.size f (.ref c))) → sp vs H Q E →
      ∃ t, PSs (cxOf CX0 P w K mg base N qual (defScope st) f (.ref c) A outer s H E).nox (defBody st) t ∧ t { nx := fun _ H' => Q .non H', rt := Q } (start N vs) H) : FnOk P w K mg base CX0 (k + 1) f fd ps sp := by
  obtain ⟨oc, od, kV, doc, pm, an, ct, osl, rfl, lk, hcd⟩ := F.ex
  refine fn_of lk hcd S len fun A outer s H vs Q E hr hsp => ?_
  obtain ⟨t, h, q⟩ := hbody A outer s H vs Q E hr hsp
  exact ⟨t, h.nox, q⟩
/-- the def x stands at its name -/
structure DF (K : PySem.W.Frag) (mg : Str → Option Value) (x : Str) (st : Stmt) : Prop where
  ex : ∃ f fd, Fun K x x st f fd ∧ mg x = some (.ref f)
structure DC (K : PySem.W.Frag) (mg : Str → Option Value) (x : Str) (st : Stmt) (c : Addr) : Prop where
  ex : ∃ f fd, FunC K x x st f fd c ∧ mg x = some (.ref f)
section
variable {K : PySem.W.Frag} {mg : Str → Option Value} {h : Heap}
theorem df_mk {x : Str} {st : Stmt} {f : Addr} {oc : Value} {od an : Option Addr} {osl : Array (Option Value)} {kV doc pm cdv ct : Value} (X : K.In h) (G : h.Ns mainGlobals mg) (a : PySem.W.nsIn K mainGlobals x = some (some (.ref f)))
    (l : K.lookup f = some ⟨oc, od, .func (PySem.W.fnOf x x (defArgs st) (defBody st) (defScope st) .none kV doc pm an cdv ct), osl⟩) (c : PySem.W.codeIn K cdv x = true) (k : PySem.W.keepIn K (.ref f) = true) : DF K mg x st :=
  ⟨⟨f, _, fun_mk l c k, PySem.W.mg_of X G a⟩⟩
theorem dc_mk {x : Str} {st : Stmt} {f cc : Addr} {oc : Value} {od an : Option Addr} {osl : Array (Option Value)} {kV doc pm ct : Value} (X : K.In h) (G : h.Ns mainGlobals mg) (a : PySem.W.nsIn K mainGlobals x = some (some (.ref f)))
    (l : K.lookup f = some ⟨oc, od, .func (PySem.W.fnOf x x (defArgs st) (defBody st) (defScope st) .none kV doc pm an (.ref cc) ct), osl⟩) (c : PySem.W.codeIn K (.ref cc) x = true) (k : PySem.W.keepIn K (.ref f) = true) : DC K mg x st cc :=
  ⟨⟨f, _, ⟨⟨oc, od, kV, doc, pm, an, ct, osl, rfl, l, c⟩, k⟩, PySem.W.mg_of X G a⟩⟩
end
section
variable {P : Program} {w : World} {K : PySem.W.Frag} {mg : Str → Option Value} {base : Heap} {k : Nat} {x : Str} {ps : List Str} {sp : Sp} {st : Stmt}
theorem cal_mk (D : DF K mg x st) (hb : ∀ f fd, Fun K x x st f fd → Binds K fd ps []) (F : ∀ f fd, Fun K x x st f fd → FnOk P w K mg base CX0 k f fd ps sp) : Cal P w K mg base k x ps sp :=
  let ⟨f, fd, F0, m⟩ := D.ex; ⟨⟨f, fd, F f fd F0, m, F0.kp, hb f fd F0⟩⟩
theorem calC_mk {c : Addr} (D : DC K mg x st c) (hb : ∀ f fd, Fun K x x st f fd → Binds K fd ps []) (F : ∀ f fd, FunC K x x st f fd c → FnOk P w K mg base CX0 k f fd ps sp) : Cal P w K mg base k x ps sp :=
  let ⟨f, fd, F0, m⟩ := D.ex; ⟨⟨f, fd, F f fd F0, m, F0.kp, hb f fd F0.fn⟩⟩
end
section
variable {X : Cx}
/-- a module's int -/
theorem pe_gi {x : Str} {n : Int} {pos : Pos} (h : ∃ t, X.mg x = some (.int n t)) (hg : Gl X x := by rfl) (hd : (x == ("__debug__" : Str)) = false := by decide) : PE X (.Name x pos) (tC (.int n)) :=
  let ⟨t, e⟩ := h; pe_glob hg e ⟨t, rfl⟩ hd
def rNeTy : R2 := fun x y H Q => ∃ n, x = .ty n ∧ y = .ty n ∧ (∀ s' : Shared, s'.TypeIs (.type n) "type") ∧ Q (.bl false) H
theorem op_neTy : OpR X (compareOp .NotEq) rNeTy := by
  intro pins s σ H x y v u Q I rx ry h
  obtain ⟨n, rfl, rfl, hm, q⟩ := h
  cases (show v = Value.type n from rx)
  cases (show u = Value.type n from ry)
  exact ne_type_same hm ⟨.bl false, H, I, rfl, q⟩
end
/-- the scope of a generator expression, decided -/
def gokB (N : List Str) (sc scope : Scope) (x : Str) (ns : List (Str × Nat)) : Bool :=
  decide (scope.kind = .function) && !scope.isCoroutine && scope.names.all (fun y => decide (y.2 ≠ .cell)) && decide (scope.names.lookup (".0" : Str) = some NameKind.local) && decide (scope.names.lookup x = some .local) &&
  scope.names.all (fun y => decide (y.2 = .free → sc.names.lookup y.1 = some .cell ∨ sc.names.lookup y.1 = some .free)) && ns.all (fun p => decide (N[p.2]? = some p.1) && decide ((p.1, NameKind.free) ∈ scope.names)) && scope.names.all (fun y => decide (scope.names.lookup y.1 = some y.2))
theorem gok_by {N : List Str} {sc scope : Scope} {x : Str} {ns : List (Str × Nat)} (h : gokB N sc scope x ns = true) : GOk N sc scope x ns := by
  unfold gokB at h
  simp only [Bool.and_eq_true, List.all_eq_true, decide_eq_true_eq, Bool.not_eq_true'] at h
  obtain ⟨⟨⟨⟨⟨⟨⟨h1, h2⟩, h3⟩, h4⟩, h5⟩, h6⟩, h7⟩, h8⟩ := h
  exact ⟨h1, h2, fun y hy => h3 y hy, h4, h5, fun y hy => h6 y hy, fun p hp => h7 p hp, fun y hy => h8 y hy⟩
end Gx
namespace Gx
open PySem PySem.Spec PyProof.Rows L2 GxR
section
variable {K : PySem.W.Frag} {mg : Str → Option Value} {h : Heap} {Goal : Prop}
theorem with_df {x : Str} {st : Stmt} {f : Addr} {oc : Value} {od an : Option Addr} {osl : Array (Option Value)} {kV doc pm cdv ct : Value} (X : K.In h) (G : h.Ns mainGlobals mg) (a : PySem.W.nsIn K mainGlobals x = some (some (.ref f)))
    (l : K.lookup f = some ⟨oc, od, .func (PySem.W.fnOf x x (defArgs st) (defBody st) (defScope st) .none kV doc pm an cdv ct), osl⟩) (c : PySem.W.codeIn K cdv x = true) (k : PySem.W.keepIn K (.ref f) = true) (go : DF K mg x st → Goal) : Goal := go (df_mk X G a l c k)
theorem tab_mk {x qual : Str} {st : Stmt} {f cc tt : Addr} {oc e : Value} {od an dd : Option Addr} {osl sl : Array (Option Value)} {kV doc pm ct : Value} {vs : Array Value} (a : PySem.W.nsIn K mainGlobals x = some (some (.ref f)))
    (l : K.lookup f = some ⟨oc, od, .func (PySem.W.fnOf qual qual (defArgs st) (defBody st) (defScope st) .none kV doc pm an (.ref cc) ct), osl⟩) (lc : K.lookup cc = some ⟨e, dd, .fields vs, sl⟩) (hv : vs[11]? = some (.ref tt)) : PySem.W.tabIn K x = some (cc, tt) := by
  unfold PySem.W.tabIn
  rw [a]
  simp only [l, PySem.W.fnOf, lc, hv]
theorem with_dc {x : Str} {st : Stmt} {f cc tt : Addr} {oc e : Value} {od an dd : Option Addr} {osl sl : Array (Option Value)} {kV doc pm ct : Value} {vs : Array Value} (X : K.In h) (G : h.Ns mainGlobals mg) (a : PySem.W.nsIn K mainGlobals x = some (some (.ref f)))
    (l : K.lookup f = some ⟨oc, od, .func (PySem.W.fnOf x x (defArgs st) (defBody st) (defScope st) .none kV doc pm an (.ref cc) ct), osl⟩) (c : PySem.W.codeIn K (.ref cc) x = true) (k : PySem.W.keepIn K (.ref f) = true)
    (lc : K.lookup cc = some ⟨e, dd, .fields vs, sl⟩) (hv : vs[11]? = some (.ref tt)) (n : K.lookup tt = none) (go : ∀ c P, DC K mg x st c → PySem.W.tabIn K x = some (c, P) → K.lookup P = none → Goal) : Goal := go cc tt (dc_mk X G a l c k) (tab_mk a l lc hv) n
theorem with_bl {x : Str} (X : K.In h) (G : h.Ns mainGlobals mg) (a : PySem.W.nsIn K mainGlobals x = some none) (go : mg x = none → Goal) : Goal := go (PySem.W.mg_none_of X G a)
theorem with_gi {x : Str} {n : Int} {t : Tok} (X : K.In h) (G : h.Ns mainGlobals mg) (a : PySem.W.nsIn K mainGlobals x = some (some (.int n t))) (go : (∃ t, mg x = some (.int n t)) → Goal) : Goal := go ⟨t, PySem.W.mg_of X G a⟩
theorem with_bf {x : Str} {id : String} (X : K.In h) (G : h.Ns mainGlobals mg) (a : PySem.W.nsIn K mainGlobals x = some (some (.builtin id))) (go : mg x = some (.builtin id) → Goal) : Goal := go (PySem.W.mg_of X G a)
end
end Gx
end

section
set_option Elab.async false
set_option linter.all false
set_option maxRecDepth 100000
set_option maxHeartbeats 4000000
/-! *= and //= of great ints; repr of ints, truth values, None and of nested data of these. -/
namespace Gx
open PySem PySem.Spec PyProof.Rows L2 GxR
section
variable {X : Cx}
def ipIC (C : Int → Int → Prop) (f : Int → Int → Int) : TIp := fun x y H Q => ∃ i j, x = .int i ∧ y = .int j ∧ C i j ∧ Q (.int (f i j)) H
theorem ip_mulW : PIp X .Mult (ipIC CMulW fun i j => i * j) := by
  intro pins s σ H x y v u Q I r1 r2 h
  obtain ⟨i, j, e1, e2, hc, q⟩ := h
  subst e1; subst e2
  obtain ⟨t, rfl⟩ := r1
  obtain ⟨t', rfl⟩ := r2
  refine PySem.AutoIntOps.imul_0 ?_ hc.ok
  exact ⟨.int _, H, I.tok _, ⟨_, rfl⟩, q⟩
end
section
variable {X : Cx}
end
end Gx
end

section
set_option Elab.async false
set_option linter.all false
set_option maxRecDepth 100000
set_option maxHeartbeats 4000000
namespace K34
open PySem PySem.Spec PyProof.Rows L2 GxR Gx
def topS (i : Nat) : Stmt := PySem.Challenge.pw_topups_k34_whole_equal_parts.main.body.getD i (.Pass ⟨0, 0, 0, 0⟩)
abbrev s_is_integer : Stmt := topS 13
theorem sc_is_integer : FnScope ["thing"] ["thing"] (defScope s_is_integer) := ⟨rfl, rfl, rfl, by decide +kernel, rfl, by decide +kernel, by decide +kernel⟩
theorem bd_is_integer {K : PySem.W.Frag} : ∀ f fd, Fun K "is_integer" "is_integer" s_is_integer f fd → Binds K fd ["thing"] [] := fun f fd F => F.binds fun _ _ _ _ _ _ us hl => match us, hl with | [_], _ => rfl
abbrev s_is_within : Stmt := topS 14
theorem sc_is_within : FnScope ["thing", "least", "most"] ["thing", "least", "most"] (defScope s_is_within) := ⟨rfl, rfl, rfl, by decide +kernel, rfl, by decide +kernel, by decide +kernel⟩
theorem bd_is_within {K : PySem.W.Frag} : ∀ f fd, Fun K "is_within" "is_within" s_is_within f fd → Binds K fd ["thing", "least", "most"] [] := fun f fd F => F.binds fun _ _ _ _ _ _ us hl => match us, hl with | [_, _, _], _ => rfl
abbrev s_is_pair_in_lowest_terms : Stmt := topS 15
theorem sc_is_pair_in_lowest_terms : FnScope ["thing", "one", "other"] ["thing"] (defScope s_is_pair_in_lowest_terms) := ⟨rfl, rfl, rfl, by decide +kernel, rfl, by decide +kernel, by decide +kernel⟩
theorem bd_is_pair_in_lowest_terms {K : PySem.W.Frag} : ∀ f fd, Fun K "is_pair_in_lowest_terms" "is_pair_in_lowest_terms" s_is_pair_in_lowest_terms f fd → Binds K fd ["thing"] [] := fun f fd F => F.binds fun _ _ _ _ _ _ us hl => match us, hl with | [_], _ => rfl
abbrev s_is_kept : Stmt := topS 16
theorem sc_is_kept : FnScope ["thing"] ["thing"] (defScope s_is_kept) := ⟨rfl, rfl, rfl, by decide +kernel, rfl, by decide +kernel, by decide +kernel⟩
theorem bd_is_kept {K : PySem.W.Frag} : ∀ f fd, Fun K "is_kept" "is_kept" s_is_kept f fd → Binds K fd ["thing"] [] := fun f fd F => F.binds fun _ _ _ _ _ _ us hl => match us, hl with | [_], _ => rfl
abbrev s_is_list_of_keeps : Stmt := topS 17
theorem sc_is_list_of_keeps : FnScope ["thing"] ["thing"] (defScope s_is_list_of_keeps) := ⟨rfl, rfl, rfl, by decide +kernel, rfl, by decide +kernel, by decide +kernel⟩
theorem bd_is_list_of_keeps {K : PySem.W.Frag} : ∀ f fd, Fun K "is_list_of_keeps" "is_list_of_keeps" s_is_list_of_keeps f fd → Binds K fd ["thing"] [] := fun f fd F => F.binds fun _ _ _ _ _ _ us hl => match us, hl with | [_], _ => rfl
abbrev s_is_list_of_liquids : Stmt := topS 18
theorem sc_is_list_of_liquids : FnScope ["thing", "liquids"] ["thing", "liquids"] (defScope s_is_list_of_liquids) := ⟨rfl, rfl, rfl, by decide +kernel, rfl, by decide +kernel, by decide +kernel⟩
theorem bd_is_list_of_liquids {K : PySem.W.Frag} : ∀ f fd, Fun K "is_list_of_liquids" "is_list_of_liquids" s_is_list_of_liquids f fd → Binds K fd ["thing", "liquids"] [] := fun f fd F => F.binds fun _ _ _ _ _ _ us hl => match us, hl with | [_, _], _ => rfl
abbrev s_is_row : Stmt := topS 19
theorem sc_is_row : FnScope ["thing", "liquids"] ["thing", "liquids"] (defScope s_is_row) := ⟨rfl, rfl, rfl, by decide +kernel, rfl, by decide +kernel, by decide +kernel⟩
theorem bd_is_row {K : PySem.W.Frag} : ∀ f fd, Fun K "is_row" "is_row" s_is_row f fd → Binds K fd ["thing", "liquids"] [] := fun f fd F => F.binds fun _ _ _ _ _ _ us hl => match us, hl with | [_, _], _ => rfl
abbrev s_check_keeps : Stmt := topS 20
theorem sc_check_keeps : FnScope ["keeps"] ["keeps"] (defScope s_check_keeps) := ⟨rfl, rfl, rfl, by decide +kernel, rfl, by decide +kernel, by decide +kernel⟩
theorem bd_check_keeps {K : PySem.W.Frag} : ∀ f fd, Fun K "check_keeps" "check_keeps" s_check_keeps f fd → Binds K fd ["keeps"] [] := fun f fd F => F.binds fun _ _ _ _ _ _ us hl => match us, hl with | [_], _ => rfl
abbrev s_check_row : Stmt := topS 21
theorem sc_check_row : FnScope ["row", "liquids"] ["row", "liquids"] (defScope s_check_row) := ⟨rfl, rfl, rfl, by decide +kernel, rfl, by decide +kernel, by decide +kernel⟩
theorem bd_check_row {K : PySem.W.Frag} : ∀ f fd, Fun K "check_row" "check_row" s_check_row f fd → Binds K fd ["row", "liquids"] [] := fun f fd F => F.binds fun _ _ _ _ _ _ us hl => match us, hl with | [_, _], _ => rfl
abbrev s_check_liquid : Stmt := topS 22
theorem sc_check_liquid : FnScope ["liquid", "liquids"] ["liquid", "liquids"] (defScope s_check_liquid) := ⟨rfl, rfl, rfl, by decide +kernel, rfl, by decide +kernel, by decide +kernel⟩
theorem bd_check_liquid {K : PySem.W.Frag} : ∀ f fd, Fun K "check_liquid" "check_liquid" s_check_liquid f fd → Binds K fd ["liquid", "liquids"] [] := fun f fd F => F.binds fun _ _ _ _ _ _ us hl => match us, hl with | [_, _], _ => rfl
abbrev s_check_number : Stmt := topS 23
theorem sc_check_number : FnScope ["number", "least", "most"] ["number", "least", "most"] (defScope s_check_number) := ⟨rfl, rfl, rfl, by decide +kernel, rfl, by decide +kernel, by decide +kernel⟩
theorem bd_check_number {K : PySem.W.Frag} : ∀ f fd, Fun K "check_number" "check_number" s_check_number f fd → Binds K fd ["number", "least", "most"] [] := fun f fd F => F.binds fun _ _ _ _ _ _ us hl => match us, hl with | [_, _, _], _ => rfl
abbrev s_common_divisor : Stmt := topS 24
theorem sc_common_divisor : FnScope ["numbers", "divisor", "number"] ["numbers"] (defScope s_common_divisor) := ⟨rfl, rfl, rfl, by decide +kernel, rfl, by decide +kernel, by decide +kernel⟩
theorem bd_common_divisor {K : PySem.W.Frag} : ∀ f fd, Fun K "common_divisor" "common_divisor" s_common_divisor f fd → Binds K fd ["numbers"] [] := fun f fd F => F.binds fun _ _ _ _ _ _ us hl => match us, hl with | [_], _ => rfl
abbrev s_without_divisor : Stmt := topS 25
theorem sc_without_divisor : FnScope ["numbers", "divisor", "number"] ["numbers"] (defScope s_without_divisor) := ⟨rfl, rfl, rfl, by decide +kernel, rfl, by decide +kernel, by decide +kernel⟩
theorem bd_without_divisor {K : PySem.W.Frag} : ∀ f fd, Fun K "without_divisor" "without_divisor" s_without_divisor f fd → Binds K fd ["numbers"] [] := fun f fd F => F.binds fun _ _ _ _ _ _ us hl => match us, hl with | [_], _ => rfl
abbrev s_is_content : Stmt := topS 27
theorem sc_is_content : FnScope ["thing"] ["thing"] (defScope s_is_content) := ⟨rfl, rfl, rfl, by decide +kernel, rfl, by decide +kernel, by decide +kernel⟩
theorem bd_is_content {K : PySem.W.Frag} : ∀ f fd, Fun K "is_content" "is_content" s_is_content f fd → Binds K fd ["thing"] [] := fun f fd F => F.binds fun _ _ _ _ _ _ us hl => match us, hl with | [_], _ => rfl
abbrev s_pure_content : Stmt := topS 28
theorem sc_pure_content : FnScope ["count", "liquid", "content"] ["count", "liquid"] (defScope s_pure_content) := ⟨rfl, rfl, rfl, by decide +kernel, rfl, by decide +kernel, by decide +kernel⟩
theorem bd_pure_content {K : PySem.W.Frag} : ∀ f fd, Fun K "pure_content" "pure_content" s_pure_content f fd → Binds K fd ["count", "liquid"] [] := fun f fd F => F.binds fun _ _ _ _ _ _ us hl => match us, hl with | [_, _], _ => rfl
abbrev s_is_list_of_amounts : Stmt := topS 29
theorem sc_is_list_of_amounts : FnScope ["thing"] ["thing"] (defScope s_is_list_of_amounts) := ⟨rfl, rfl, rfl, by decide +kernel, rfl, by decide +kernel, by decide +kernel⟩
theorem bd_is_list_of_amounts {K : PySem.W.Frag} : ∀ f fd, Fun K "is_list_of_amounts" "is_list_of_amounts" s_is_list_of_amounts f fd → Binds K fd ["thing"] [] := fun f fd F => F.binds fun _ _ _ _ _ _ us hl => match us, hl with | [_], _ => rfl
abbrev s_check_content : Stmt := topS 30
theorem sc_check_content : FnScope ["content"] ["content"] (defScope s_check_content) := ⟨rfl, rfl, rfl, by decide +kernel, rfl, by decide +kernel, by decide +kernel⟩
theorem bd_check_content {K : PySem.W.Frag} : ∀ f fd, Fun K "check_content" "check_content" s_check_content f fd → Binds K fd ["content"] [] := fun f fd F => F.binds fun _ _ _ _ _ _ us hl => match us, hl with | [_], _ => rfl
abbrev s_histories_along : Stmt := topS 34
theorem sc_histories_along : FnScope ["content", "keeps", "told", "start", "steps", "kept"] ["content", "keeps"] (defScope s_histories_along) := ⟨rfl, rfl, rfl, by decide +kernel, rfl, by decide +kernel, by decide +kernel⟩
theorem bd_histories_along {K : PySem.W.Frag} : ∀ f fd, Fun K "histories_along" "histories_along" s_histories_along f fd → Binds K fd ["content", "keeps"] [] := fun f fd F => F.binds fun _ _ _ _ _ _ us hl => match us, hl with | [_, _], _ => rfl
abbrev s_is_one_left : Stmt := topS 35
theorem sc_is_one_left : FnScope ["keeps"] ["keeps"] (defScope s_is_one_left) := ⟨rfl, rfl, rfl, by decide +kernel, rfl, by decide +kernel, by decide +kernel⟩
theorem bd_is_one_left {K : PySem.W.Frag} : ∀ f fd, Fun K "is_one_left" "is_one_left" s_is_one_left f fd → Binds K fd ["keeps"] [] := fun f fd F => F.binds fun _ _ _ _ _ _ us hl => match us, hl with | [_], _ => rfl
abbrev s_check_keeps_to_undo : Stmt := topS 36
theorem sc_check_keeps_to_undo : FnScope ["keeps"] ["keeps"] (defScope s_check_keeps_to_undo) := ⟨rfl, rfl, rfl, by decide +kernel, rfl, by decide +kernel, by decide +kernel⟩
theorem bd_check_keeps_to_undo {K : PySem.W.Frag} : ∀ f fd, Fun K "check_keeps_to_undo" "check_keeps_to_undo" s_check_keeps_to_undo f fd → Binds K fd ["keeps"] [] := fun f fd F => F.binds fun _ _ _ _ _ _ us hl => match us, hl with | [_], _ => rfl
abbrev s_holds_for_all : Stmt := topS 37
theorem sc_holds_for_all : FnScope ["keeps", "earlier", "stays", "whole"] ["keeps"] (defScope s_holds_for_all) := ⟨rfl, rfl, rfl, by decide +kernel, rfl, by decide +kernel, by decide +kernel⟩
theorem bd_holds_for_all {K : PySem.W.Frag} : ∀ f fd, Fun K "holds_for_all" "holds_for_all" s_holds_for_all f fd → Binds K fd ["keeps"] [] := fun f fd F => F.binds fun _ _ _ _ _ _ us hl => match us, hl with | [_], _ => rfl
abbrev s_can_be_last : Stmt := topS 38
theorem sc_can_be_last : FnScope ["content", "kept", "liquid", "stays", "whole"] ["content", "kept", "liquid"] (defScope s_can_be_last) := ⟨rfl, rfl, rfl, by decide +kernel, rfl, by decide +kernel, by decide +kernel⟩
theorem bd_can_be_last {K : PySem.W.Frag} : ∀ f fd, Fun K "can_be_last" "can_be_last" s_can_be_last f fd → Binds K fd ["content", "kept", "liquid"] [] := fun f fd F => F.binds fun _ _ _ _ _ _ us hl => match us, hl with | [_, _, _], _ => rfl
abbrev s_content_before : Stmt := topS 39
theorem sc_content_before : FnScope ["content", "kept", "liquid", "stays", "whole", "amounts", "amount"] ["content", "kept", "liquid"] (defScope s_content_before) := ⟨rfl, rfl, rfl, by decide +kernel, rfl, by decide +kernel, by decide +kernel⟩
theorem bd_content_before {K : PySem.W.Frag} : ∀ f fd, Fun K "content_before" "content_before" s_content_before f fd → Binds K fd ["content", "kept", "liquid"] [] := fun f fd F => F.binds fun _ _ _ _ _ _ us hl => match us, hl with | [_, _, _], _ => rfl
abbrev s_is_pure : Stmt := topS 40
theorem sc_is_pure : FnScope ["content"] ["content"] (defScope s_is_pure) := ⟨rfl, rfl, rfl, by decide +kernel, rfl, by decide +kernel, by decide +kernel⟩
theorem bd_is_pure {K : PySem.W.Frag} : ∀ f fd, Fun K "is_pure" "is_pure" s_is_pure f fd → Binds K fd ["content"] [] := fun f fd F => F.binds fun _ _ _ _ _ _ us hl => match us, hl with | [_], _ => rfl
abbrev s_content_layers : Stmt := topS 41
theorem sc_content_layers : FnScope ["content", "choices", "search"] ["content", "choices"] (defScope s_content_layers) := ⟨rfl, rfl, rfl, by decide +kernel, rfl, by decide +kernel, by decide +kernel⟩
theorem bd_content_layers {K : PySem.W.Frag} : ∀ f fd, Fun K "content_layers" "content_layers" s_content_layers f fd → Binds K fd ["content", "choices"] [] := fun f fd F => F.binds fun _ _ _ _ _ _ us hl => match us, hl with | [_, _], _ => rfl
abbrev s_ContentSearch___init__ : Stmt := inClass (topS 42) 0
theorem sc_ContentSearch___init__ : FnScope ["self", "choices", "_"] ["self", "choices"] (defScope s_ContentSearch___init__) := ⟨rfl, rfl, rfl, by decide +kernel, rfl, by decide +kernel, by decide +kernel⟩
abbrev s_ContentSearch_undone : Stmt := inClass (topS 42) 1
theorem sc_ContentSearch_undone : FnScope ["self", "content", "number", "pairs", "index", "kept", "liquid", "before"] ["self", "content", "number"] (defScope s_ContentSearch_undone) := ⟨rfl, rfl, rfl, by decide +kernel, rfl, by decide +kernel, by decide +kernel⟩
theorem bd_ContentSearch_undone {K : PySem.W.Frag} : ∀ f fd, Fun K "undone" "ContentSearch.undone" s_ContentSearch_undone f fd → Binds K fd ["self", "content", "number"] [] := fun f fd F => F.binds fun _ _ _ _ _ _ us hl => match us, hl with | [_, _, _], _ => rfl
abbrev s_ContentSearch_is_reachable : Stmt := inClass (topS 42) 2
theorem sc_ContentSearch_is_reachable : FnScope ["self", "content", "number"] ["self", "content", "number"] (defScope s_ContentSearch_is_reachable) := ⟨rfl, rfl, rfl, by decide +kernel, rfl, by decide +kernel, by decide +kernel⟩
theorem bd_ContentSearch_is_reachable {K : PySem.W.Frag} : ∀ f fd, Fun K "is_reachable" "ContentSearch.is_reachable" s_ContentSearch_is_reachable f fd → Binds K fd ["self", "content", "number"] [] := fun f fd F => F.binds fun _ _ _ _ _ _ us hl => match us, hl with | [_, _, _], _ => rfl
abbrev s_ContentSearch_is_bottom : Stmt := inClass (topS 42) 3
theorem sc_ContentSearch_is_bottom : FnScope ["self", "bottom", "number", "known"] ["self", "bottom", "number"] (defScope s_ContentSearch_is_bottom) := ⟨rfl, rfl, rfl, by decide +kernel, rfl, by decide +kernel, by decide +kernel⟩
theorem bd_ContentSearch_is_bottom {K : PySem.W.Frag} : ∀ f fd, Fun K "is_bottom" "ContentSearch.is_bottom" s_ContentSearch_is_bottom f fd → Binds K fd ["self", "bottom", "number"] [] := fun f fd F => F.binds fun _ _ _ _ _ _ us hl => match us, hl with | [_, _, _], _ => rfl
abbrev s_products_of : Stmt := topS 43
theorem sc_products_of : FnScope ["choices", "products", "keeps", "further", "product", "_", "whole"] ["choices"] (defScope s_products_of) := ⟨rfl, rfl, rfl, by decide +kernel, rfl, by decide +kernel, by decide +kernel⟩
theorem bd_products_of {K : PySem.W.Frag} : ∀ f fd, Fun K "products_of" "products_of" s_products_of f fd → Binds K fd ["choices"] [] := fun f fd F => F.binds fun _ _ _ _ _ _ us hl => match us, hl with | [_], _ => rfl
abbrev s_pure_liquids : Stmt := topS 44
theorem sc_pure_liquids : FnScope ["content"] ["content"] (defScope s_pure_liquids) := ⟨rfl, rfl, rfl, by decide +kernel, rfl, by decide +kernel, by decide +kernel⟩
theorem bd_pure_liquids {K : PySem.W.Frag} : ∀ f fd, Fun K "pure_liquids" "pure_liquids" s_pure_liquids f fd → Binds K fd ["content"] [] := fun f fd F => F.binds fun _ _ _ _ _ _ us hl => match us, hl with | [_], _ => rfl
abbrev s_liquids_of : Stmt := topS 45
theorem sc_liquids_of : FnScope ["steps", "liquid", "_"] ["steps"] (defScope s_liquids_of) := ⟨rfl, rfl, rfl, by decide +kernel, rfl, by decide +kernel, by decide +kernel⟩
theorem bd_liquids_of {K : PySem.W.Frag} : ∀ f fd, Fun K "liquids_of" "liquids_of" s_liquids_of f fd → Binds K fd ["steps"] [] := fun f fd F => F.binds fun _ _ _ _ _ _ us hl => match us, hl with | [_], _ => rfl
abbrev s_layers_back : Stmt := topS 46
theorem sc_layers_back : FnScope ["last", "number", "undone", "starts", "layers", "ends", "behind", "layer", "end"] ["last", "number", "undone", "starts"] (defScope s_layers_back) := ⟨rfl, rfl, rfl, by decide +kernel, rfl, by decide +kernel, by decide +kernel⟩
theorem bd_layers_back {K : PySem.W.Frag} : ∀ f fd, Fun K "layers_back" "layers_back" s_layers_back f fd → Binds K fd ["last", "number", "undone", "starts"] [] := fun f fd F => F.binds fun _ _ _ _ _ _ us hl => match us, hl with | [_, _, _, _], _ => rfl
abbrev s_all_before : Stmt := topS 47
theorem sc_all_before : FnScope ["layer", "found", "pairs", "_", "before"] ["layer"] (defScope s_all_before) := ⟨rfl, rfl, rfl, by decide +kernel, rfl, by decide +kernel, by decide +kernel⟩
theorem bd_all_before {K : PySem.W.Frag} : ∀ f fd, Fun K "all_before" "all_before" s_all_before f fd → Binds K fd ["layer"] [] := fun f fd F => F.binds fun _ _ _ _ _ _ us hl => match us, hl with | [_], _ => rfl
abbrev s_count_by : Stmt := topS 48
theorem sc_count_by : FnScope ["layers", "counts", "layer", "end", "starts", "pairs"] ["layers"] (defScope s_count_by) := ⟨rfl, rfl, rfl, by decide +kernel, rfl, by decide +kernel, by decide +kernel⟩
theorem bd_count_by {K : PySem.W.Frag} : ∀ f fd, Fun K "count_by" "count_by" s_count_by f fd → Binds K fd ["layers"] [] := fun f fd F => F.binds fun _ _ _ _ _ _ us hl => match us, hl with | [_], _ => rfl
abbrev s_count_of : Stmt := topS 49
theorem sc_count_of : FnScope ["pairs", "counts"] ["pairs", "counts"] (defScope s_count_of) := ⟨rfl, rfl, rfl, by decide +kernel, rfl, by decide +kernel, by decide +kernel⟩
theorem bd_count_of {K : PySem.W.Frag} : ∀ f fd, Fun K "count_of" "count_of" s_count_of f fd → Binds K fd ["pairs", "counts"] [] := fun f fd F => F.binds fun _ _ _ _ _ _ us hl => match us, hl with | [_, _], _ => rfl
abbrev s_told_by : Stmt := topS 50
theorem sc_told_by : FnScope ["layers", "told", "layer", "end", "starts", "start", "pairs", "ways", "way"] ["layers"] (defScope s_told_by) := ⟨rfl, rfl, rfl, by decide +kernel, rfl, by decide +kernel, by decide +kernel⟩
theorem bd_told_by {K : PySem.W.Frag} : ∀ f fd, Fun K "told_by" "told_by" s_told_by f fd → Binds K fd ["layers"] [] := fun f fd F => F.binds fun _ _ _ _ _ _ us hl => match us, hl with | [_], _ => rfl
abbrev s_told_of : Stmt := topS 51
theorem sc_told_of : FnScope ["pairs", "told", "step", "before", "start", "steps"] ["pairs", "told"] (defScope s_told_of) := ⟨rfl, rfl, rfl, by decide +kernel, rfl, by decide +kernel, by decide +kernel⟩
theorem bd_told_of {K : PySem.W.Frag} : ∀ f fd, Fun K "told_of" "told_of" s_told_of f fd → Binds K fd ["pairs", "told"] [] := fun f fd F => F.binds fun _ _ _ _ _ _ us hl => match us, hl with | [_, _], _ => rfl
abbrev s_topped_by : Stmt := topS 53
theorem sc_topped_by : FnScope ["content", "keeps", "row"] ["content", "keeps", "row"] (defScope s_topped_by) := ⟨rfl, rfl, rfl, by decide +kernel, rfl, by decide +kernel, by decide +kernel⟩
theorem bd_topped_by {K : PySem.W.Frag} : ∀ f fd, Fun K "topped_by" "topped_by" s_topped_by f fd → Binds K fd ["content", "keeps", "row"] [] := fun f fd F => F.binds fun _ _ _ _ _ _ us hl => match us, hl with | [_, _, _], _ => rfl
abbrev s_content_behind : Stmt := topS 54
theorem sc_content_behind : FnScope ["content", "kept", "liquid", "stays", "whole", "mixture", "amount"] ["content", "kept", "liquid"] (defScope s_content_behind) := ⟨rfl, rfl, rfl, by decide +kernel, rfl, by decide +kernel, by decide +kernel⟩
theorem bd_content_behind {K : PySem.W.Frag} : ∀ f fd, Fun K "content_behind" "content_behind" s_content_behind f fd → Binds K fd ["content", "kept", "liquid"] [] := fun f fd F => F.binds fun _ _ _ _ _ _ us hl => match us, hl with | [_, _, _], _ => rfl
abbrev s_contents_by : Stmt := topS 55
theorem sc_contents_by : FnScope ["content", "keeps", "row", "contents", "kept", "liquid"] ["content", "keeps", "row"] (defScope s_contents_by) := ⟨rfl, rfl, rfl, by decide +kernel, rfl, by decide +kernel, by decide +kernel⟩
theorem bd_contents_by {K : PySem.W.Frag} : ∀ f fd, Fun K "contents_by" "contents_by" s_contents_by f fd → Binds K fd ["content", "keeps", "row"] [] := fun f fd F => F.binds fun _ _ _ _ _ _ us hl => match us, hl with | [_, _, _], _ => rfl
abbrev s__law_jar : Stmt := topS 57
theorem sc__law_jar : FnScope ["script", "k", "cell_here"] ["script", "k"] (defScope s__law_jar) := ⟨rfl, rfl, rfl, by decide +kernel, rfl, by decide +kernel, by decide +kernel⟩
theorem bd__law_jar {K : PySem.W.Frag} : ∀ f fd, Fun K "_law_jar" "_law_jar" s__law_jar f fd → Binds K fd ["script", "k"] [] := fun f fd F => F.binds fun _ _ _ _ _ _ us hl => match us, hl with | [_, _], _ => rfl
abbrev s__law_dip : Stmt := topS 58
theorem sc__law_dip : FnScope ["jar", "many", "digit", "mixed"] ["jar", "many"] (defScope s__law_dip) := ⟨rfl, rfl, rfl, by decide +kernel, rfl, by decide +kernel, by decide +kernel⟩
theorem bd__law_dip {K : PySem.W.Frag} : ∀ f fd, Fun K "_law_dip" "_law_dip" s__law_dip f fd → Binds K fd ["jar", "many"] [] := fun f fd F => F.binds fun _ _ _ _ _ _ us hl => match us, hl with | [_, _], _ => rfl
abbrev s__law_gcd : Stmt := topS 59
theorem sc__law_gcd : FnScope ["one", "two"] ["one", "two"] (defScope s__law_gcd) := ⟨rfl, rfl, rfl, by decide +kernel, rfl, by decide +kernel, by decide +kernel⟩
theorem bd__law_gcd {K : PySem.W.Frag} : ∀ f fd, Fun K "_law_gcd" "_law_gcd" s__law_gcd f fd → Binds K fd ["one", "two"] [] := fun f fd F => F.binds fun _ _ _ _ _ _ us hl => match us, hl with | [_, _], _ => rfl
abbrev s__law_plain : Stmt := topS 60
theorem sc__law_plain : FnScope ["numbers_here", "divisor", "number_here"] ["numbers_here"] (defScope s__law_plain) := ⟨rfl, rfl, rfl, by decide +kernel, rfl, by decide +kernel, by decide +kernel⟩
theorem bd__law_plain {K : PySem.W.Frag} : ∀ f fd, Fun K "_law_plain" "_law_plain" s__law_plain f fd → Binds K fd ["numbers_here"] [] := fun f fd F => F.binds fun _ _ _ _ _ _ us hl => match us, hl with | [_], _ => rfl
abbrev s__law_spots : Stmt := topS 63
theorem sc__law_spots : FnScope ["jar", "many", "size", "turn"] ["jar", "many", "size"] (defScope s__law_spots) := ⟨rfl, rfl, rfl, by decide +kernel, rfl, by decide +kernel, by decide +kernel⟩
theorem bd__law_spots {K : PySem.W.Frag} : ∀ f fd, Fun K "_law_spots" "_law_spots" s__law_spots f fd → Binds K fd ["jar", "many", "size"] [] := fun f fd F => F.binds fun _ _ _ _ _ _ us hl => match us, hl with | [_, _, _], _ => rfl
abbrev s__law_choices : Stmt := topS 64
theorem sc__law_choices : FnScope ["many", "some", "found", "spot"] ["many", "some"] (defScope s__law_choices) := ⟨rfl, rfl, rfl, by decide +kernel, rfl, by decide +kernel, by decide +kernel⟩
theorem bd__law_choices {K : PySem.W.Frag} : ∀ f fd, Fun K "_law_choices" "_law_choices" s__law_choices f fd → Binds K fd ["many", "some"] [] := fun f fd F => F.binds fun _ _ _ _ _ _ us hl => match us, hl with | [_, _], _ => rfl
abbrev s__law_arranged : Stmt := topS 65
theorem sc__law_arranged : FnScope ["counts_here", "found", "spot", "many", "rest", "row_here"] ["counts_here"] (defScope s__law_arranged) := ⟨rfl, rfl, rfl, by decide +kernel, rfl, by decide +kernel, by decide +kernel⟩
theorem bd__law_arranged {K : PySem.W.Frag} : ∀ f fd, Fun K "_law_arranged" "_law_arranged" s__law_arranged f fd → Binds K fd ["counts_here"] [] := fun f fd F => F.binds fun _ _ _ _ _ _ us hl => match us, hl with | [_], _ => rfl
abbrev s__law_ways : Stmt := topS 66
theorem sc__law_ways : FnScope ["counts_here", "found", "left", "many"] ["counts_here"] (defScope s__law_ways) := ⟨rfl, rfl, rfl, by decide +kernel, rfl, by decide +kernel, by decide +kernel⟩
theorem bd__law_ways {K : PySem.W.Frag} : ∀ f fd, Fun K "_law_ways" "_law_ways" s__law_ways f fd → Binds K fd ["counts_here"] [] := fun f fd F => F.binds fun _ _ _ _ _ _ us hl => match us, hl with | [_], _ => rfl
abbrev s__law_right : Stmt := topS 67
theorem sc__law_right : FnScope ["jar", "many", "size", "keeps_here", "used", "counts_here", "pot", "mixed", "is_many", "due", "spot", "row_here"] ["jar", "many", "size"] (defScope s__law_right) := ⟨rfl, rfl, rfl, by decide +kernel, rfl, by decide +kernel, by decide +kernel⟩
theorem bd__law_right {K : PySem.W.Frag} : ∀ f fd, Fun K "_law_right" "_law_right" s__law_right f fd → Binds K fd ["jar", "many", "size"] [] := fun f fd F => F.binds fun _ _ _ _ _ _ us hl => match us, hl with | [_, _, _], _ => rfl
abbrev s_law : Stmt := topS 68
theorem sc_law : FnScope ["script", "k", "jar", "turn"] ["script"] (defScope s_law) := ⟨rfl, rfl, rfl, by decide +kernel, rfl, by decide +kernel, by decide +kernel⟩
end K34
end

section
set_option linter.all false
set_option maxHeartbeats 1000000
/-! The mathematics of contents: common divisors, contents without one, top-ups. -/
namespace Ma
def gcdF (d : Nat) (ns : List Int) : Nat := ns.foldl (fun d n => Nat.gcd d n.natAbs) d
def gcdN (ns : List Int) : Nat := gcdF 0 ns
theorem dvd_gcdF {e : Nat} : ∀ (ns : List Int) (d : Nat), e ∣ gcdF d ns ↔ e ∣ d ∧ ∀ n ∈ ns, e ∣ n.natAbs
  | [], d => by simp [gcdF]
  | n :: r, d => by
    have h := dvd_gcdF (e := e) r (Nat.gcd d n.natAbs)
    show e ∣ gcdF (Nat.gcd d n.natAbs) r ↔ _
    rw [h, Nat.dvd_gcd_iff]
    constructor
    · rintro ⟨⟨a, b⟩, c⟩
      refine ⟨a, fun m hm => ?_⟩
      rcases List.mem_cons.mp hm with z | z
      · rw [z]; exact b
      · exact c m z
    · rintro ⟨a, b⟩
      exact ⟨⟨a, b n List.mem_cons_self⟩, fun m hm => b m (List.mem_cons_of_mem _ hm)⟩
theorem dvd_gcdN {e : Nat} {ns : List Int} : e ∣ gcdN ns ↔ ∀ n ∈ ns, e ∣ n.natAbs := by
  unfold gcdN
  rw [dvd_gcdF]
  exact ⟨fun h => h.2, fun h => ⟨Nat.dvd_zero e, h⟩⟩
theorem gcdF_take {ns : List Int} {i : Nat} {n : Int} (d : Nat) (h : ns[i]? = some n) : gcdF d (ns.take (i + 1)) = Nat.gcd (gcdF d (ns.take i)) n.natAbs := by
  rw [List.take_add_one, h]
  unfold gcdF
  rw [List.foldl_append]
  rfl
theorem gcdN_take {ns : List Int} {i : Nat} {n : Int} (h : ns[i]? = some n) : gcdN (ns.take (i + 1)) = Nat.gcd (gcdN (ns.take i)) n.natAbs := gcdF_take 0 h
theorem gcdN_dvd {ns : List Int} {n : Int} (h : n ∈ ns) : ((gcdN ns : Nat) : Int) ∣ n := by
  have := (dvd_gcdN (e := gcdN ns) (ns := ns)).mp (Nat.dvd_refl _) n h
  exact Int.ofNat_dvd_left.mpr this
/-- numbers from 0 on, not all 0 -/
structure Amt (ns : List Int) : Prop where
  nn : ∀ n ∈ ns, 0 ≤ n
  pos : 0 < ns.sum
structure Con (ns : List Int) : Prop where
  len : 0 < ns.length
  le8 : ns.length ≤ 8
  nn : ∀ n ∈ ns, 0 ≤ n
  g : gcdN ns = 1
theorem sum_nn : ∀ {ns : List Int}, (∀ n ∈ ns, 0 ≤ n) → 0 ≤ ns.sum
  | [], _ => by simp
  | n :: r, h => by
    rw [List.sum_cons]
    have h1 := h n List.mem_cons_self
    have h2 := sum_nn (ns := r) fun m hm => h m (List.mem_cons_of_mem _ hm)
    omega
theorem le_sum : ∀ {ns : List Int} {n : Int}, (∀ n ∈ ns, 0 ≤ n) → n ∈ ns → n ≤ ns.sum
  | [], _, _, h => by cases h
  | m :: r, n, h, hm => by
    rw [List.sum_cons]
    have h1 := h m List.mem_cons_self
    have hr : ∀ n ∈ r, 0 ≤ n := fun m hm => h m (List.mem_cons_of_mem _ hm)
    have h2 := sum_nn hr
    rcases List.mem_cons.mp hm with z | z
    · rw [z]; omega
    · have := le_sum hr z
      omega
theorem sum_zero {ns : List Int} (h : ∀ n ∈ ns, 0 ≤ n) (hs : ns.sum = 0) : ∀ n ∈ ns, n = 0 := fun n hn => by
  have := le_sum h hn
  have := h n hn
  omega
theorem gcdN_pos {ns : List Int} (h : Amt ns) : 0 < gcdN ns := by
  rcases Nat.eq_zero_or_pos (gcdN ns) with z | z
  · exfalso
    have h0 : ∀ n ∈ ns, n = 0 := fun n hn => by
      have := gcdN_dvd hn
      rw [z] at this
      exact Int.zero_dvd.mp this
    have : ns.sum = 0 := by
      clear h z
      induction ns with
      | nil => rfl
      | cons m r ih =>
        rw [List.sum_cons, h0 m List.mem_cons_self, ih fun n hn => h0 n (List.mem_cons_of_mem _ hn)]
        rfl
    have := h.pos
    omega
  · exact z
theorem Con.amt {ns : List Int} (h : Con ns) : Amt ns := by
  refine ⟨h.nn, ?_⟩
  have h1 := sum_nn h.nn
  by_cases z : ns.sum = 0
  · exfalso
    have h0 := sum_zero h.nn z
    have : 2 ∣ gcdN ns := dvd_gcdN.mpr fun n hn => by rw [h0 n hn]; exact ⟨0, rfl⟩
    rw [h.g] at this
    omega
  · omega
def plain (ns : List Int) : List Int := ns.map fun n => n / ((gcdN ns : Nat) : Int)
theorem plain_len (ns : List Int) : (plain ns).length = ns.length := List.length_map _
theorem plain_mul {ns : List Int} {n : Int} (h : n ∈ ns) : n / ((gcdN ns : Nat) : Int) * ((gcdN ns : Nat) : Int) = n := Int.ediv_mul_cancel (gcdN_dvd h)
theorem sum_div {g : Int} (hg : 0 < g) : ∀ {ns : List Int}, (∀ n ∈ ns, g ∣ n) → (ns.map fun n => n / g).sum * g = ns.sum
  | [], _ => by simp
  | n :: r, h => by
    rw [List.map_cons, List.sum_cons, List.sum_cons, Int.add_mul, sum_div hg (ns := r) fun m hm => h m (List.mem_cons_of_mem _ hm), Int.ediv_mul_cancel (h n List.mem_cons_self)]
theorem plain_sum {ns : List Int} (h : Amt ns) : (plain ns).sum * ((gcdN ns : Nat) : Int) = ns.sum := sum_div (by have := gcdN_pos h; omega) fun n hn => gcdN_dvd hn
theorem plain_con {ns : List Int} (h : Amt ns) (h1 : 0 < ns.length) (h8 : ns.length ≤ 8) : Con (plain ns) := by
  have hg := gcdN_pos h
  refine ⟨by rw [plain_len]; exact h1, by rw [plain_len]; exact h8, fun n hn => ?_, ?_⟩
  · obtain ⟨m, hm, e⟩ := List.mem_map.mp hn
    rw [← e]
    exact Int.ediv_nonneg (h.nn m hm) (Int.natCast_nonneg _)
  · have key : gcdN (plain ns) * gcdN ns ∣ gcdN ns := dvd_gcdN.mpr fun n hn => by
      have h2 : gcdN (plain ns) ∣ (n / ((gcdN ns : Nat) : Int)).natAbs := dvd_gcdN.mp (Nat.dvd_refl _) _ (List.mem_map.mpr ⟨n, hn, rfl⟩)
      have h3 := Nat.mul_dvd_mul_right h2 (gcdN ns)
      have h4 : (n / ((gcdN ns : Nat) : Int)).natAbs * gcdN ns = n.natAbs := by
        have := congrArg Int.natAbs (plain_mul hn)
        rw [Int.natAbs_mul, Int.natAbs_natCast] at this
        exact this
      rw [h4] at h3
      exact h3
    have h5 := Nat.le_of_dvd hg key
    have h6 : gcdN (plain ns) * gcdN ns ≤ 1 * gcdN ns := by omega
    have h7 := Nat.le_of_mul_le_mul_right h6 hg
    have h8 : gcdN (plain ns) ≠ 0 := fun z => by
      rw [z, Nat.zero_mul] at key
      have := Nat.eq_zero_of_zero_dvd key
      omega
    omega
theorem plain_sum_le {ns : List Int} (h : Amt ns) : (plain ns).sum ≤ ns.sum := by
  have e := plain_sum h
  have hg := gcdN_pos h
  have h1 : 0 ≤ (plain ns).sum := sum_nn fun n hn => by
    obtain ⟨m, hm, e⟩ := List.mem_map.mp hn
    rw [← e]
    exact Int.ediv_nonneg (h.nn m hm) (Int.natCast_nonneg _)
  have h2 : (plain ns).sum * 1 ≤ (plain ns).sum * ((gcdN ns : Nat) : Int) := Int.mul_le_mul_of_nonneg_left (by omega) h1
  omega
theorem plain_of_one {ns : List Int} (h : gcdN ns = 1) : plain ns = ns := by
  unfold plain
  rw [h]
  conv => rhs; rw [← List.map_id ns]
  exact List.map_congr_left fun n _ => by simp
/-! ### top-ups -/
structure Kep (a b : Int) : Prop where
  a1 : 1 ≤ a
  ab : a < b
  b100 : b ≤ 100
  g : Nat.gcd a.natAbs b.natAbs = 1
def pre (ns : List Int) (a b : Int) (c : Nat) : List Int := (ns.map fun n => n * a).set c ((ns.getD c 0) * a + (b - a) * ns.sum)
def step (ns : List Int) (a b : Int) (c : Nat) : List Int := plain (pre ns a b c)
theorem sum_map_mul (a : Int) : ∀ ns : List Int, (ns.map fun n => n * a).sum = ns.sum * a
  | [] => by simp
  | n :: r => by rw [List.map_cons, List.sum_cons, List.sum_cons, sum_map_mul a r, Int.add_mul]
theorem sum_set (v : Int) : ∀ (ns : List Int) (c : Nat), c < ns.length → (ns.set c v).sum = ns.sum - ns.getD c 0 + v
  | [], c, h => by simp at h
  | n :: r, 0, _ => by
    rw [List.set_cons_zero, List.sum_cons, List.sum_cons]
    show v + r.sum = n + r.sum - n + v
    omega
  | n :: r, c + 1, h => by
    rw [List.set_cons_succ, List.sum_cons, List.sum_cons, sum_set v r c (by simpa using h)]
    show n + (r.sum - r.getD c 0 + v) = n + r.sum - r.getD c 0 + v
    omega
theorem pre_len (ns : List Int) (a b : Int) (c : Nat) : (pre ns a b c).length = ns.length := by unfold pre; simp
theorem pre_sum {ns : List Int} {a b : Int} {c : Nat} (h : c < ns.length) : (pre ns a b c).sum = b * ns.sum := by
  unfold pre
  rw [sum_set _ _ _ (by simpa using h), sum_map_mul]
  have e : (ns.map fun n => n * a).getD c 0 = ns.getD c 0 * a := by
    rw [List.getD_eq_getElem?_getD, List.getD_eq_getElem?_getD, List.getElem?_map, List.getElem?_eq_getElem h]
    rfl
  rw [e, Int.sub_mul, Int.mul_comm ns.sum a]
  omega
theorem pre_nn {ns : List Int} {a b : Int} {c : Nat} (hn : ∀ n ∈ ns, 0 ≤ n) (ha : 0 ≤ a) (hb : a ≤ b) : ∀ n ∈ pre ns a b c, 0 ≤ n := fun n hm => by
  unfold pre at hm
  rcases List.mem_or_eq_of_mem_set hm with z | z
  · obtain ⟨m, h1, e⟩ := List.mem_map.mp z
    rw [← e]
    exact Int.mul_nonneg (hn m h1) ha
  · rw [z]
    have h1 : 0 ≤ ns.getD c 0 := by
      rw [List.getD_eq_getElem?_getD]
      cases q : ns[c]? with
      | none => exact Int.le_refl _
      | some m => exact hn m (List.mem_of_getElem? q)
    have h2 := Int.mul_nonneg h1 ha
    have h3 := Int.mul_nonneg (show 0 ≤ b - a by omega) (sum_nn hn)
    omega
theorem pre_amt {ns : List Int} {a b : Int} {c : Nat} (h : Con ns) (k : Kep a b) (hc : c < ns.length) : Amt (pre ns a b c) := by
  refine ⟨pre_nn h.nn (by have := k.a1; omega) (by have := k.ab; omega), ?_⟩
  rw [pre_sum hc]
  exact Int.mul_pos (by have := k.a1; have := k.ab; omega) h.amt.pos
theorem step_con {ns : List Int} {a b : Int} {c : Nat} (h : Con ns) (k : Kep a b) (hc : c < ns.length) : Con (step ns a b c) :=
  plain_con (pre_amt h k hc) (by rw [pre_len]; exact h.len) (by rw [pre_len]; exact h.le8)
theorem step_len (ns : List Int) (a b : Int) (c : Nat) : (step ns a b c).length = ns.length := by unfold step; rw [plain_len, pre_len]
theorem step_sum {ns : List Int} {a b : Int} {c : Nat} (h : Con ns) (k : Kep a b) (hc : c < ns.length) : (step ns a b c).sum ≤ 100 * ns.sum := by
  have h1 := plain_sum_le (pre_amt h k hc)
  rw [pre_sum hc] at h1
  have h2 : b * ns.sum ≤ 100 * ns.sum := Int.mul_le_mul_of_nonneg_right k.b100 (Int.le_of_lt h.amt.pos)
  have e : step ns a b c = plain (pre ns a b c) := rfl
  rw [e]
  omega
/-- the contents behind 0, 1 .. all top-ups -/
def walk (ns : List Int) (a b : Int) : List Nat → List (List Int)
  | [] => [ns]
  | c :: r => ns :: walk (step ns a b c) a b r
end Ma
end

section
set_option Elab.async false
set_option linter.all false
set_option maxRecDepth 100000
set_option maxHeartbeats 4000000
namespace K34
open PySem PySem.Spec PyProof.Rows L2 GxR Gx Ma
abbrev LI (H : Hp) (a : Addr) (ns : List Int) : Prop := H a = some (.lst (ns.map V.int))
structure Bl (mg : Str → Option Value) : Prop where
  abs : mg "abs" = none
  all : mg "all" = none
  any : mg "any" = none
  bool : mg "bool" = none
  enumerate : mg "enumerate" = none
  int : mg "int" = none
  isinstance : mg "isinstance" = none
  len : mg "len" = none
  list : mg "list" = none
  max : mg "max" = none
  min : mg "min" = none
  range : mg "range" = none
  sorted : mg "sorted" = none
  sum : mg "sum" = none
  tuple : mg "tuple" = none
  type : mg "type" = none
  zip : mg "zip" = none
  MOST_LIQUIDS : ∃ t, mg "MOST_LIQUIDS" = some (.int 8 t)
  MOST_TOP_UPS : ∃ t, mg "MOST_TOP_UPS" = some (.int 60 t)
  MOST_PARTS : ∃ t, mg "MOST_PARTS" = some (.int 100 t)
  MOST_UNLIKE_KEEPS : ∃ t, mg "MOST_UNLIKE_KEEPS" = some (.int 8 t)
  MOST_TOLD : ∃ t, mg "MOST_TOLD" = some (.int 500 t)
  gcd : mg "gcd" = some (.builtin "math.gcd")
theorem same_new {H : Hp} {p : Addr} {o : HO} (h : H p = none) : Same H (upd H p o) := fun b x e => by
  rw [upd_ne (ne_of_none e h)]
  exact e
section
variable {P : Program} {w : World} {K : PySem.W.Frag} {mg : Str → Option Value} {base : Heap}

def sp_is_integer : Sp := fun vs H Q _ => ∃ i, vs = [V.int i] ∧ Q (.bl true) H

theorem ok_is_integer {f : Addr} {fd : FuncData}  (F : Fun K "is_integer" "is_integer" s_is_integer f fd) (B : Bl mg)  : FnOk P w K mg base CX0 1 f fd ["thing"] (sp_is_integer) := by
  refine F.ok sc_is_integer (fun vs H Q E h => ?_) (fun cdv A outer s H vs Q E hr h => ?_)
  · obtain ⟨i, rfl, _⟩ := h; rfl
  · obtain ⟨i, rfl, q⟩ := h
    have nd := sc_is_integer.nd
    refine ⟨_, (pss_one (ps_ret (pe_and (pe_callB call_isi (by rfl) B.isinstance (by decide +kernel) (pa_cons (pv 0) (pa_cons (pe_bltn (v := .ty "int") (by rfl) B.int (by decide +kernel) rfl) pa_nil))) (pe_one (pe_not (pe_callB call_isi (by rfl) B.isinstance (by decide +kernel) (pa_cons (pv 0) (pa_cons (pe_bltn (v := .ty "bool") (by rfl) B.bool (by decide +kernel) rfl) pa_nil)))))))), ?_⟩
    refine ⟨.int i, rfl, .int i, .ty "int", .type "int", .type "int", true, rfl, .ty _, .base (.int i), kit_ty (by decide +kernel), true, rfl, iteT ?_⟩
    exact ⟨.int i, rfl, .int i, .ty "bool", .type "int", .type "bool", false, rfl, .ty _, .base (.int i), kit_ty (by decide +kernel), false, rfl, q⟩

def sp_is_within : Sp := fun vs H Q _ => ∃ i lo hi, vs = [V.int i, V.int lo, V.int hi] ∧ lo ≤ i ∧ i ≤ hi ∧ Q (.bl true) H

theorem ok_is_within {f : Addr} {fd : FuncData}  (F : Fun K "is_within" "is_within" s_is_within f fd) (B : Bl mg) (C_is_integer : Cal P w K mg base 1 "is_integer" ["thing"] sp_is_integer) : FnOk P w K mg base CX0 2 f fd ["thing", "least", "most"] (sp_is_within) := by
  refine F.ok sc_is_within (fun vs H Q E h => ?_) (fun cdv A outer s H vs Q E hr h => ?_)
  · obtain ⟨i, lo, hi, rfl, _⟩ := h; rfl
  · obtain ⟨i, lo, hi, rfl, h1, h2, q⟩ := h
    have nd := sc_is_within.nd
    refine ⟨_, (pss_one (ps_ret (pe_and (pe_cal C_is_integer (hr.mono (by decide)) (pa_cons (pv 0) pa_nil)) (pe_one (pe_chain op_le op_le (pv 1) (pv 0) (pv 2)))))), ?_⟩
    refine ⟨.int i, rfl, i, rfl, true, rfl, iteT ?_⟩
    refine ⟨.int lo, rfl, .int i, rfl, lo, i, rfl, rfl, _, rfl, ?_⟩
    rw [decide_eq_true h1]
    refine iteT ⟨.int hi, rfl, i, hi, rfl, rfl, ?_⟩
    show Q (.bl (decide (i ≤ hi))) H
    rw [decide_eq_true h2]
    exact q

end
end K34
end

section
set_option Elab.async false
set_option linter.all false
set_option maxRecDepth 100000
set_option maxHeartbeats 4000000
namespace K34
open PySem PySem.Spec PyProof.Rows L2 GxR Gx Ma
section
variable {P : Program} {w : World} {K : PySem.W.Frag} {mg : Str → Option Value} {base : Heap}

def sp_is_pair : Sp := fun vs H Q _ => ∃ t a b, vs = [V.ref t] ∧ H t = some (.tup [.int a, .int b]) ∧ Nat.gcd a.natAbs b.natAbs = 1 ∧ Q (.bl true) H
def sp_is_kept : Sp := fun vs H Q _ => ∃ t a b, vs = [V.ref t] ∧ H t = some (.tup [.int a, .int b]) ∧ Kep a b ∧ Q (.bl true) H

theorem ok_is_pair_in_lowest_terms {f : Addr} {fd : FuncData}  (F : Fun K "is_pair_in_lowest_terms" "is_pair_in_lowest_terms" s_is_pair_in_lowest_terms f fd) (B : Bl mg) (C_is_integer : Cal P w K mg base 1 "is_integer" ["thing"] sp_is_integer) : FnOk P w K mg base CX0 2 f fd ["thing"] (sp_is_pair) := by
  refine F.ok sc_is_pair_in_lowest_terms (fun vs H Q E h => ?_) (fun cdv A outer s H vs Q E hr h => ?_)
  · obtain ⟨t, a, b, rfl, _⟩ := h; rfl
  · obtain ⟨t, a, b, rfl, ht, hg, q⟩ := h
    have nd := sc_is_pair_in_lowest_terms.nd
    refine ⟨_, (pss_cons (ps_if (PW.pt (pw_or (pt_cmpR op_neTy (pe_typeOf (by rfl) B.type (pv 0)) (pe_bltn (v := .ty "tuple") (by rfl) B.tuple (by decide +kernel) rfl) (nomark _)) (pw_or1 (pt_cmpR op_ne (pe_callB call_len_seq (by rfl) B.len PySem.boot_len (pa_cons (pv 0) pa_nil)) pe_int (nomark _)))))
      (pss_one (ps_ret pe_bl)) pss_nil)
      (pss_cons (ps_asg (pv 0) (pg_tup (by rfl) (pgs_cons (pg_name (i := 1) nd rfl (Or.inl rfl)) (pgs_cons (pg_name (i := 2) nd rfl (Or.inl rfl)) pgs_nil))))
      (pss_one (ps_ret (pe_and (pe_cal C_is_integer (hr.mono (by decide)) (pa_cons (pv 1) pa_nil)) (pe_and (pe_cal C_is_integer (hr.mono (by decide)) (pa_cons (pv 2) pa_nil)) (pe_one (pe_cmpR op_eq (pe_callBfun cr_gcd (by rfl) B.gcd (pa_cons (pv 1) (pa_cons (pv 2) pa_nil))) pe_int (nomark _))))))))), ?_⟩
    refine ⟨.ref t, rfl, "tuple", by simp only [zTyV, ht], "tuple", rfl, rfl, TypeEq.meta_tuple, false, rfl, iteF ?_⟩
    refine ⟨.ref t, rfl, t, _, rfl, .inr (SqT.of ht), rfl, _, rfl, iteNS rfl ?_⟩
    refine ⟨.ref t, rfl, t, [_, _], rfl, SqT.of ht, rfl, _, _, rfl, _, _, rfl, rfl, ?_⟩
    refine ⟨.int a, rfl, a, rfl, true, rfl, iteT ?_⟩
    refine ⟨.int b, rfl, b, rfl, true, rfl, iteT ?_⟩
    refine ⟨.int a, rfl, .int b, rfl, a, b, rfl, rfl, ?_⟩
    show Q (.bl (decide (V.int ((Nat.gcd a.natAbs b.natAbs : Nat) : Int) = V.int 1))) H
    rw [hg]
    exact q

theorem ok_is_kept {f : Addr} {fd : FuncData}  (F : Fun K "is_kept" "is_kept" s_is_kept f fd) (B : Bl mg) (C_is_pair_in_lowest_terms : Cal P w K mg base 2 "is_pair_in_lowest_terms" ["thing"] sp_is_pair) : FnOk P w K mg base CX0 3 f fd ["thing"] (sp_is_kept) := by
  refine F.ok sc_is_kept (fun vs H Q E h => ?_) (fun cdv A outer s H vs Q E hr h => ?_)
  · obtain ⟨t, a, b, rfl, _⟩ := h; rfl
  · obtain ⟨t, a, b, rfl, ht, k, q⟩ := h
    have nd := sc_is_kept.nd
    refine ⟨_, (pss_one (ps_ret (pe_and (pe_cal C_is_pair_in_lowest_terms (hr.mono (by decide)) (pa_cons (pv 0) pa_nil)) (pe_one (pe_chain3 op_le op_lt op_le pe_int (pe_ix ix_tup (pv 0) pe_int (fun _ _ => rfl)) (pe_ix ix_tup (pv 0) pe_int (fun _ _ => rfl)) (pe_gi B.MOST_PARTS)))))), ?_⟩
    refine ⟨.ref t, rfl, t, a, b, rfl, ht, k.g, true, rfl, iteT ?_⟩
    refine ⟨.ref t, rfl, t, _, 0, .int a, rfl, rfl, SqT.of ht, rfl, 1, a, rfl, rfl, _, rfl, ?_⟩
    rw [decide_eq_true k.a1]
    refine iteT ⟨.ref t, rfl, t, _, 1, .int b, rfl, rfl, SqT.of ht, rfl, a, b, rfl, rfl, _, rfl, ?_⟩
    rw [decide_eq_true k.ab]
    refine iteT ⟨b, 100, rfl, rfl, ?_⟩
    show Q (.bl (decide (b ≤ 100))) H
    rw [decide_eq_true k.b100]
    exact q

def sp_is_row (T : Addr) : Sp := fun vs H Q _ => ∃ l cs k, vs = [V.ref l, V.int k] ∧ LI H l cs ∧ cs.length ≤ 60 ∧ (∀ c ∈ cs, 0 ≤ c ∧ c ≤ k - 1) ∧ H T = some (TabO T) ∧ Q (.bl true) H
theorem map_get {ns : List Int} {i : Nat} {y : V} (h : (ns.map V.int)[i]? = some y) : ∃ n, ns[i]? = some n ∧ y = .int n := by
  rw [List.getElem?_map] at h
  cases e : ns[i]? with
  | none => rw [e] at h; cases h
  | some n => rw [e] at h; exact ⟨n, rfl, (Option.some.inj h).symm⟩
theorem get_map {ns : List Int} {i : Nat} {n : Int} (h : ns[i]? = some n) : (ns.map V.int)[i]? = some (.int n) := by
  rw [List.getElem?_map, h]; rfl
/-- all(..) over a list that stands still -/
theorem all_list {te : TE} {caps : L2.St} {Q : VK} {a : Addr} {xs : List V} {H : Hp} (hL : H a = some (.lst xs)) (h : ∀ (i : Nat) (y : V), xs[i]? = some y → ∀ R : VK, R (.bl true) H → te (some y :: caps) H R) (q : Q (.bl true) H) : rAllG te caps Q (Itl K a) H := by
  refine ⟨xs.length, fun _ H' => H' = H, rfl, fun H' e => ?_, fun i H' hi e => ?_⟩
  · subst e
    exact ⟨⟨xs, SqL.of hL, Nat.le_refl _⟩, q⟩
  · subst e
    refine ⟨⟨xs, xs[i], SqL.of hL, List.getElem?_eq_getElem hi⟩, fun y H2 hy => ?_⟩
    obtain ⟨e2, hy⟩ := hy
    subst e2
    exact h i y (hy xs (SqL.of hL)) _ ⟨true, rfl, iteT rfl⟩

def sp_is_list_of_liquids (T : Addr) : Sp := fun vs H Q _ => ∃ l cs k, vs = [V.ref l, V.int k] ∧ LI H l cs ∧ (∀ c ∈ cs, 0 ≤ c ∧ c ≤ k - 1) ∧ H T = some (TabO T) ∧ Q (.bl true) H
theorem ok_is_list_of_liquids {f : Addr} {fd : FuncData} {c : Addr} (F : FunC K "is_list_of_liquids" "is_list_of_liquids" s_is_list_of_liquids f fd c) (B : Bl mg) (C_is_within : Cal P w K mg base 2 "is_within" ["thing", "least", "most"] sp_is_within) {T : Addr} (TB_is_list_of_liquids : TabB base mg c T) : FnOk P w K mg base CX0 6 f fd ["thing", "liquids"] (sp_is_list_of_liquids T) := by
  refine F.ok sc_is_list_of_liquids (fun vs H Q E h => ?_) (fun A outer s H vs Q E hr h => ?_)
  · obtain ⟨l, cs, k, rfl, _⟩ := h; rfl
  · obtain ⟨l, cs, k, rfl, hl, hc, hT, q⟩ := h
    have hcode : (cxOf CX0 P w K mg base ["thing", "liquids"] "is_list_of_liquids" (defScope s_is_list_of_liquids) f (.ref c) A outer s H E).nox.env.code = .ref c := rfl
    have nd := sc_is_list_of_liquids.nd
    refine ⟨_, (pss_cons (ps_if (pt_cmpR op_neTy (pe_typeOf (by rfl) B.type (pv 0)) (pe_bltn (v := .ty "list") (by rfl) B.list (by decide +kernel) rfl) (nomark _))
      (pss_one (ps_ret pe_bl)) pss_nil)
      (pss_one (ps_ret (pe_allG (ns := [("liquids", 1)]) (k' := 2) (hr.mono (by decide)) (by rfl) B.all TB_is_list_of_liquids hcode (gok_by (N := ["thing", "liquids"]) (sc := defScope s_is_list_of_liquids) (by decide +kernel)) (by decide) (pi_list (pv 0)) (fun s H C code fp A hq => (pe_cal C_is_within (hq.mono (by decide)) (pa_cons (pv 0) (pa_cons pe_int (pa_cons (pe_op op_sub (pv 1) pe_int) pa_nil))))))))), ?_⟩
    refine ⟨.ref l, rfl, "list", by simp only [zTyV, hl], "list", rfl, rfl, TypeEq.meta_list, false, rfl, iteF ?_⟩
    refine ⟨.ref l, rfl, l, rfl, ⟨_, SqL.of hl⟩, hT, all_list hl (fun i y hy R r => ?_) q⟩
    obtain ⟨n, hn, rfl⟩ := map_get hy
    obtain ⟨h1, h2⟩ := hc n (List.mem_of_getElem? hn)
    exact ⟨.int n, rfl, .int k, rfl, k, 1, rfl, rfl, n, 0, k - 1, rfl, h1, h2, r⟩

theorem ok_is_row {f : Addr} {fd : FuncData}  (F : Fun K "is_row" "is_row" s_is_row f fd) (B : Bl mg) {T : Addr} (C_is_list_of_liquids : Cal P w K mg base 6 "is_list_of_liquids" ["thing", "liquids"] (sp_is_list_of_liquids T)) : FnOk P w K mg base CX0 7 f fd ["thing", "liquids"] (sp_is_row T) := by
  refine F.ok sc_is_row (fun vs H Q E h => ?_) (fun cdv A outer s H vs Q E hr h => ?_)
  · obtain ⟨l, cs, k, rfl, _⟩ := h; rfl
  · obtain ⟨l, cs, k, rfl, hl, h60, hc, hT, q⟩ := h
    have nd := sc_is_row.nd
    refine ⟨_, (pss_one (ps_ret (pe_and (pe_cal C_is_list_of_liquids (hr.mono (by decide)) (pa_cons (pv 0) (pa_cons (pv 1) pa_nil))) (pe_one (pe_cmpR op_le (pe_callB call_len_seq (by rfl) B.len PySem.boot_len (pa_cons (pv 0) pa_nil)) (pe_gi B.MOST_TOP_UPS) (nomark _)))))), ?_⟩
    refine ⟨.ref l, rfl, .int k, rfl, l, cs, k, rfl, hl, hc, hT, true, rfl, iteT ?_⟩
    refine ⟨.ref l, rfl, l, _, rfl, .inl (SqL.of hl), _, _, rfl, rfl, ?_⟩
    show Q (.bl (decide (((cs.map V.int).length : Int) ≤ 60))) H
    rw [decide_eq_true (by rw [List.length_map]; omega)]
    exact q

def sp_check_row (T : Addr) : Sp := fun vs H Q _ => ∃ l cs k, vs = [V.ref l, V.int k] ∧ LI H l cs ∧ cs.length ≤ 60 ∧ (∀ c ∈ cs, 0 ≤ c ∧ c ≤ k - 1) ∧ H T = some (TabO T) ∧ Q .non H
def sp_check_liquid : Sp := fun vs H Q _ => ∃ i k, vs = [V.int i, V.int k] ∧ 0 ≤ i ∧ i ≤ k - 1 ∧ Q .non H
def sp_check_number : Sp := fun vs H Q _ => ∃ i lo hi, vs = [V.int i, V.int lo, V.int hi] ∧ lo ≤ i ∧ i ≤ hi ∧ Q .non H


theorem ok_check_row {f : Addr} {fd : FuncData}  (F : Fun K "check_row" "check_row" s_check_row f fd) (B : Bl mg) {T : Addr} (C_is_row : Cal P w K mg base 7 "is_row" ["thing", "liquids"] (sp_is_row T)) : FnOk P w K mg base CX0 8 f fd ["row", "liquids"] (sp_check_row T) := by
  refine F.ok sc_check_row (fun vs H Q E h => ?_) (fun cdv A outer s H vs Q E hr h => ?_)
  · obtain ⟨l, cs, k, rfl, _⟩ := h; rfl
  · obtain ⟨l, cs, k, rfl, hl, h60, hc, hT, q⟩ := h
    have nd := sc_check_row.nd
    refine ⟨_, (pss_one (ps_if (pt_not (pt_val (pe_cal C_is_row (hr.mono (by decide)) (pa_cons (pv 0) (pa_cons (pv 1) pa_nil)))))
      (pss_one ps_never) pss_nil)), ?_⟩
    exact ⟨.ref l, rfl, .int k, rfl, l, cs, k, rfl, hl, h60, hc, hT, true, rfl, iteF q⟩

theorem ok_check_liquid {f : Addr} {fd : FuncData}  (F : Fun K "check_liquid" "check_liquid" s_check_liquid f fd) (B : Bl mg) (C_is_within : Cal P w K mg base 2 "is_within" ["thing", "least", "most"] sp_is_within) : FnOk P w K mg base CX0 3 f fd ["liquid", "liquids"] (sp_check_liquid) := by
  refine F.ok sc_check_liquid (fun vs H Q E h => ?_) (fun cdv A outer s H vs Q E hr h => ?_)
  · obtain ⟨i, k, rfl, _⟩ := h; rfl
  · obtain ⟨i, k, rfl, h1, h2, q⟩ := h
    have nd := sc_check_liquid.nd
    refine ⟨_, (pss_one (ps_if (pt_not (pt_val (pe_cal C_is_within (hr.mono (by decide)) (pa_cons (pv 0) (pa_cons pe_int (pa_cons (pe_op op_sub (pv 1) pe_int) pa_nil))))))
      (pss_one ps_never) pss_nil)), ?_⟩
    exact ⟨.int i, rfl, .int k, rfl, k, 1, rfl, rfl, i, 0, k - 1, rfl, h1, h2, true, rfl, iteF q⟩

theorem ok_check_number {f : Addr} {fd : FuncData}  (F : Fun K "check_number" "check_number" s_check_number f fd) (B : Bl mg) (C_is_within : Cal P w K mg base 2 "is_within" ["thing", "least", "most"] sp_is_within) : FnOk P w K mg base CX0 3 f fd ["number", "least", "most"] (sp_check_number) := by
  refine F.ok sc_check_number (fun vs H Q E h => ?_) (fun cdv A outer s H vs Q E hr h => ?_)
  · obtain ⟨i, lo, hi, rfl, _⟩ := h; rfl
  · obtain ⟨i, lo, hi, rfl, h1, h2, q⟩ := h
    have nd := sc_check_number.nd
    refine ⟨_, (pss_one (ps_if (pt_not (pt_val (pe_cal C_is_within (hr.mono (by decide)) (pa_cons (pv 0) (pa_cons (pv 1) (pa_cons (pv 2) pa_nil))))))
      (pss_one ps_never) pss_nil)), ?_⟩
    exact ⟨.int i, rfl, .int lo, rfl, .int hi, rfl, i, lo, hi, rfl, h1, h2, true, rfl, iteF q⟩

def sp_common_divisor : Sp := fun vs H Q _ => ∃ l ns, vs = [V.ref l] ∧ LI H l ns ∧ Q (.int ((gcdN ns : Nat) : Int)) H

theorem ok_common_divisor {f : Addr} {fd : FuncData}  (F : Fun K "common_divisor" "common_divisor" s_common_divisor f fd) (B : Bl mg)  : FnOk P w K mg base CX0 1 f fd ["numbers"] (sp_common_divisor) := by
  refine F.ok sc_common_divisor (fun vs H Q E h => ?_) (fun cdv A outer s H vs Q E hr h => ?_)
  · obtain ⟨l, ns, rfl, _⟩ := h; rfl
  · obtain ⟨l, ns, rfl, hl, q⟩ := h
    have nd := sc_common_divisor.nd
    refine ⟨_, (pss_cons (ps_set (i := 1) nd rfl (Or.inl rfl) pe_int)
      (pss_cons (ps_for PassesOwn.never rfl (pi_list (pv 0)) (pg_name (i := 2) nd rfl (Or.inl rfl)) (pss_one (ps_set (i := 1) nd rfl (Or.inl rfl) (pe_callBfun cr_gcd (by rfl) B.gcd (pa_cons (pv 1) (pa_cons (pv 2) pa_nil))))))
      (pss_one (ps_ret (pv 1))))), ?_⟩
    refine ⟨.ref l, rfl, l, rfl, ⟨_, SqL.of hl⟩, for_list (xs := ns.map V.int) (fun i σ H' => ∃ y, σ = [some (.ref l), some (.int ((gcdN (ns.take i) : Nat) : Int)), y] ∧ H' = H) ⟨none, rfl, rfl⟩ (fun i σ H' _ ⟨_, _, e⟩ => by rw [e]; exact SqL.of hl) (fun i x σ H' hx ⟨y, e1, e2⟩ => ?_) (fun σ H' ⟨y, e1, e2⟩ => ?_)⟩
    · subst e1 e2
      obtain ⟨n, hn, rfl⟩ := map_get hx
      refine ⟨.int ((gcdN (ns.take i) : Nat) : Int), rfl, .int n, rfl, _, n, rfl, some (.int n), ?_, rfl⟩
      rw [gcdN_take hn]
      rfl
    · subst e1 e2
      rw [List.length_map, List.take_length]
      exact ⟨_, rfl, q⟩

def sp_without_divisor : Sp := fun vs H Q _ => ∃ l ns, vs = [V.ref l] ∧ LI H l ns ∧ Amt ns ∧ ns.length ≤ 100 ∧ gcdN ns < 2 ^ 8000 ∧ ∀ p H', Same H H' → H p = none → LI H' p (plain ns) → Q (.ref p) H'

theorem ok_without_divisor {f : Addr} {fd : FuncData}  (F : Fun K "without_divisor" "without_divisor" s_without_divisor f fd) (B : Bl mg) (C_common_divisor : Cal P w K mg base 1 "common_divisor" ["numbers"] sp_common_divisor) : FnOk P w K mg base CX0 2 f fd ["numbers"] (sp_without_divisor) := by
  refine F.ok sc_without_divisor (fun vs H Q E h => ?_) (fun cdv A outer s H vs Q E hr h => ?_)
  · obtain ⟨l, ns, rfl, _⟩ := h; rfl
  · obtain ⟨l, ns, rfl, hl, ha, hz, hg, q⟩ := h
    have nd := sc_without_divisor.nd
    refine ⟨_, (pss_cons (ps_set (i := 1) nd rfl (Or.inr rfl) (pe_cal C_common_divisor (hr.mono (by decide)) (pa_cons (pv 0) pa_nil)))
      (pss_one (ps_ret (pe_lc (own := [("number", 2)]) (g := gName 2) rfl nd (pi_list (pv 0)) (blkOk_by (own := [("number", 2)]) (N := ["numbers", "divisor", "number"]) (sc := defScope s_without_divisor) (by decide +kernel)) (fun _ _ _ _ _ => (pg_name (i := 2) nd rfl (Or.inl rfl))) (fun _ _ _ _ _ => pts_nil) (fun _ _ _ _ _ => (pe_op op_fdivW (pv 2) (pv 1))))))), ?_⟩
    refine ⟨.ref l, rfl, l, ns, rfl, hl, ?_⟩
    refine ⟨.ref l, rfl, l, rfl, ⟨_, SqL.of hl⟩, fun D hD => lc_list (xs := ns.map V.int) (fun i H' => Same H H' ∧ H' D = some (.lst (((plain ns).take i).map V.int))) ⟨same_new hD, upd_same⟩ (fun i H' _ ⟨e, _⟩ => SqL.of (e l _ hl)) (fun i x H' hx ⟨e1, e2⟩ => ?_) (fun H' ⟨e1, e2⟩ => ?_)⟩
    · obtain ⟨n, hn, rfl⟩ := map_get hx
      have hpos := gcdN_pos ha
      refine ⟨rfl, .int n, rfl, .int ((gcdN ns : Nat) : Int), rfl, n, _, rfl, rfl, wide_div (by omega) (b := 8000) (by rw [Int.natAbs_natCast]; exact hg) (by decide) (by decide), _, e2, ?_, fun b x hb => ?_, ?_⟩
      · rw [List.length_map, List.length_take]
        have := plain_len ns
        show min i (plain ns).length < 16777216
        omega
      · rw [upd_ne (ne_of_none hb hD)]
        exact e1 b x hb
      · have hp : (plain ns)[i]? = some (n / ((gcdN ns : Nat) : Int)) := by
          unfold Ma.plain
          rw [List.getElem?_map, hn]
          rfl
        rw [upd_same, List.take_add_one, hp, List.map_append]
        rfl
    · rw [List.length_map, ← plain_len ns, List.take_length] at e2
      exact q D H' e1 hD e2

end
end K34
end

section
set_option Elab.async false
set_option linter.all false
set_option maxRecDepth 100000
set_option maxHeartbeats 4000000
namespace K34
open PySem PySem.Spec PyProof.Rows L2 GxR Gx Ma
section
variable {P : Program} {w : World} {K : PySem.W.Frag} {mg : Str → Option Value} {base : Heap}

def sp_is_list_of_amounts (T : Addr) : Sp := fun vs H Q _ => ∃ l ns, vs = [V.ref l] ∧ LI H l ns ∧ 0 < ns.length ∧ ns.length ≤ 8 ∧ (∀ n ∈ ns, 0 ≤ n) ∧ H T = some (TabO T) ∧ Q (.bl true) H

theorem ok_is_list_of_amounts {f : Addr} {fd : FuncData} {c : Addr} (F : FunC K "is_list_of_amounts" "is_list_of_amounts" s_is_list_of_amounts f fd c) (B : Bl mg) (C_is_integer : Cal P w K mg base 1 "is_integer" ["thing"] sp_is_integer) {T : Addr} (TB_is_list_of_amounts : TabB base mg c T) : FnOk P w K mg base CX0 5 f fd ["thing"] (sp_is_list_of_amounts T) := by
  refine F.ok sc_is_list_of_amounts (fun vs H Q E h => ?_) (fun A outer s H vs Q E hr h => ?_)
  · obtain ⟨l, ns, rfl, _⟩ := h; rfl
  · obtain ⟨l, ns, rfl, hl, h1, h8, hn, hT, q⟩ := h
    have hcode : (cxOf CX0 P w K mg base ["thing"] "is_list_of_amounts" (defScope s_is_list_of_amounts) f (.ref c) A outer s H E).nox.env.code = .ref c := rfl
    have nd := sc_is_list_of_amounts.nd
    refine ⟨_, (pss_cons (ps_if (PW.pt (pw_or (pt_cmpR op_neTy (pe_typeOf (by rfl) B.type (pv 0)) (pe_bltn (v := .ty "list") (by rfl) B.list (by decide +kernel) rfl) (nomark _)) (pw_or1 (pt_not (pt_chain op_le op_le pe_int (pe_callB call_len_seq (by rfl) B.len PySem.boot_len (pa_cons (pv 0) pa_nil)) (pe_gi B.MOST_LIQUIDS))))))
      (pss_one (ps_ret pe_bl)) pss_nil)
      (pss_one (ps_ret (pe_allG (ns := []) (k' := 1) (hr.mono (by decide)) (by rfl) B.all TB_is_list_of_amounts hcode (gok_by (N := ["thing"]) (sc := defScope s_is_list_of_amounts) (by decide +kernel)) (by decide) (pi_list (pv 0)) (fun s H C code fp A hq => (pe_and (pe_cal C_is_integer (hq.mono (by decide)) (pa_cons (pv 0) pa_nil)) (pe_one (pe_cmpR op_ge (pv 0) pe_int (nomark _))))))))), ?_⟩
    refine ⟨.ref l, rfl, "list", by simp only [zTyV, hl], "list", rfl, rfl, TypeEq.meta_list, false, rfl, iteF ?_⟩
    refine ⟨.ref l, rfl, l, _, rfl, .inl (SqL.of hl), 1, _, rfl, rfl, _, rfl, ?_⟩
    rw [decide_eq_true (by rw [List.length_map]; omega)]
    refine iteT ⟨_, 8, rfl, rfl, _, rfl, ?_⟩
    rw [decide_eq_true (by rw [List.length_map]; omega)]
    refine iteF ⟨.ref l, rfl, l, rfl, ⟨_, SqL.of hl⟩, hT, all_list hl (fun i y hy R r => ?_) q⟩
    obtain ⟨n, e, rfl⟩ := map_get hy
    refine ⟨.int n, rfl, n, rfl, true, rfl, iteT ⟨.int n, rfl, n, 0, rfl, rfl, ?_⟩⟩
    show R (.bl (decide (0 ≤ n))) H
    rw [decide_eq_true (hn n (List.mem_of_getElem? e))]
    exact r

def sp_is_content (T : Addr) : Sp := fun vs H Q _ => ∃ l ns, vs = [V.ref l] ∧ LI H l ns ∧ Con ns ∧ H T = some (TabO T) ∧ Q (.bl true) H
def sp_check_content (T : Addr) : Sp := fun vs H Q _ => ∃ l ns, vs = [V.ref l] ∧ LI H l ns ∧ Con ns ∧ H T = some (TabO T) ∧ Q .non H

theorem ok_is_content {f : Addr} {fd : FuncData}  (F : Fun K "is_content" "is_content" s_is_content f fd) (B : Bl mg) {T : Addr} (C_is_list_of_amounts : Cal P w K mg base 5 "is_list_of_amounts" ["thing"] (sp_is_list_of_amounts T)) (C_common_divisor : Cal P w K mg base 1 "common_divisor" ["numbers"] sp_common_divisor) : FnOk P w K mg base CX0 6 f fd ["thing"] (sp_is_content T) := by
  refine F.ok sc_is_content (fun vs H Q E h => ?_) (fun cdv A outer s H vs Q E hr h => ?_)
  · obtain ⟨l, ns, rfl, _⟩ := h; rfl
  · obtain ⟨l, ns, rfl, hl, hc, hT, q⟩ := h
    have nd := sc_is_content.nd
    refine ⟨_, (pss_one (ps_ret (pe_and (pe_cal C_is_list_of_amounts (hr.mono (by decide)) (pa_cons (pv 0) pa_nil)) (pe_one (pe_cmpR op_eq (pe_cal C_common_divisor (hr.mono (by decide)) (pa_cons (pv 0) pa_nil)) pe_int (nomark _)))))), ?_⟩
    refine ⟨.ref l, rfl, l, ns, rfl, hl, hc.len, hc.le8, hc.nn, hT, true, rfl, iteT ⟨.ref l, rfl, l, ns, rfl, hl, rfl, ?_⟩⟩
    rw [hc.g]
    exact q

theorem ok_check_content {f : Addr} {fd : FuncData}  (F : Fun K "check_content" "check_content" s_check_content f fd) (B : Bl mg) {T : Addr} (C_is_content : Cal P w K mg base 6 "is_content" ["thing"] (sp_is_content T)) : FnOk P w K mg base CX0 7 f fd ["content"] (sp_check_content T) := by
  refine F.ok sc_check_content (fun vs H Q E h => ?_) (fun cdv A outer s H vs Q E hr h => ?_)
  · obtain ⟨l, ns, rfl, _⟩ := h; rfl
  · obtain ⟨l, ns, rfl, hl, hc, hT, q⟩ := h
    have nd := sc_check_content.nd
    refine ⟨_, (pss_one (ps_if (pt_not (pt_val (pe_cal C_is_content (hr.mono (by decide)) (pa_cons (pv 0) pa_nil))))
      (pss_one ps_never) pss_nil)), ?_⟩
    exact ⟨.ref l, rfl, l, ns, rfl, hl, hc, hT, true, rfl, iteF q⟩

/-- the fraction of two numbers without a common divisor -/
def fr (a b : Int) : Int × Int := (a / ((Nat.gcd a.natAbs b.natAbs : Nat) : Int), b / ((Nat.gcd a.natAbs b.natAbs : Nat) : Int))
def pur (k i : Nat) : List Int := (List.replicate k 0).set i 1
theorem rep_flat (v : V) : ∀ k : Nat, (List.replicate k [v]).flatten = List.replicate k v
  | 0 => rfl
  | k + 1 => by rw [List.replicate_succ, List.flatten_cons, rep_flat v k]; rfl
theorem ixN_of {n j : Nat} (h : j < n) : ixN n (j : Int) = some j := by
  unfold ixN
  rw [if_pos (by omega), if_pos (by omega), Int.toNat_natCast]
def sp_pure_content : Sp := fun vs H Q _ => ∃ k i : Nat, vs = [V.int k, V.int i] ∧ 1 ≤ k ∧ k ≤ 8 ∧ i < k ∧ ∀ p H', Same H H' → H p = none → LI H' p (pur k i) → Q (.ref p) H'

theorem ok_pure_content {f : Addr} {fd : FuncData}  (F : Fun K "pure_content" "pure_content" s_pure_content f fd) (B : Bl mg) (C_check_number : Cal P w K mg base 3 "check_number" ["number", "least", "most"] sp_check_number) (C_check_liquid : Cal P w K mg base 3 "check_liquid" ["liquid", "liquids"] sp_check_liquid) : FnOk P w K mg base CX0 4 f fd ["count", "liquid"] (sp_pure_content) := by
  refine F.ok sc_pure_content (fun vs H Q E h => ?_) (fun cdv A outer s H vs Q E hr h => ?_)
  · obtain ⟨k, i, rfl, _⟩ := h; rfl
  · obtain ⟨k, i, rfl, h1, h8, hi, q⟩ := h
    have nd := sc_pure_content.nd
    refine ⟨_, (pss_cons (ps_expr (pe_cal C_check_number (hr.mono (by decide)) (pa_cons (pv 0) (pa_cons pe_int (pa_cons (pe_gi B.MOST_LIQUIDS) pa_nil)))))
      (pss_cons (ps_expr (pe_cal C_check_liquid (hr.mono (by decide)) (pa_cons (pv 1) (pa_cons (pv 0) pa_nil))))
      (pss_cons (ps_set (i := 2) nd rfl (Or.inl rfl) (pe_op op_rep (pe_lst (pa_cons pe_int pa_nil)) (pv 0)))
      (pss_cons (ps_asg pe_int (pg_sub (pv 2) (pv 1) set_list))
      (pss_one (ps_ret (pv 2))))))), ?_⟩
    refine ⟨.int k, rfl, k, 1, 8, rfl, by omega, by omega, ?_⟩
    refine ⟨.int i, rfl, .int k, rfl, i, k, rfl, by omega, by omega, ?_⟩
    refine ⟨by show 1 ≤ 16777216; decide, fun o no => ?_⟩
    refine ⟨.int k, rfl, o, k, _, rfl, rfl, upd_same, by omega, by omega, by show 1 * (k : Int).toNat ≤ 16777216; omega, fun p hp => ?_⟩
    have e : (List.replicate (k : Int).toNat [V.int 0]).flatten = (List.replicate k (0 : Int)).map V.int := by
      rw [Int.toNat_natCast, List.map_replicate, rep_flat]
    rw [e]
    refine ⟨.ref p, rfl, .int i, rfl, p, _, i, i, rfl, rfl, upd_same, ixN_of (by rw [List.length_map, List.length_replicate]; exact hi), ?_⟩
    refine ⟨.ref p, rfl, q p _ (fun b x hb => ?_) (Same.free (same_new no) hp) ?_⟩
    · have hbp : b ≠ p := ne_of_none (same_new no b x hb) hp
      rw [upd_ne hbp, upd_ne hbp]
      exact same_new no b x hb
    · rw [upd_upd]
      show upd _ p _ p = _
      rw [upd_same]
      unfold pur
      rw [List.map_set]

end
end K34
end

section
set_option Elab.async false
set_option linter.all false
set_option maxRecDepth 100000
set_option maxHeartbeats 4000000
namespace K34
open PySem PySem.Spec PyProof.Rows L2 GxR Gx Ma
section
variable {P : Program} {w : World} {K : PySem.W.Frag} {mg : Str → Option Value} {base : Heap}

theorem gcd_le_sum {ns : List Int} (h : Amt ns) : ((gcdN ns : Nat) : Int) ≤ ns.sum := by
  have e := plain_sum h
  have hg := gcdN_pos h
  have hs := h.pos
  have h1 : 0 < (Ma.plain ns).sum := by
    by_cases z : 0 < (Ma.plain ns).sum
    · exact z
    · have : (Ma.plain ns).sum * ((gcdN ns : Nat) : Int) ≤ 0 * ((gcdN ns : Nat) : Int) := Int.mul_le_mul_of_nonneg_right (by omega) (by omega)
      omega
  have h2 : 1 * ((gcdN ns : Nat) : Int) ≤ (Ma.plain ns).sum * ((gcdN ns : Nat) : Int) := Int.mul_le_mul_of_nonneg_right (by omega) (by omega)
  omega
def sp_content_behind : Sp := fun vs H Q _ => ∃ l t ns a b, ∃ c : Nat, vs = [V.ref l, V.ref t, V.int c] ∧ LI H l ns ∧ Con ns ∧ H t = some (.tup [.int a, .int b]) ∧ Kep a b ∧ c < ns.length ∧ ns.sum < 2 ^ 7900 ∧ ∀ p H', Same H H' → H p = none → LI H' p (step ns a b c) → Q (.ref p) H'
theorem pow_le_of {m n : Nat} (h : m ≤ n) : (2 : Int) ^ m ≤ 2 ^ n := by
  have := Nat.pow_le_pow_right (show 0 < 2 by decide) h
  exact_mod_cast this
theorem abs_lt {n : Int} {k : Nat} (h0 : 0 ≤ n) (h : n < 2 ^ k) : n.natAbs < 2 ^ k := by
  have e : ((n.natAbs : Nat) : Int) = n := Int.natAbs_of_nonneg h0
  have : ((n.natAbs : Nat) : Int) < ((2 ^ k : Nat) : Int) := by
    rw [e]
    have e2 : ((2 ^ k : Nat) : Int) = (2 : Int) ^ k := by rw [Int.natCast_pow]; rfl
    rw [e2]
    exact h
  exact Int.ofNat_lt.mp this

theorem ok_content_behind {f : Addr} {fd : FuncData}  (F : Fun K "content_behind" "content_behind" s_content_behind f fd) (B : Bl mg) (C_without_divisor : Cal P w K mg base 2 "without_divisor" ["numbers"] sp_without_divisor) : FnOk P w K mg base CX0 3 f fd ["content", "kept", "liquid"] (sp_content_behind) := by
  refine F.ok sc_content_behind (fun vs H Q E h => ?_) (fun cdv A outer s H vs Q E hr h => ?_)
  · obtain ⟨l, t, ns, a, b, c, rfl, _⟩ := h; rfl
  · obtain ⟨l, t, ns, a, b, c, rfl, hl, hc, ht, k, hcl, hz, q⟩ := h
    obtain ⟨k1, k2, k3, k4⟩ := k
    have hs := hc.amt.pos
    have nd := sc_content_behind.nd
    refine ⟨_, (pss_cons (ps_asg (pv 1) (pg_tup (by rfl) (pgs_cons (pg_name (i := 3) nd rfl (Or.inr rfl)) (pgs_cons (pg_name (i := 4) nd rfl (Or.inl rfl)) pgs_nil))))
      (pss_cons (ps_setLc (i := 5) (own := [("amount", 6)]) (g := gName 6) rfl nd rfl rfl (sw_true rfl rfl rfl (by decide +kernel)) (pi_list (pv 0)) (blkOk_by (own := [("amount", 6)]) (N := ["content", "kept", "liquid", "stays", "whole", "mixture", "amount"]) (sc := defScope s_content_behind) (by decide +kernel)) (fun _ _ _ _ _ => (pg_name (i := 6) nd rfl (Or.inl rfl))) (fun _ _ _ _ _ => pts_nil) (fun _ _ _ _ _ => (pe_op op_mulW (pv 6) (pv 3))))
      (pss_cons (ps_augS (pv 5) (pv 2) get_list (pe_op op_mulW (pe_op op_sub (pv 4) (pv 3)) (pe_callB (cr_sum rfl) (by rfl) B.sum (by decide +kernel) (pa_cons (pv 0) pa_nil))) ip_add set_list)
      (pss_one (ps_ret (pe_cal C_without_divisor (hr.mono (by decide)) (pa_cons (pv 5) pa_nil))))))), ?_⟩
    refine ⟨.ref t, rfl, t, [_, _], rfl, SqT.of ht, rfl, _, _, rfl, _, _, rfl, rfl, ?_⟩
    refine ⟨.ref l, rfl, l, rfl, ⟨_, SqL.of hl⟩, fun D hD => lc_list (xs := ns.map V.int) (fun i H' => Same H H' ∧ H' D = some (.lst (((ns.map fun n => n * a).take i).map V.int))) ⟨same_new hD, upd_same⟩ (fun i H' _ ⟨e, _⟩ => SqL.of (e l _ hl)) (fun i x H' hx ⟨e1, e2⟩ => ?_) (fun H' ⟨e1, e2⟩ => ?_)⟩
    · obtain ⟨n, hn, rfl⟩ := map_get hx
      have hm := List.mem_of_getElem? hn
      have hn0 := hc.nn n hm
      have hn1 := le_sum hc.nn hm
      refine ⟨rfl, .int n, rfl, .int a, rfl, n, a, rfl, rfl, wide_mul (a := 7900) (b := 7) (abs_lt hn0 (Int.lt_of_le_of_lt hn1 hz)) (abs_lt (by omega) (by omega)) (by decide) (by decide) (by decide), _, e2, ?_, fun b x hb => ?_, ?_⟩
      · have := hc.le8
        rw [List.length_map, List.length_take, List.length_map]
        show min i ns.length < 16777216
        omega
      · rw [upd_ne (ne_of_none hb hD)]
        exact e1 b x hb
      · have hp : (ns.map fun n => n * a)[i]? = some (n * a) := by
          rw [List.getElem?_map, hn]
          rfl
        rw [upd_same, List.take_add_one, hp, List.map_append]
        rfl
    · have e2 : LI H' D (ns.map fun n => n * a) := by
        show H' D = _
        rw [e2, List.length_map, List.take_of_length_le (by rw [List.length_map]; exact Nat.le_refl _)]
      have hcm : (ns.map fun n => n * a)[c]? = some (ns.getD c 0 * a) := by
        rw [List.getElem?_map, List.getD_eq_getElem?_getD, List.getElem?_eq_getElem hcl]
        rfl
      have hba : (b - a).natAbs < 2 ^ 7 := abs_lt (by omega) (by omega)
      refine ⟨.ref D, rfl, .int c, rfl, D, _, c, .int (ns.getD c 0 * a), rfl, rfl, SqL.of e2, by omega, get_map hcm, ?_⟩
      refine ⟨.int b, rfl, .int a, rfl, b, a, rfl, rfl, .ref l, rfl, l, ns, rfl, SqL.of (e1 l _ hl), b - a, ns.sum, rfl, rfl, wide_mul (a := 7) (b := 7900) hba (abs_lt (by omega) hz) (by decide) (by decide) (by decide), ?_⟩
      refine ⟨_, _, rfl, rfl, D, _, c, c, rfl, rfl, e2, ixN_of (by rw [List.length_map, List.length_map]; exact hcl), ?_⟩
      have hk : Kep a b := ⟨k1, k2, k3, k4⟩
      have ha := pre_amt hc hk hcl
      have hps := pre_sum (a := a) (b := b) hcl
      have e3 : upd H' D (.lst (((ns.map fun n => n * a).map V.int).set c (.int (ns.getD c 0 * a + (b - a) * ns.sum)))) D = some (.lst ((pre ns a b c).map V.int)) := by
        rw [upd_same]
        unfold pre
        rw [List.map_set]
      refine ⟨.ref D, rfl, D, pre ns a b c, rfl, e3, ha, ?_, ?_, fun p H2 s2 np e4 => ?_⟩
      · rw [pre_len]
        have := hc.le8
        omega
      · have h1 := gcd_le_sum ha
        rw [hps] at h1
        have h2 : b * ns.sum ≤ 100 * ns.sum := Int.mul_le_mul_of_nonneg_right k3 (by omega)
        have h3 : (100 : Int) * ns.sum < 2 ^ 8000 := by
          have e : (2 : Int) ^ 8000 = 2 ^ 100 * 2 ^ 7900 := by rw [← Int.pow_add]
          have h4 : (2 : Int) ^ 7 * 2 ^ 7900 ≤ 2 ^ 100 * 2 ^ 7900 := Int.mul_le_mul_of_nonneg_right (pow_le_of (by decide)) (Int.le_of_lt (Int.pow_pos (by decide)))
          have h5 : (128 : Int) * ns.sum ≤ 2 ^ 7 * 2 ^ 7900 := Int.mul_le_mul_of_nonneg_left (Int.le_of_lt hz) (by decide)
          omega
        have h6 := abs_lt (n := ((gcdN (pre ns a b c) : Nat) : Int)) (by omega) (Int.lt_of_le_of_lt (Int.le_trans h1 h2) h3)
        rw [Int.natAbs_natCast] at h6
        exact h6
      · refine q p H2 (fun x u hx => s2 x u ?_) (Same.free (fun x u hx => ?_) np) e4
        · rw [upd_ne (ne_of_none hx hD)]
          exact e1 x u hx
        · rw [upd_ne (ne_of_none hx hD)]
          exact e1 x u hx

end
end K34
end

section
set_option Elab.async false
set_option linter.all false
set_option maxRecDepth 100000
set_option maxHeartbeats 4000000
namespace K34
open PySem PySem.Spec PyProof.Rows L2 GxR Gx Ma
section
variable {P : Program} {w : World} {K : PySem.W.Frag} {mg : Str → Option Value} {base : Heap}

/-- the content behind i top-ups, each by its own kept share -/
def ctn (ns : List Int) (ks : List (Int × Int)) (cs : List Nat) : Nat → List Int
  | 0 => ns
  | i + 1 => step (ctn ns ks cs i) (ks.getD i (1, 2)).1 (ks.getD i (1, 2)).2 (cs.getD i 0)
structure Rowy (ns : List Int) (ks : List (Int × Int)) (cs : List Nat) : Prop where
  con : Con ns
  len : ks.length = cs.length
  c60 : cs.length ≤ 60
  kep : ∀ q ∈ ks, Kep q.1 q.2
  liq : ∀ c ∈ cs, c < ns.length
theorem getD_mem {α : Type} {l : List α} {i : Nat} {d : α} (h : i < l.length) : l.getD i d ∈ l := by
  rw [List.getD_eq_getElem?_getD, List.getElem?_eq_getElem h]
  exact List.getElem_mem h
theorem ctn_len (ns : List Int) (ks : List (Int × Int)) (cs : List Nat) : ∀ i, (ctn ns ks cs i).length = ns.length
  | 0 => rfl
  | i + 1 => by rw [← ctn_len ns ks cs i]; exact step_len ..
theorem ctn_con {ns : List Int} {ks : List (Int × Int)} {cs : List Nat} (R : Rowy ns ks cs) : ∀ i, i ≤ cs.length → Con (ctn ns ks cs i)
  | 0, _ => R.con
  | i + 1, h => by
    have hik : i < ks.length := by have := R.len; omega
    have hic : i < cs.length := by omega
    exact step_con (ctn_con R i (by omega)) (R.kep _ (getD_mem hik)) (by rw [ctn_len]; exact R.liq _ (getD_mem hic))
theorem ctn_sum {ns : List Int} {ks : List (Int × Int)} {cs : List Nat} (R : Rowy ns ks cs) : ∀ i, i ≤ cs.length → (ctn ns ks cs i).sum ≤ 100 ^ i * ns.sum
  | 0, _ => by show ns.sum ≤ 100 ^ 0 * ns.sum; rw [Int.pow_zero, Int.one_mul]; exact Int.le_refl _
  | i + 1, h => by
    have hik : i < ks.length := by have := R.len; omega
    have hic : i < cs.length := by omega
    have h1 := step_sum (ctn_con R i (by omega)) (R.kep _ (getD_mem (d := (1, 2)) hik)) (c := cs.getD i 0) (by rw [ctn_len]; exact R.liq _ (getD_mem hic))
    have h2 := ctn_sum R i (by omega)
    have h3 : (100 : Int) * (ctn ns ks cs i).sum ≤ 100 * (100 ^ i * ns.sum) := Int.mul_le_mul_of_nonneg_left h2 (by decide)
    have e : (100 : Int) ^ (i + 1) * ns.sum = 100 * (100 ^ i * ns.sum) := by rw [Int.pow_succ, Int.mul_comm ((100 : Int) ^ i) 100, Int.mul_assoc]
    rw [e]
    exact Int.le_trans h1 h3
theorem hund_le (i : Nat) (h : i ≤ 60) : (100 : Int) ^ i ≤ 2 ^ 420 := by
  have h1 : (100 : Nat) ^ i ≤ 100 ^ 60 := Nat.pow_le_pow_right (by decide) h
  have h2 : (100 : Nat) ^ 60 ≤ 2 ^ 420 := by decide +kernel
  have h3 : (100 : Nat) ^ i ≤ 2 ^ 420 := Nat.le_trans h1 h2
  exact_mod_cast h3
theorem ctn_small {ns : List Int} {ks : List (Int × Int)} {cs : List Nat} {m : Nat} (R : Rowy ns ks cs) (i : Nat) (hi : i ≤ cs.length) (hz : ns.sum < 2 ^ m) : (ctn ns ks cs i).sum < 2 ^ (m + 420) := by
  have h1 := ctn_sum R i hi
  have hs := R.con.amt.pos
  have h2 : (100 : Int) ^ i * ns.sum ≤ 2 ^ 420 * ns.sum := Int.mul_le_mul_of_nonneg_right (hund_le i (by have := R.c60; omega)) (by omega)
  have h3 : (2 : Int) ^ 420 * ns.sum < 2 ^ 420 * 2 ^ m := Int.mul_lt_mul_of_pos_left hz (Int.pow_pos (by decide))
  have e : (2 : Int) ^ (m + 420) = 2 ^ 420 * 2 ^ m := by rw [Int.pow_add, Int.mul_comm]
  rw [e]
  exact Int.lt_of_le_of_lt (Int.le_trans h1 h2) h3
/-- a list of n + 1 new lists of ints -/
structure Rows (H H' : Hp) (p : Addr) (ps : List Addr) (n : Nat) (v : Nat → List Int) : Prop where
  at_ : H' p = some (.lst (ps.map V.ref))
  len : ps.length = n
  row : ∀ i a, ps[i]? = some a → LI H' a (v i)
  new : ∀ a ∈ ps, H a = none
  nd : ps.Nodup
  out : p ∉ ps
  pnew : H p = none
theorem Rows.grow {H H' H2 : Hp} {p a : Addr} {ps : List Addr} {n : Nat} {v : Nat → List Int} (R : Rows H H' p ps n v) (s : Same H H') (e : Same H' H2) (na : H' a = none) (ha : LI H2 a (v n)) : Rows H (upd H2 p (.lst (ps.map V.ref ++ [.ref a]))) p (ps ++ [a]) (n + 1) v := by
  have hpa : a ≠ p := fun z => by rw [z, R.at_] at na; cases na
  refine ⟨?_, ?_, fun i b hb => ?_, fun b hb => ?_, ?_, fun z => ?_, R.pnew⟩
  · rw [upd_same, List.map_append]
    rfl
  · rw [List.length_append, R.len]
    rfl
  · by_cases hi : i < ps.length
    · rw [List.getElem?_append_left hi] at hb
      have hbp : b ≠ p := fun z => R.out (by rw [← z]; exact List.mem_of_getElem? hb)
      show upd H2 p _ b = _
      rw [upd_ne hbp]
      exact e b _ (R.row i b hb)
    · have hi2 := (List.getElem?_eq_some_iff.mp hb).1
      rw [List.length_append] at hi2
      have e1 : i = ps.length := by
        have : i < ps.length + 1 := hi2
        omega
      rw [e1, List.getElem?_append_right (Nat.le_refl _), Nat.sub_self] at hb
      have e2 : a = b := Option.some.inj hb
      rw [← e2, e1, R.len]
      show upd H2 p _ a = _
      rw [upd_ne hpa]
      exact ha
  · rcases List.mem_append.mp hb with z | z
    · exact R.new b z
    · rw [List.mem_singleton.mp z]
      exact s.free na
  · refine List.nodup_append.mpr ⟨R.nd, List.nodup_cons.mpr ⟨List.not_mem_nil, List.nodup_nil⟩, fun x hx y hy z => ?_⟩
    rw [List.mem_singleton.mp hy] at z
    obtain ⟨i, hi⟩ := List.getElem?_of_mem hx
    have := R.row i x hi
    rw [z] at this
    have t2 : H' a = some _ := this
    rw [na] at t2
    cases t2
  · rcases List.mem_append.mp z with z | z
    · exact R.out z
    · exact hpa (List.mem_singleton.mp z).symm
theorem Rows.last {H H' : Hp} {p : Addr} {ps : List Addr} {n : Nat} {v : Nat → List Int} (R : Rows H H' p ps (n + 1) v) : ∃ a, atI (ps.map V.ref) (-1) = some (.ref a) ∧ LI H' a (v n) ∧ ps[n]? = some a := by
  have hl := R.len
  have hn : n < ps.length := by omega
  have e : ps.map V.ref = (ps.take n).map V.ref ++ [.ref ps[n]] := by
    have e1 : ps = ps.take n ++ [ps[n]] := by
      have := List.take_append_getElem hn
      rw [this, List.take_of_length_le (by omega)]
    conv => lhs; rw [e1]
    rw [List.map_append]
    rfl
  refine ⟨ps[n], ?_, R.row n _ (List.getElem?_eq_getElem hn), List.getElem?_eq_getElem hn⟩
  rw [e]
  exact atI_last _ _
def rowI (cs : List Nat) : List Int := cs.map fun (c : Nat) => (c : Int)
theorem rowI_get {cs : List Nat} {i : Nat} {y : V} (h : ((rowI cs).map V.int)[i]? = some y) : i < cs.length ∧ y = .int ((cs.getD i 0 : Nat) : Int) := by
  obtain ⟨n, hn, rfl⟩ := map_get h
  unfold rowI at hn
  rw [List.getElem?_map] at hn
  cases e : cs[i]? with
  | none => rw [e] at hn; cases hn
  | some c =>
    rw [e] at hn
    refine ⟨(List.getElem?_eq_some_iff.mp e).1, ?_⟩
    rw [List.getD_eq_getElem?_getD, e]
    exact congrArg V.int (Option.some.inj hn).symm
/-- a list of tuples of two ints -/
structure Keeps (H : Hp) (l : Addr) (ts : List Addr) (ks : List (Int × Int)) : Prop where
  at_ : H l = some (.lst (ts.map V.ref))
  len : ts.length = ks.length
  tup : ∀ i t, ts[i]? = some t → H t = some (.tup [.int (ks.getD i (1, 2)).1, .int (ks.getD i (1, 2)).2])
theorem Keeps.same {H H' : Hp} {l : Addr} {ts : List Addr} {ks : List (Int × Int)} (k : Keeps H l ts ks) (e : Same H H') : Keeps H' l ts ks := ⟨e _ _ k.at_, k.len, fun i t h => e _ _ (k.tup i t h)⟩
def sp_contents_by : Sp := fun vs H Q _ => ∃ l kl r ns ts ks cs, vs = [V.ref l, V.ref kl, V.ref r] ∧ LI H l ns ∧ Keeps H kl ts ks ∧ LI H r (rowI cs) ∧ Rowy ns ks cs ∧ ns.sum < 2 ^ 7000 ∧ ∀ p ps H', Same H H' → Rows H H' p ps (cs.length + 1) (ctn ns ks cs) → Q (.ref p) H'
theorem same_upd_new {H H' : Hp} {p : Addr} {o : HO} (e : Same H H') (h : H p = none) : Same H (upd H' p o) := fun b x hb => by
  rw [upd_ne (ne_of_none hb h)]
  exact e b x hb

theorem ok_contents_by {f : Addr} {fd : FuncData}  (F : Fun K "contents_by" "contents_by" s_contents_by f fd) (B : Bl mg) (C_content_behind : Cal P w K mg base 3 "content_behind" ["content", "kept", "liquid"] sp_content_behind) : FnOk P w K mg base CX0 4 f fd ["content", "keeps", "row"] (sp_contents_by) := by
  refine F.ok sc_contents_by (fun vs H Q E h => ?_) (fun cdv A outer s H vs Q E hr h => ?_)
  · obtain ⟨l, kl, r, ns, ts, ks, cs, rfl, _⟩ := h; rfl
  · obtain ⟨l, kl, r, ns, ts, ks, cs, rfl, hl, hk, hr2, R, hz, q⟩ := h
    have h60 := R.c60
    have hlen := R.len
    have nd := sc_contents_by.nd
    refine ⟨_, (pss_cons (ps_set (i := 3) nd rfl (Or.inl rfl) (pe_lst (pa_cons (pe_callTy call_list_of (by rfl) B.list (by decide +kernel) (pa_cons (pv 0) pa_nil)) pa_nil)))
      (pss_cons (ps_for PassesOwn.never rfl (pi_zip (by rfl) B.zip (pa_cons (pv 1) (pa_cons (pv 2) pa_nil))) (pg_tup (by rfl) (pgs_cons (pg_name (i := 4) nd rfl (Or.inl rfl)) (pgs_cons (pg_name (i := 5) nd rfl (Or.inl rfl)) pgs_nil))) (pss_one (ps_expr (pe_bm PySem.F.plainAttrs_list PySem.F.slot_list_append PySem.F.type_list_append mt_append (pv 3) (pa_cons (pe_cal C_content_behind (hr.mono (by decide)) (pa_cons (pe_ix ix_list (pv 3) (pe_un un_neg pe_int) (fun _ _ => rfl)) (pa_cons (pv 4) (pa_cons (pv 5) pa_nil)))) pa_nil)))))
      (pss_one (ps_ret (pv 3))))), ?_⟩
    refine ⟨.ref l, rfl, l, _, rfl, .inl (SqL.of hl), fun o no => ?_⟩
    have s1 : Same H (upd H o (.lst (ns.map V.int))) := same_new no
    refine ⟨by show 1 ≤ 16777216; decide, fun C nC => ?_⟩
    have s2 : Same (upd H o (.lst (ns.map V.int))) (upd (upd H o (.lst (ns.map V.int))) C (.lst [.ref o])) := same_new nC
    have noC : o ≠ C := fun e => by rw [← e, upd_same] at nC; cases nC
    refine ⟨.ref kl, rfl, .ref r, rfl, kl, r, ts.map V.ref, (rowI cs).map V.int, rfl, SqL.of (s2 _ _ (s1 _ _ hk.at_)), SqL.of (s2 _ _ (s1 _ _ hr2)), ?_⟩
    have h0 : Rows H (upd (upd H o (.lst (ns.map V.int))) C (.lst [.ref o])) C [o] 1 (ctn ns ks cs) := by
      refine ⟨upd_same, rfl, fun i a ha => ?_, fun a ha => ?_, by simp, fun z => noC (List.mem_singleton.mp z).symm, s1.free nC⟩
      · cases i with
        | zero =>
          have e : o = a := Option.some.inj ha
          rw [← e]
          show upd _ C _ o = _
          rw [upd_ne noC, upd_same]
          rfl
        | succ i => simp at ha
      · rw [List.mem_singleton.mp ha]
        exact no
    refine RZ.for_zipL (by rw [List.length_map, List.length_map]; unfold rowI; rw [List.length_map, hk.len]; exact hlen) (fun i σ H' => ∃ y4 y5 ps, σ = [some (.ref l), some (.ref kl), some (.ref r), some (.ref C), y4, y5] ∧ i ≤ cs.length ∧ Same H H' ∧ Rows H H' C ps (i + 1) (ctn ns ks cs))
      ⟨none, none, [o], rfl, Nat.zero_le _, s1.trans s2, h0⟩ (fun i σ H' ⟨_, _, _, _, _, e, _⟩ => ⟨SqL.of (e _ _ hk.at_), SqL.of (e _ _ hr2)⟩) (fun i x y T σ H' hx hy hP nT => ?_) (fun σ H' hP => ?_)
    · obtain ⟨y4, y5, ps, rfl, hi, e, RR⟩ := hP
      obtain ⟨hic, rfl⟩ := rowI_get hy
      rw [List.getElem?_map] at hx
      cases ht : ts[i]? with
      | none => rw [ht] at hx; cases hx
      | some t =>
        rw [ht] at hx
        have ex : V.ref t = x := Option.some.inj hx
        subst ex
        have htup := hk.tup i t ht
        have sT : Same H' (upd H' T (.tup [.ref t, .int ((cs.getD i 0 : Nat) : Int)])) := same_new nT
        obtain ⟨a, ea, la, _⟩ := RR.last
        have hCT := sT _ _ RR.at_
        refine ⟨T, _, rfl, SqT.of upd_same, rfl, _, _, rfl, _, _, rfl, rfl, ?_⟩
        refine ⟨.ref C, rfl, .inl ⟨rfl, _, SqL.of hCT⟩, ?_⟩
        refine ⟨.ref C, rfl, 1, rfl, C, _, -1, _, rfl, rfl, SqL.of hCT, ea, .ref t, rfl, .int ((cs.getD i 0 : Nat) : Int), rfl, ?_⟩
        refine ⟨a, t, ctn ns ks cs i, (ks.getD i (1, 2)).1, (ks.getD i (1, 2)).2, cs.getD i 0, rfl, sT _ _ la, ctn_con R i hi, sT _ _ (e _ _ htup), R.kep _ (getD_mem (by omega)), by rw [ctn_len]; exact R.liq _ (getD_mem hic), ?_, fun p H2 s3 np lp => ?_⟩
        · exact Int.lt_of_lt_of_le (ctn_small R i hi hz) (pow_le_of (by decide))
        · refine ⟨C, _, _, rfl, rfl, s3 _ _ hCT, ?_, ?_⟩
          · rw [List.length_map, RR.len]
            show i + 1 < 16777216
            omega
          · exact ⟨some (.ref t), some (.int ((cs.getD i 0 : Nat) : Int)), ps ++ [p], rfl, hic, same_upd_new (e.trans (sT.trans s3)) RR.pnew, RR.grow e (sT.trans s3) (sT.free np) lp⟩
    · obtain ⟨y4, y5, ps, rfl, hi, e, RR⟩ := hP
      have el : (ts.map V.ref).length = cs.length := by rw [List.length_map, hk.len]; exact hlen
      rw [el] at RR
      exact ⟨.ref C, rfl, q C ps H' e RR⟩

end
end K34
end

section
set_option Elab.async false
set_option linter.all false
set_option maxRecDepth 100000
set_option maxHeartbeats 4000000
namespace K34
open PySem PySem.Spec PyProof.Rows L2 GxR Gx Ma
section
variable {P : Program} {w : World} {K : PySem.W.Frag} {mg : Str → Option Value} {base : Heap}

structure Row1 (ns : List Int) (a b : Int) (cs : List Nat) : Prop where
  con : Con ns
  c60 : cs.length ≤ 60
  kep : Kep a b
  liq : ∀ c ∈ cs, c < ns.length
theorem Row1.y {ns : List Int} {a b : Int} {cs : List Nat} (R : Row1 ns a b cs) : Rowy ns (List.replicate cs.length (a, b)) cs :=
  ⟨R.con, List.length_replicate, R.c60, fun q hq => by rw [(List.mem_replicate.mp hq).2]; exact R.kep, R.liq⟩
theorem rowI_le {cs : List Nat} {k : Nat} (h : ∀ c ∈ cs, c < k) : ∀ c ∈ rowI cs, 0 ≤ c ∧ c ≤ (k : Int) - 1 := fun c hc => by
  obtain ⟨m, hm, e⟩ := List.mem_map.mp hc
  have := h m hm
  have e2 : (m : Int) = c := e
  omega

end
end K34
end

section
set_option Elab.async false
set_option linter.all false
set_option maxRecDepth 100000
set_option maxHeartbeats 4000000
namespace K34
open PySem PySem.Spec PyProof.Rows L2 GxR Gx Ma
section
variable {P : Program} {w : World} {K : PySem.W.Frag} {mg : Str → Option Value} {base : Heap}

/-- all that is tracked but what stands at j is as it was -/
def But (j : Addr) (H H' : Hp) : Prop := ∀ b o, b ≠ j → H b = some o → H' b = some o
theorem But.refl (j : Addr) (H : Hp) : But j H H := fun _ _ _ h => h
theorem But.trans {j : Addr} {H H1 H2 : Hp} (a : But j H H1) (b : But j H1 H2) : But j H H2 := fun x o n h => b x o n (a x o n h)
theorem But.of {j : Addr} {H H' : Hp} (e : Same H H') : But j H H' := fun x o _ h => e x o h
theorem But.upd {j : Addr} {H H' : Hp} {o : HO} (e : But j H H') : But j H (upd H' j o) := fun x u n h => by
  rw [upd_ne n]
  exact e x u n h
theorem But.same {j : Addr} {H H' : Hp} (e : But j H H') (h : H j = none) : Same H H' := fun x o q => e x o (ne_of_none q h) q
theorem But.same2 {j : Addr} {H0 H H' : Hp} (e : But j H H') (s : Same H0 H) (h : H0 j = none) : Same H0 H' := fun x o q => e x o (ne_of_none q h) (s x o q)
/-- a jar that was asked at most n times -/
def Jar (H : Hp) (j : Addr) (n : Nat) : Prop := ∃ x y z : Int, H j = some (.lst [.int x, .int y, .int z]) ∧ 0 ≤ x ∧ 0 ≤ y ∧ y < 2 ^ 160 ∧ 0 ≤ z ∧ z ≤ n
theorem Jar.le {H : Hp} {j : Addr} {n m : Nat} (h : Jar H j n) (hn : n ≤ m) : Jar H j m := let ⟨x, y, z, e, a, b, c, d, f⟩ := h; ⟨x, y, z, e, a, b, c, d, by omega⟩
theorem Jar.free {H H' : Hp} {j p : Addr} {n : Nat} (h : Jar H j n) (e : But j H H') (h' : Jar H' j m) (hp : H' p = none) : H p = none := by
  have hpj : p ≠ j := fun z => by
    obtain ⟨_, _, _, q, _⟩ := h'
    rw [z, q] at hp
    cases hp
  cases q : H p with
  | none => rfl
  | some o => rw [e p o hpj q] at hp; cases hp
theorem Jar.keep {H H' : Hp} {j : Addr} {n : Nat} (h : Jar H j n) (e : Same H H') : Jar H' j n := let ⟨x, y, z, q, r⟩ := h; ⟨x, y, z, e _ _ q, r⟩
theorem Jar.ne {H : Hp} {j p : Addr} {n : Nat} (h : Jar H j n) (hp : H p = none) : p ≠ j := fun z => by
  obtain ⟨_, _, _, q, _⟩ := h
  rw [z, q] at hp
  cases hp
def sp_dip : Sp := fun vs H Q _ => ∃ j m n, vs = [V.ref j, V.int m] ∧ Jar H j n ∧ n ≤ 1000000 ∧ 1 ≤ m ∧ m < 2 ^ 8000 ∧ ∀ d H', But j H H' → (∀ b, H' b = none → H b = none) → Jar H' j (n + 1) → 0 ≤ d → d < m → Q (.int d) H'
theorem pw {i j : Int} (b : Nat) (h0 : 0 ≤ j) (h : i.natAbs < 2 ^ b) (hb : 0 < b) (hm : (b : Int) * j ≤ 134217728) : CPowW i j := ⟨h0, b, h, hb, hm⟩
theorem upd_none {H : Hp} {j : Addr} {o : HO} : ∀ b, upd H j o b = none → H b = none := fun b h => by
  by_cases e : b = j
  · rw [e, upd_same] at h; cases h
  · rw [upd_ne e] at h; exact h

theorem ok__law_dip {f : Addr} {fd : FuncData}  (F : Fun K "_law_dip" "_law_dip" s__law_dip f fd) (B : Bl mg)  : FnOk P w K mg base CX0 1 f fd ["jar", "many"] (sp_dip) := by
  refine F.ok sc__law_dip (fun vs H Q E h => ?_) (fun cdv A outer s H vs Q E hr h => ?_)
  · obtain ⟨j, m, n, rfl, _⟩ := h; rfl
  · obtain ⟨j, m, n, rfl, ⟨x, y, z, hj, hx, hy, hy2, hz, hz2⟩, hn, hm, hm2, q⟩ := h
    have hmd : CDivW x m := wide_div (by omega) (abs_lt (by omega) hm2) (by decide) (by decide)
    have nd := sc__law_dip.nd
    refine ⟨_, (pss_cons (ps_if (pt_cmpR op_gt (pe_ix ix_list (pv 0) pe_int (fun _ _ => rfl)) pe_int (nomark _))
      (pss_cons (ps_set (i := 2) nd rfl (Or.inl rfl) (pe_op op_mod (pe_callTy call_int1 (by rfl) B.int (by decide +kernel) (pa_cons (pe_ix ix_list (pv 0) pe_int (fun _ _ => rfl)) pa_nil)) (pv 1)))
      (pss_cons (ps_asg (pe_op op_fdivW (pe_ix ix_list (pv 0) pe_int (fun _ _ => rfl)) (pv 1)) (pg_sub (pv 0) pe_int set_list))
      (pss_one (ps_ret (pv 2))))) pss_nil)
      (pss_cons (ps_asg (pe_op op_add (pe_ix ix_list (pv 0) pe_int (fun _ _ => rfl)) pe_int) (pg_sub (pv 0) pe_int set_list))
      (pss_cons (ps_set (i := 3) nd rfl (Or.inl rfl) (pe_op op_mod (pe_callTy call_int1 (by rfl) B.int (by decide +kernel) (pa_cons (pe_op op_powW (pe_op op_add (pe_ix ix_list (pv 0) pe_int (fun _ _ => rfl)) (pe_op op_mulW pe_int (pe_ix ix_list (pv 0) pe_int (fun _ _ => rfl)))) pe_int) pa_nil)) (pe_op op_add (pe_op op_powW pe_int pe_int) pe_int)))
      (pss_cons (ps_set (i := 3) nd rfl (Or.inl rfl) (pe_op op_mod (pe_callTy call_int1 (by rfl) B.int (by decide +kernel) (pa_cons (pe_op op_powW (pe_op op_add (pv 3) (pe_op op_mulW pe_int (pe_ix ix_list (pv 0) pe_int (fun _ _ => rfl)))) pe_int) pa_nil)) (pe_op op_add (pe_op op_powW pe_int pe_int) pe_int)))
      (pss_one (ps_ret (pe_op op_mod (pe_callTy call_int1 (by rfl) B.int (by decide +kernel) (pa_cons (pe_op op_fdivW (pv 3) pe_int) pa_nil)) (pv 1)))))))), ?_⟩
    refine ⟨.ref j, rfl, j, _, 0, .int x, rfl, rfl, SqL.of hj, rfl, x, 0, rfl, rfl, _, rfl, ite2 (fun _ => ?_) (fun _ => ?_)⟩
    · refine ⟨.ref j, rfl, j, _, 0, .int x, rfl, rfl, SqL.of hj, rfl, .inl ⟨x, rfl, .int m, rfl, x, m, rfl, rfl, by show (0 : Int) < m; omega, ?_⟩⟩
      refine ⟨.ref j, rfl, j, _, 0, .int x, rfl, rfl, SqL.of hj, rfl, .int m, rfl, x, m, rfl, rfl, hmd, .ref j, rfl, j, _, 0, 0, rfl, rfl, hj, rfl, ?_⟩
      refine ⟨.int (x % m), rfl, q _ _ (But.refl j H).upd upd_none ⟨x / m, y, z, upd_same, Int.ediv_nonneg hx (by omega), hy, hy2, hz, by omega⟩ (Int.emod_nonneg _ (by omega)) (Int.emod_lt_of_pos _ (by omega))⟩
    · refine ⟨.ref j, rfl, j, _, 2, .int z, rfl, rfl, SqL.of hj, rfl, z, 1, rfl, rfl, .ref j, rfl, j, _, 2, 2, rfl, rfl, hj, rfl, ?_⟩
      have hj2 : upd H j (.lst ([V.int x, V.int y, V.int z].set 2 (.int (z + 1)))) j = some (.lst [.int x, .int y, .int (z + 1)]) := upd_same
      have hz3 : (z + 1).natAbs < 2 ^ 21 := abs_lt (by omega) (by omega)
      have hb1 : (y + 60000049 * (z + 1)).natAbs < 2 ^ 161 := abs_lt (by omega) (by omega)
      refine ⟨.ref j, rfl, j, _, 1, .int y, rfl, rfl, SqL.of hj2, rfl, .ref j, rfl, j, _, 2, .int (z + 1), rfl, rfl, SqL.of hj2, rfl, 60000049, z + 1, rfl, rfl, wide_mul (a := 26) (b := 21) (by decide) hz3 (by decide) (by decide) (by decide), y, _, rfl, rfl, _, 3, rfl, rfl, pw 161 (by decide) hb1 (by decide) (by decide), .inl ⟨_, rfl, 10, 47, rfl, rfl, pw 4 (by decide) (by decide) (by decide) (by decide), _, 91, rfl, rfl, _, _, rfl, rfl, by show (0 : Int) < 10 ^ (47 : Int).toNat + 91; decide +kernel, ?_⟩⟩
      dsimp only
      generalize hm1 : (y + 60000049 * (z + 1)) ^ (3 : Int).toNat % (10 ^ (47 : Int).toNat + 91) = m1
      have p47 : (10 : Int) ^ (47 : Int).toNat + 91 < 2 ^ 160 := by decide +kernel
      have n47 : (0 : Int) < (10 : Int) ^ (47 : Int).toNat + 91 := by decide +kernel
      have m10 : 0 ≤ m1 := by rw [← hm1]; exact Int.emod_nonneg _ (by omega)
      have m11 : m1 < 2 ^ 160 := Int.lt_trans (by rw [← hm1]; exact Int.emod_lt_of_pos _ n47) p47
      have hb2 : (m1 + 35000021 * (z + 1)).natAbs < 2 ^ 161 := abs_lt (by omega) (by omega)
      refine ⟨.int m1, rfl, .ref j, rfl, j, _, 2, .int (z + 1), rfl, rfl, SqL.of hj2, rfl, 35000021, z + 1, rfl, rfl, wide_mul (a := 26) (b := 21) (by decide) hz3 (by decide) (by decide) (by decide), m1, _, rfl, rfl, _, 3, rfl, rfl, pw 161 (by decide) hb2 (by decide) (by decide), .inl ⟨_, rfl, 10, 46, rfl, rfl, pw 4 (by decide) (by decide) (by decide) (by decide), _, 79, rfl, rfl, _, _, rfl, rfl, by show (0 : Int) < 10 ^ (46 : Int).toNat + 79; decide +kernel, ?_⟩⟩
      refine ⟨_, rfl, _, 1073741827, rfl, rfl, wide_div (by decide) (b := 31) (by decide) (by decide) (by decide), .inl ⟨_, rfl, .int m, rfl, _, m, rfl, rfl, by show (0 : Int) < m; omega, ?_⟩⟩
      exact q _ _ (But.refl j H).upd upd_none ⟨x, y, z + 1, hj2, hx, hy, hy2, by omega, by omega⟩ (Int.emod_nonneg _ (by omega)) (Int.emod_lt_of_pos _ (by omega))

def sp_jar (K : PySem.W.Frag) : Sp := fun vs H Q _ => ∃ (s : Addr) (ns : List Int) (k : Nat), vs = [V.ref s, V.int k] ∧ SqL K H s (ns.map V.int) ∧ k ≤ 100 ∧ ∀ p H', Same H H' → H p = none → Jar H' p 0 → Q (.ref p) H'

end
end K34
end

section
set_option Elab.async false
set_option linter.all false
set_option maxRecDepth 100000
set_option maxHeartbeats 4000000
namespace K34
open PySem PySem.Spec PyProof.Rows L2 GxR Gx Ma
section
variable {P : Program} {w : World} {K : PySem.W.Frag} {mg : Str → Option Value} {base : Heap}

theorem n18 : (0 : Int) < 10 ^ (43 : Int).toNat + 57 := by decide +kernel
theorem jar_at {H : Hp} {p : Addr} (c : Int) (k : Nat) (hk : k ≤ 100) (x : Int) (hx : 0 ≤ x) : Jar (upd H p (.lst [.int x, .int (c % (10 ^ (43 : Int).toNat + 57) * 101 + 70001 * (k : Int)), .int 0])) p 0 := by
  have h1 : 0 ≤ c % (10 ^ (43 : Int).toNat + 57) := Int.emod_nonneg _ (by have := n18; omega)
  have h2 : c % (10 ^ (43 : Int).toNat + 57) < 10 ^ (43 : Int).toNat + 57 := Int.emod_lt_of_pos _ n18
  have h3 : ((10 : Int) ^ (43 : Int).toNat + 57) * 101 + 7000100 < 2 ^ 160 := by decide +kernel
  exact ⟨_, _, _, upd_same, hx, by omega, by omega, by omega, by omega⟩
theorem mod_small (c : Int) : (c % (10 ^ (43 : Int).toNat + 57)).natAbs < 2 ^ 150 := by
  have h1 : 0 ≤ c % (10 ^ (43 : Int).toNat + 57) := Int.emod_nonneg _ (by have := n18; omega)
  have h2 : c % (10 ^ (43 : Int).toNat + 57) < 10 ^ (43 : Int).toNat + 57 := Int.emod_lt_of_pos _ n18
  have h3 : (10 : Int) ^ (43 : Int).toNat + 57 < 2 ^ 150 := by decide +kernel
  exact abs_lt h1 (by omega)
theorem max_nn (x : Int) : (0 : Int) ≤ (if x > 0 then x else 0) := by split <;> omega

theorem ok__law_jar {f : Addr} {fd : FuncData}  (F : Fun K "_law_jar" "_law_jar" s__law_jar f fd) (B : Bl mg)  : FnOk P w K mg base CX0 1 f fd ["script", "k"] (sp_jar K) := by
  refine F.ok sc__law_jar (fun vs H Q E h => ?_) (fun cdv A outer s H vs Q E hr h => ?_)
  · obtain ⟨s0, ns, k, rfl, _⟩ := h; rfl
  · obtain ⟨s0, ns, k, rfl, hs, hk, q⟩ := h
    have nd := sc__law_jar.nd
    refine ⟨_, (pss_cons (ps_set (i := 2) nd rfl (Or.inl rfl) (pe_ifExp (pt_cmpR op_lt (pv 1) (pe_callB call_len_seq (by rfl) B.len PySem.boot_len (pa_cons (pv 0) pa_nil)) (nomark _)) (pe_callB call_abs (by rfl) B.abs (by decide +kernel) (pa_cons (pe_ix ix_list (pv 0) (pv 1) (fun _ _ => rfl)) pa_nil)) pe_int))
      (pss_one (ps_ret (pe_lst (pa_cons (pe_callB (call_max2 rfl) (by rfl) B.max (by decide +kernel) (pa_cons pe_int (pa_cons (pe_op op_sub (pv 2) (pe_op op_powW pe_int pe_int)) pa_nil))) (pa_cons (pe_op op_add (pe_op op_mulW (pe_op op_mod (pe_callTy call_int1 (by rfl) B.int (by decide +kernel) (pa_cons (pv 2) pa_nil)) (pe_op op_add (pe_op op_powW pe_int pe_int) pe_int)) pe_int) (pe_op op_mulW pe_int (pv 1))) (pa_cons pe_int pa_nil))))))), ?_⟩
    refine ⟨.int k, rfl, .ref s0, rfl, s0, _, rfl, .inl hs, k, _, rfl, rfl, _, rfl, ite2 (fun hlt => ?_) (fun _ => ?_)⟩
    · have hlt : k < ns.length := by
        have := of_decide_eq_true hlt
        rw [List.length_map] at this
        omega
      have hg := get_map (List.getElem?_eq_getElem hlt)
      refine ⟨.ref s0, rfl, .int k, rfl, s0, _, k, _, rfl, rfl, hs, atI_nat hg, _, rfl, ?_⟩
      refine ⟨_, rfl, 10, 18, rfl, rfl, pw 4 (by decide) (by decide) (by decide) (by decide), _, _, rfl, rfl, 0, _, rfl, ?_⟩
      refine ⟨_, rfl, .inl ⟨_, rfl, 10, 43, rfl, rfl, pw 4 (by decide) (by decide) (by decide) (by decide), _, 57, rfl, rfl, _, _, rfl, rfl, by show (0 : Int) < 10 ^ (43 : Int).toNat + 57; decide +kernel, _, 101, rfl, rfl, wide_mul (a := 150) (b := 7) (mod_small _) (by decide) (by decide) (by decide) (by decide), .int k, rfl, 70001, k, rfl, rfl, wide_mul (a := 17) (b := 7) (by decide) (by rw [Int.natAbs_natCast]; omega) (by decide) (by decide) (by decide), _, _, rfl, rfl, by show 3 ≤ 16777216; decide, fun p hp => ?_⟩⟩
      exact q p _ (same_new hp) hp (jar_at _ k hk _ (max_nn _))
    · refine ⟨_, rfl, 10, 18, rfl, rfl, pw 4 (by decide) (by decide) (by decide) (by decide), _, _, rfl, rfl, 0, _, rfl, ?_⟩
      refine ⟨_, rfl, .inl ⟨_, rfl, 10, 43, rfl, rfl, pw 4 (by decide) (by decide) (by decide) (by decide), _, 57, rfl, rfl, _, _, rfl, rfl, by show (0 : Int) < 10 ^ (43 : Int).toNat + 57; decide +kernel, _, 101, rfl, rfl, wide_mul (a := 150) (b := 7) (mod_small _) (by decide) (by decide) (by decide) (by decide), .int k, rfl, 70001, k, rfl, rfl, wide_mul (a := 17) (b := 7) (by decide) (by rw [Int.natAbs_natCast]; omega) (by decide) (by decide) (by decide), _, _, rfl, rfl, by show 3 ≤ 16777216; decide, fun p hp => ?_⟩⟩
      exact q p _ (same_new hp) hp (jar_at _ k hk _ (max_nn _))

def sp_lgcd : Sp := fun vs H Q _ => ∃ a b : Nat, vs = [V.int a, V.int b] ∧ Q (.int ((Nat.gcd a b : Nat) : Int)) H

theorem ok__law_gcd {f : Addr} {fd : FuncData}  (F : Fun K "_law_gcd" "_law_gcd" s__law_gcd f fd) (B : Bl mg)  : FnOk P w K mg base CX0 1 f fd ["one", "two"] (sp_lgcd) := by
  refine F.ok sc__law_gcd (fun vs H Q E h => ?_) (fun cdv A outer s H vs Q E hr h => ?_)
  · obtain ⟨a, b, rfl, _⟩ := h; rfl
  · obtain ⟨a, b, rfl, q⟩ := h
    have nd := sc__law_gcd.nd
    refine ⟨_, (pss_cons (ps_while PassesOwn.never (pt_cmpR op_ne (pv 1) pe_int (nomark _)) (pss_one (ps_par (i := 0) (j := 1) (by rfl) nd rfl rfl (by decide) rfl rfl (pa_cons (pv 1) (pa_cons (pe_op op_mod (pe_callTy call_int1 (by rfl) B.int (by decide +kernel) (pa_cons (pv 0) pa_nil)) (pv 1)) pa_nil)) (by rfl))))
      (pss_one (ps_ret (pe_callB call_abs (by rfl) B.abs (by decide +kernel) (pa_cons (pv 0) pa_nil))))), ?_⟩
    refine ⟨fun m σ H' => ∃ x y : Nat, σ = [some (.int x), some (.int y)] ∧ H' = H ∧ Nat.gcd x y = Nat.gcd a b ∧ m = y, ⟨b, a, b, rfl, rfl, rfl, rfl⟩, fun m σ H' hW => ?_⟩
    obtain ⟨x, y, rfl, rfl, e, rfl⟩ := hW
    refine ⟨.int (m : Int), rfl, rfl, _, rfl, ?_⟩
    by_cases hm : m = 0
    · subst hm
      refine iteNS rfl ⟨.int (x : Int), rfl, (x : Int), rfl, ?_⟩
      rw [if_neg (by omega)]
      rw [Nat.gcd_zero_right] at e
      rw [e]
      exact q
    · rw [decide_eq_false (show ¬ V.int (m : Int) = V.int 0 from fun z => hm (by have := V.int.inj z; omega))]
      refine iteT ⟨fun σ' H2 => ∃ m', m' < m ∧ ∃ x y : Nat, σ' = [some (.int x), some (.int y)] ∧ H2 = H' ∧ Nat.gcd x y = Nat.gcd a b ∧ m' = y, fun σ' H2 h => h, ?_⟩
      refine ⟨.int (m : Int), rfl, .int (x : Int), rfl, .inl ⟨(x : Int), rfl, .int (m : Int), rfl, (x : Int), (m : Int), rfl, rfl, by show (0 : Int) < m; omega, _, _, rfl, x % m, Nat.mod_lt _ (by omega), m, x % m, ?_, rfl, ?_, rfl⟩⟩
      · show [some (V.int (m : Int)), some (V.int ((x : Int) % (m : Int)))] = _
        rw [← Int.natCast_emod]
      · rw [Nat.gcd_comm, ← Nat.gcd_rec m x, Nat.gcd_comm]
        exact e

theorem ok__law_plain {f : Addr} {fd : FuncData}  (F : Fun K "_law_plain" "_law_plain" s__law_plain f fd) (B : Bl mg) (C__law_gcd : Cal P w K mg base 1 "_law_gcd" ["one", "two"] sp_lgcd) : FnOk P w K mg base CX0 2 f fd ["numbers_here"] (sp_without_divisor) := by
  refine F.ok sc__law_plain (fun vs H Q E h => ?_) (fun cdv A outer s H vs Q E hr h => ?_)
  · obtain ⟨l, ns, rfl, _⟩ := h; rfl
  · obtain ⟨l, ns, rfl, hl, ha, hz, hg, q⟩ := h
    have nd := sc__law_plain.nd
    refine ⟨_, (pss_cons (ps_set (i := 1) nd rfl (Or.inr rfl) pe_int)
      (pss_cons (ps_for PassesOwn.never rfl (pi_list (pv 0)) (pg_name (i := 2) nd rfl (Or.inl rfl)) (pss_one (ps_set (i := 1) nd rfl (Or.inr rfl) (pe_cal C__law_gcd (hr.mono (by decide)) (pa_cons (pv 1) (pa_cons (pv 2) pa_nil))))))
      (pss_one (ps_ret (pe_lc (own := [("number_here", 2)]) (g := gName 2) rfl nd (pi_list (pv 0)) (blkOk_by (own := [("number_here", 2)]) (N := ["numbers_here", "divisor", "number_here"]) (sc := defScope s__law_plain) (by decide +kernel)) (fun _ _ _ _ _ => (pg_name (i := 2) nd rfl (Or.inl rfl))) (fun _ _ _ _ _ => pts_nil) (fun _ _ _ _ _ => (pe_op op_fdivW (pv 2) (pv 1)))))))), ?_⟩
    refine ⟨.ref l, rfl, l, rfl, ⟨_, SqL.of hl⟩, for_list (xs := ns.map V.int) (fun i σ H' => ∃ y, σ = [some (.ref l), some (.int ((gcdN (ns.take i) : Nat) : Int)), y] ∧ H' = H) ⟨none, rfl, rfl⟩ (fun i σ H' _ ⟨_, _, e⟩ => by rw [e]; exact SqL.of hl) (fun i x σ H' hx ⟨y, e1, e2⟩ => ?_) (fun σ H' ⟨y, e1, e2⟩ => ?_)⟩
    · subst e1 e2
      obtain ⟨n, hn, rfl⟩ := map_get hx
      have hn0 := ha.nn n (List.mem_of_getElem? hn)
      refine ⟨.int ((gcdN (ns.take i) : Nat) : Int), rfl, .int n, rfl, gcdN (ns.take i), n.natAbs, ?_, some (.int n), ?_, rfl⟩
      · rw [Int.natAbs_of_nonneg hn0]
        rfl
      · rw [gcdN_take hn]
        rfl
    · subst e1 e2
      rw [List.length_map, List.take_length]
      refine ⟨.ref l, rfl, l, rfl, ⟨_, SqL.of hl⟩, fun D hD => lc_list (xs := ns.map V.int) (fun i H2 => Same H' H2 ∧ H2 D = some (.lst (((Ma.plain ns).take i).map V.int))) ⟨same_new hD, upd_same⟩ (fun i H2 _ ⟨e, _⟩ => SqL.of (e l _ hl)) (fun i x H2 hx ⟨e1, e2⟩ => ?_) (fun H2 ⟨e1, e2⟩ => ?_)⟩
      · obtain ⟨n, hn, rfl⟩ := map_get hx
        have hpos := gcdN_pos ha
        refine ⟨rfl, .int n, rfl, .int ((gcdN ns : Nat) : Int), rfl, n, _, rfl, rfl, wide_div (by omega) (b := 8000) (by rw [Int.natAbs_natCast]; exact hg) (by decide) (by decide), _, e2, ?_, fun b x hb => ?_, ?_⟩
        · rw [List.length_map, List.length_take]
          have := plain_len ns
          show min i (Ma.plain ns).length < 16777216
          omega
        · rw [upd_ne (ne_of_none hb hD)]
          exact e1 b x hb
        · have hp : (Ma.plain ns)[i]? = some (n / ((gcdN ns : Nat) : Int)) := by
            unfold Ma.plain
            rw [List.getElem?_map, hn]
            rfl
          rw [upd_same, List.take_add_one, hp, List.map_append]
          rfl
      · rw [List.length_map, ← plain_len ns, List.take_length] at e2
        exact q D H2 e1 hD e2

end
end K34
end

section
set_option Elab.async false
set_option linter.all false
set_option maxRecDepth 100000
set_option maxHeartbeats 4000000
namespace K34
open PySem PySem.Spec PyProof.Rows L2 GxR Gx Ma
section
variable {P : Program} {w : World} {K : PySem.W.Frag} {mg : Str → Option Value} {base : Heap}

end
end K34
end

section
set_option Elab.async false
set_option linter.all false
set_option maxRecDepth 100000
set_option maxHeartbeats 4000000
namespace K34
open PySem PySem.Spec PyProof.Rows L2 GxR Gx Ma
section
variable {P : Program} {w : World} {K : PySem.W.Frag} {mg : Str → Option Value} {base : Heap}

def sp_lspots : Sp := fun vs H Q _ => ∃ (j : Addr) (n k z : Nat), vs = [V.ref j, V.int k, V.int z] ∧ Jar H j n ∧ n + z ≤ 900000 ∧ 1 ≤ k ∧ k ≤ 8 ∧ z ≤ 61 ∧ ∀ p cs H', But j H H' → (∀ b, H' b = none → H b = none) → H p = none → Jar H' j (n + z) → LI H' p (rowI cs) → cs.length = z → (∀ c ∈ cs, c < k) → Q (.ref p) H'
theorem But.fresh {j D : Addr} {H H' : Hp} {o : HO} (e : But j H H') (h : H D = none) : But j H (L2.upd H' D o) := fun b x n hb => by
  rw [L2.upd_ne (ne_of_none hb h)]
  exact e b x n hb
theorem two_le {n k : Nat} (h : n ≤ k) : (2 : Int) ^ n ≤ 2 ^ k := pow_le_of h
theorem small8000 {m : Int} (h : m < 2 ^ 200) : m < 2 ^ 8000 := Int.lt_of_lt_of_le h (two_le (by decide))
theorem rowI_app (cs : List Nat) (c : Nat) : (rowI (cs ++ [c])).map V.int = (rowI cs).map V.int ++ [.int (c : Int)] := by
  unfold rowI
  rw [List.map_append, List.map_append]
  rfl

theorem ok__law_spots {f : Addr} {fd : FuncData}  (F : Fun K "_law_spots" "_law_spots" s__law_spots f fd) (B : Bl mg) (C__law_dip : Cal P w K mg base 1 "_law_dip" ["jar", "many"] sp_dip) : FnOk P w K mg base CX0 2 f fd ["jar", "many", "size"] (sp_lspots) := by
  refine F.ok sc__law_spots (fun vs H Q E h => ?_) (fun cdv A outer s H vs Q E hr h => ?_)
  · obtain ⟨j, n, k, z, rfl, _⟩ := h; rfl
  · obtain ⟨j, n, k, z, rfl, hj, hn, hk, hk8, hz, q⟩ := h
    have nd := sc__law_spots.nd
    refine ⟨_, (pss_one (ps_ret (pe_lc (own := [("turn", 3)]) (g := gName 3) rfl nd (pi_range1 rfl B.range (pa_cons (pv 2) pa_nil)) (blkOk_by (own := [("turn", 3)]) (N := ["jar", "many", "size", "turn"]) (sc := defScope s__law_spots) (by decide +kernel)) (fun _ _ _ _ _ => (pg_name (i := 3) nd rfl (Or.inl rfl))) (fun _ _ _ _ _ => pts_nil) (fun _ _ _ _ _ => (pe_cal C__law_dip (hr.mono (by decide)) (pa_cons (pv 0) (pa_cons (pv 1) pa_nil))))))), ?_⟩
    refine ⟨.int z, rfl, z, rfl, by omega, by omega, fun D hD => ?_⟩
    have hDj : D ≠ j := hj.ne hD
    refine lc_range (lo := 0) (n := (z : Int).toNat) (fun i H' => ∃ cs : List Nat, cs.length = i ∧ (∀ c ∈ cs, c < k) ∧ But j H H' ∧ (∀ b, H' b = none → H b = none) ∧ Jar H' j (n + i) ∧ H' D = some (.lst ((rowI cs).map V.int)))
      ⟨[], rfl, fun c hc => (by cases hc), But.of (same_new hD), upd_none, hj.keep (same_new hD), upd_same⟩ (fun i H' hi ⟨cs, e1, e2, e3, e4, e5, e6⟩ => ?_) (fun H' ⟨cs, e1, e2, e3, e4, e5, e6⟩ => ?_)
    · refine ⟨rfl, .ref j, rfl, .int k, rfl, j, k, n + i, rfl, e5, by omega, by omega, small8000 (by omega), fun d H2 b1 b2 j2 d0 d1 => ⟨_, b1 D _ hDj e6, ?_, cs ++ [d.toNat], ?_, fun c hc => ?_, (e3.trans b1).fresh hD, fun b hb => ?_, ?_, ?_⟩⟩
      · unfold rowI
        rw [List.length_map, List.length_map, e1]
        show i < 16777216
        omega
      · rw [List.length_append, e1]
        rfl
      · rcases List.mem_append.mp hc with y | y
        · exact e2 c y
        · rw [List.mem_singleton.mp y]
          omega
      · exact e4 b (b2 b (upd_none b hb))
      · obtain ⟨x1, x2, x3, y1, y2⟩ := j2
        exact ⟨x1, x2, x3, by rw [upd_ne (fun e => hDj e.symm)]; exact y1, y2⟩
      · rw [upd_same, rowI_app, Int.toNat_of_nonneg d0]
    · have e : (z : Int).toNat = z := Int.toNat_natCast z
      rw [e] at e1 e5
      exact q D cs H' e3 e4 hD e5 e6 e1 e2

theorem Jar.put {H : Hp} {j p : Addr} {n : Nat} {o : HO} (h : Jar H j n) (hp : H p = none) : Jar (L2.upd H p o) j n := h.keep (same_new hp)


end
end K34
end

section
set_option Elab.async false
set_option linter.all false
set_option maxRecDepth 100000
set_option maxHeartbeats 4000000
/-! Comprehensions whose elements leave what is tracked as it is: the list so far, by a function of the place. -/
namespace Gx
open PySem PySem.Spec PyProof.Rows L2 GxR
theorem sameR (H : Hp) : Same H H := fun _ _ h => h
theorem sameN {H : Hp} {p : Addr} {o : HO} (h : H p = none) : Same H (L2.upd H p o) := fun b x e => by
  rw [L2.upd_ne (ne_of_none e h)]
  exact e
/-- the list so far -/
def fmL (f : Nat → Option V) (i : Nat) : List V := (List.range i).filterMap f
theorem fmL_succ (f : Nat → Option V) (i : Nat) : fmL f (i + 1) = fmL f i ++ (f i).toList := by
  unfold fmL
  rw [List.range_succ, List.filterMap_append]
  cases h : f i <;> simp [h]
theorem fmL_len (f : Nat → Option V) (i : Nat) : (fmL f i).length ≤ i := by
  unfold fmL
  have := List.length_filterMap_le f (List.range i)
  rw [List.length_range] at this
  exact this
structure PvF (f : Nat → Option V) (H1 : Hp) (D : Addr) (i : Nat) (H : Hp) : Prop where
  s : Same H1 H
  at_ : H D = some (.lst (fmL f i))
theorem PvF.zero {f : Nat → Option V} {H1 : Hp} {D : Addr} (h : H1 D = none) : PvF f H1 D 0 (L2.upd H1 D (.lst [])) := ⟨sameN h, L2.upd_same⟩
theorem PvF.ext {f : Nat → Option V} {H1 : Hp} {D : Addr} {i : Nat} {H H4 : Hp} {y : V} (p : PvF f H1 D i H) (hD : H1 D = none) (hi : i < 16777216) (s : Same H H4) (e : f i = some y) :
    ∃ acc, H4 D = some (.lst acc) ∧ acc.length < sizeLine ∧ PvF f H1 D (i + 1) (L2.upd H4 D (.lst (acc ++ [y]))) := by
  refine ⟨_, s _ _ p.at_, ?_, fun b x hb => ?_, ?_⟩
  · have := fmL_len f i
    show (fmL f i).length < 16777216
    omega
  · rw [L2.upd_ne (ne_of_none hb hD)]
    exact s _ _ (p.s b x hb)
  · rw [L2.upd_same, fmL_succ, e]
    rfl
theorem fmL_take {α : Type} (l : List α) (h : α → Option V) : ∀ i, i ≤ l.length → fmL (fun i => l[i]?.bind h) i = (l.take i).filterMap h
  | 0, _ => rfl
  | i + 1, hi => by
    rw [fmL_succ, fmL_take l h i (by omega), List.take_add_one, List.filterMap_append, List.getElem?_eq_getElem (show i < l.length by omega)]
    show _ ++ (h l[i]).toList = _ ++ [l[i]].filterMap h
    congr 1
theorem fmL_bind {α : Type} (l : List α) (h : α → Option V) : fmL (fun i => l[i]?.bind h) l.length = l.filterMap h := by
  rw [fmL_take l h _ (Nat.le_refl _), List.take_length]
theorem fmL_map {α : Type} (l : List α) (h : α → V) : fmL (fun i => l[i]?.map h) l.length = l.map h := by
  have e := fmL_bind l fun x => some (h x)
  have e2 : (fun i : Nat => l[i]?.map h) = fun i : Nat => l[i]?.bind fun x => some (h x) := by
    funext i
    cases l[i]? <;> rfl
  rw [e2, e, List.filterMap_eq_map']
theorem u1 {k : Nat} {A : Around} (r : Room k A) : A.units + 1 < cLine := by have := r.un; omega
/-- over a list that stands still -/
theorem lc_fm {K : PySem.W.Frag} {a : Addr} {xs : List V} {g : TG} {tt : TT} {te : TE} {vs : List Nat} {σ : L2.St} {H1 : Hp} {D : Addr} {Qd : Hp → Prop} (f : Nat → Option V) (hD : H1 D = none) (hl : SqL K H1 a xs)
    (hs : ∀ i x H, xs[i]? = some x → PvF f H1 D i H → g x (wipe σ vs) H fun σ2 H2 => wipe σ2 vs = wipe σ vs ∧ tt σ2 H2 fun b H3 =>
      if b = true then te σ2 H3 fun y H4 => ∃ acc, H4 D = some (.lst acc) ∧ acc.length < sizeLine ∧ PvF f H1 D (i + 1) (L2.upd H4 D (.lst (acc ++ [y]))) else PvF f H1 D (i + 1) H3) (hd : ∀ H, PvF f H1 D xs.length H → Qd H) :
    ∃ W : Nat → Nat → Hp → Prop, (∃ m, W 0 m (L2.upd H1 D (.lst []))) ∧ ∀ i m H, W i m H →
      ((Itl K a).stop i H ∧ Qd H) ∨ ((Itl K a).go i H ∧ ∃ Nx : Hp → Prop, (∀ H', Nx H' → ∃ m', m' < m ∧ W (i + 1) m' H') ∧ ∀ x H', (Itl K a).yld i H x H' → g x (wipe σ vs) H' fun σ2 H2 => wipe σ2 vs = wipe σ vs ∧ tt σ2 H2 fun b H3 =>
        if b = true then te σ2 H3 fun y H4 => ∃ acc, H4 D = some (.lst acc) ∧ acc.length < sizeLine ∧ Nx (L2.upd H4 D (.lst (acc ++ [y]))) else Nx H3) :=
  lc_list (PvF f H1 D) (PvF.zero hD) (fun i H _ p => hl.elim (fun h => .inl (h.elim (fun h => .inl (p.s _ _ h)) fun ⟨o, h⟩ => .inr ⟨o, p.s _ _ h⟩)) fun h => .inr h) hs hd
end Gx
end

section
set_option linter.all false
set_option maxHeartbeats 1000000
/-! Mixtures: weighted sums of contents over a bottom, and that a common factor goes away. -/
namespace Ma
def wsum (ws : List Int) : Nat → Int
  | 0 => 0
  | i + 1 => wsum ws i + ws.getD i 0
/-- contents of one length with weights -/
structure Mix (cs : List (List Int)) (ws : List Int) (n : Nat) : Prop where
  c0 : 0 < cs.length
  c8 : cs.length ≤ 8
  wl : ws.length = cs.length
  con : ∀ c ∈ cs, Con c
  len : ∀ c ∈ cs, c.length = n
  small : ∀ c ∈ cs, c.sum < 2 ^ 102
  w0 : ∀ w ∈ ws, 0 ≤ w ∧ w < 2 ^ 98
  wp : 0 < ws.sum
theorem Mix.at {cs : List (List Int)} {ws : List Int} {n : Nat} (M : Mix cs ws n) {i : Nat} (h : i < cs.length) : cs.getD i [] ∈ cs := by
  rw [List.getD_eq_getElem?_getD, List.getElem?_eq_getElem h]
  exact List.getElem_mem h
theorem Mix.sp {cs : List (List Int)} {ws : List Int} {n : Nat} (M : Mix cs ws n) {i : Nat} (h : i < cs.length) : 0 < (cs.getD i []).sum := (M.con _ (M.at h)).amt.pos
/-! sums -/
theorem wsum_take (ws : List Int) : ∀ i, i ≤ ws.length → wsum ws i = (ws.take i).sum
  | 0, _ => by rw [List.take_zero]; rfl
  | i + 1, h => by
    show wsum ws i + ws.getD i 0 = _
    rw [wsum_take ws i (by omega), List.take_add_one, List.getElem?_eq_getElem (by omega), List.sum_append, List.getD_eq_getElem?_getD, List.getElem?_eq_getElem (by omega)]
    show _ + ws[i] = _ + (ws[i] + 0)
    rw [Int.add_zero]
theorem Mix.ws {cs : List (List Int)} {ws : List Int} {n : Nat} (M : Mix cs ws n) : wsum ws cs.length = ws.sum := by
  rw [wsum_take ws _ (by rw [M.wl]; exact Nat.le_refl _), ← M.wl, List.take_length]
theorem gcdF_scale (t : Nat) : ∀ (ns : List Int) (d : Nat), gcdF (t * d) (ns.map fun n => (t : Int) * n) = t * gcdF d ns
  | [], d => rfl
  | n :: r, d => by
    show gcdF (Nat.gcd (t * d) ((t : Int) * n).natAbs) _ = t * gcdF (Nat.gcd d n.natAbs) r
    rw [Int.natAbs_mul, Int.natAbs_natCast, Nat.gcd_mul_left, gcdF_scale t r]
theorem plain_scale {ns : List Int} {t : Int} (ht : 0 < t) (hg : 0 < gcdN ns) : plain (ns.map fun n => t * n) = plain ns := by
  obtain ⟨k, rfl⟩ := Int.eq_ofNat_of_zero_le (Int.le_of_lt ht)
  unfold plain
  have e : gcdN (ns.map fun n => (k : Int) * n) = k * gcdN ns := by
    have := gcdF_scale k ns 0
    rw [Nat.mul_zero] at this
    exact this
  rw [e, List.map_map]
  refine List.map_congr_left fun n _ => ?_
  show (k : Int) * n / ((k * gcdN ns : Nat) : Int) = _
  rw [Int.natCast_mul, Int.mul_ediv_mul_of_pos _ _ ht]
end Ma
end

section
set_option Elab.async false
set_option linter.all false
set_option maxHeartbeats 1000000
namespace Ma
/-! histories: what is undone -/
/-- whether a number is a power, by dividing -/
def powF : Nat → Int → Int → Bool
  | 0, _, _ => false
  | f + 1, b, S => if S % b = 0 then powF f b (S / b) else decide (S = 1)
def powB (b S : Int) : Bool := powF S.toNat b S
theorem div_lt' {b S : Int} (hb : 2 ≤ b) (hS : 1 ≤ S) (h : S % b = 0) : 1 ≤ S / b ∧ S / b < S := by
  have e := Int.emod_add_mul_ediv S b
  rw [h, Int.zero_add] at e
  have p : 0 < S / b := by
    rcases Int.lt_or_le 0 (S / b) with z | z
    · exact z
    · have := Int.mul_le_mul_of_nonneg_left z (show 0 ≤ b by omega)
      omega
  have h2 := Int.mul_le_mul_of_nonneg_right hb (Int.le_of_lt p)
  exact ⟨p, by omega⟩
theorem powF_more {b : Int} (hb : 2 ≤ b) : ∀ (f : Nat) (S : Int), 1 ≤ S → S ≤ f → ∀ f' : Nat, S ≤ f' → powF f' b S = powF f b S
  | 0, S, h1, h2, _, _ => by omega
  | f + 1, S, h1, h2, f', h3 => by
    obtain ⟨g, rfl⟩ : ∃ g, f' = g + 1 := ⟨f' - 1, by omega⟩
    unfold powF
    by_cases h : S % b = 0
    · obtain ⟨p, q⟩ := div_lt' hb h1 h
      rw [if_pos h, if_pos h]
      exact powF_more hb f _ p (by omega) g (by omega)
    · rw [if_neg h, if_neg h]
theorem powB_div {b S : Int} (hb : 2 ≤ b) (hS : 1 ≤ S) (h : S % b = 0) : powB b S = powB b (S / b) := by
  obtain ⟨p, q⟩ := div_lt' hb hS h
  unfold powB
  obtain ⟨g, hg⟩ : ∃ g, S.toNat = g + 1 := ⟨S.toNat - 1, by omega⟩
  rw [hg, powF, if_pos h]
  exact powF_more hb _ _ p (by omega) _ (by omega)
theorem powB_end {b S : Int} (hS : 1 ≤ S) (h : S % b ≠ 0) : powB b S = decide (S = 1) := by
  unfold powB
  obtain ⟨g, hg⟩ : ∃ g, S.toNat = g + 1 := ⟨S.toNat - 1, by omega⟩
  rw [hg, powF, if_neg h]
theorem powF_ex {b : Int} (hb : 2 ≤ b) : ∀ (f : Nat) (S : Int), powF f b S = true → ∃ n : Nat, S = b ^ n
  | 0, S, h => by cases h
  | f + 1, S, h => by
    unfold powF at h
    by_cases hz : S % b = 0
    · rw [if_pos hz] at h
      obtain ⟨n, hn⟩ := powF_ex hb f _ h
      refine ⟨n + 1, ?_⟩
      have e := Int.emod_add_mul_ediv S b
      rw [hz, Int.zero_add, hn] at e
      rw [Int.pow_succ, Int.mul_comm]
      exact e.symm
    · rw [if_neg hz] at h
      exact ⟨0, by rw [Int.pow_zero]; exact of_decide_eq_true h⟩
theorem powB_ex {b S : Int} (hb : 2 ≤ b) (h : powB b S = true) : ∃ n : Nat, S = b ^ n := powF_ex hb _ _ h
theorem one_mod {b : Int} (hb : 2 ≤ b) : (1 : Int) % b ≠ 0 := by
  rw [Int.emod_eq_of_lt (by decide) (by omega)]
  decide
theorem pow_pos' {b : Int} (hb : 2 ≤ b) (n : Nat) : 1 ≤ b ^ n := Int.pow_pos (by omega)
theorem powB_pow {b : Int} (hb : 2 ≤ b) : ∀ n : Nat, powB b (b ^ n) = true
  | 0 => by
    rw [Int.pow_zero, powB_end (by decide) (one_mod hb)]
    rfl
  | n + 1 => by
    have e : b ^ (n + 1) % b = 0 := by rw [Int.pow_succ]; exact Int.mul_emod_left _ _
    rw [powB_div hb (pow_pos' hb _) e, Int.pow_succ, Int.mul_ediv_cancel _ (by omega)]
    exact powB_pow hb n
theorem pow_dvd {b S : Int} {n : Nat} (h : S = b ^ n) (h1 : S ≠ 1) : b ∣ S := by
  cases n with
  | zero => exact absurd (by rw [h, Int.pow_zero]) h1
  | succ n => rw [h, Int.pow_succ]; exact Int.dvd_mul_left _ _
/-! the last liquid -/
def fit (ns : List Int) (a b : Int) (i : Nat) : Bool := decide (ns.getD i 0 * b ≥ (b - a) * ns.sum)
def mark (ns : List Int) (a : Int) (i : Nat) : Bool := decide (a = 1) || decide (ns.getD i 0 % a ≠ 0)
def marked (ns : List Int) (a : Int) : List Nat := (List.range ns.length).filter (mark ns a)
def lastL (ns : List Int) (a b : Int) : Option Nat := if a > 1 ∧ (marked ns a).length > 1 then none else ((marked ns a).filter (fit ns a b)).getLast?
theorem lastL_some {ns : List Int} {a b : Int} {c : Nat} (h : lastL ns a b = some c) : c < ns.length ∧ fit ns a b c = true := by
  unfold lastL at h
  split at h
  · cases h
  · have h1 := List.mem_of_getLast? h
    obtain ⟨h2, h3⟩ := List.mem_filter.mp h1
    unfold marked at h2
    exact ⟨List.mem_range.mp (List.mem_filter.mp h2).1, h3⟩
/-! undone -/
def bef (ns : List Int) (a b : Int) (c : Nat) : List Int := (ns.map fun n => n * b).set c (ns.getD c 0 * b - (b - a) * ns.sum)
def befo (ns : List Int) (a b : Int) (c : Nat) : List Int := plain (bef ns a b c)
theorem bef_len (ns : List Int) (a b : Int) (c : Nat) : (bef ns a b c).length = ns.length := by unfold bef; simp
theorem befo_len (ns : List Int) (a b : Int) (c : Nat) : (befo ns a b c).length = ns.length := by unfold befo; rw [plain_len, bef_len]
theorem bef_sum {ns : List Int} {a b : Int} {c : Nat} (h : c < ns.length) : (bef ns a b c).sum = a * ns.sum := by
  unfold bef
  rw [sum_set _ _ _ (by rw [List.length_map]; exact h), sum_map_mul]
  have e : (ns.map fun n => n * b).getD c 0 = ns.getD c 0 * b := by
    rw [List.getD_eq_getElem?_getD, List.getD_eq_getElem?_getD, List.getElem?_map, List.getElem?_eq_getElem h]
    rfl
  rw [e, Int.sub_mul, Int.mul_comm ns.sum b]
  omega
theorem bef_get {ns : List Int} {a b : Int} {c i : Nat} (hi : i < ns.length) : (bef ns a b c)[i]? = some (ns.getD i 0 * b - if i = c then (b - a) * ns.sum else 0) := by
  unfold bef
  rw [List.getElem?_set]
  by_cases h : c = i
  · subst h
    rw [if_pos rfl, if_pos (by rw [List.length_map]; exact hi), if_pos rfl]
  · rw [if_neg h, if_neg (fun z => h z.symm), List.getElem?_map, List.getD_eq_getElem?_getD, List.getElem?_eq_getElem hi, Int.sub_zero]
    rfl
theorem pre_get {ns : List Int} {a b : Int} {c i : Nat} (hi : i < ns.length) : (pre ns a b c)[i]? = some (ns.getD i 0 * a + if i = c then (b - a) * ns.sum else 0) := by
  unfold pre
  rw [List.getElem?_set]
  by_cases h : c = i
  · subst h
    rw [if_pos rfl, if_pos (by rw [List.length_map]; exact hi), if_pos rfl]
  · rw [if_neg h, if_neg (fun z => h z.symm), List.getElem?_map, List.getD_eq_getElem?_getD, List.getElem?_eq_getElem hi, Int.add_zero]
    rfl
theorem getD_of {ns : List Int} {i : Nat} {x : Int} (h : ns[i]? = some x) : ns.getD i 0 = x := by rw [List.getD_eq_getElem?_getD, h]; rfl
theorem getD_in {ns : List Int} {i : Nat} (h : i < ns.length) : ns.getD i 0 ∈ ns := by
  rw [List.getD_eq_getElem?_getD, List.getElem?_eq_getElem h]
  exact List.getElem_mem h
theorem mem_at {ns : List Int} {x : Int} (h : x ∈ ns) : ∃ i, i < ns.length ∧ ns.getD i 0 = x := by
  obtain ⟨i, hi, e⟩ := List.mem_iff_getElem.mp h
  exact ⟨i, hi, by rw [List.getD_eq_getElem?_getD, List.getElem?_eq_getElem hi]; exact e⟩
theorem bef_amt {ns : List Int} {a b : Int} {c : Nat} (h : Con ns) (k : Kep a b) (hc : c < ns.length) (hf : fit ns a b c = true) : Amt (bef ns a b c) := by
  have hs := h.amt.pos
  have k1 := k.a1
  have k2 := k.ab
  refine ⟨fun n hn => ?_, ?_⟩
  · obtain ⟨i, hi, e⟩ := mem_at hn
    rw [bef_len] at hi
    rw [getD_of (bef_get hi)] at e
    rw [← e]
    have h0 := h.nn _ (getD_in hi)
    have h1 := Int.mul_nonneg h0 (show 0 ≤ b by omega)
    by_cases hic : i = c
    · subst hic
      rw [if_pos rfl]
      have := of_decide_eq_true hf
      omega
    · rw [if_neg hic]
      omega
  · rw [bef_sum hc]
    exact Int.mul_pos (by omega) hs
theorem befo_con {ns : List Int} {a b : Int} {c : Nat} (h : Con ns) (k : Kep a b) (hc : c < ns.length) (hf : fit ns a b c = true) : Con (befo ns a b c) :=
  plain_con (bef_amt h k hc hf) (by rw [bef_len]; exact h.len) (by rw [bef_len]; exact h.le8)
theorem befo_lt {ns : List Int} {a b : Int} {c : Nat} (h : Con ns) (k : Kep a b) (hc : c < ns.length) (hf : fit ns a b c = true) (hd : b ∣ ns.sum) : (befo ns a b c).sum < ns.sum := by
  have hs := h.amt.pos
  have k1 := k.a1
  have k2 := k.ab
  have hA := bef_amt h k hc hf
  have e := plain_sum hA
  rw [bef_sum hc] at e
  have hb : b.natAbs ∣ gcdN (bef ns a b c) := dvd_gcdN.mpr fun n hn => by
    obtain ⟨i, hi, e⟩ := mem_at hn
    rw [bef_len] at hi
    rw [getD_of (bef_get hi)] at e
    rw [← e]
    refine Int.natAbs_dvd_natAbs.mpr (Int.dvd_sub (Int.dvd_mul_left _ _) ?_)
    split
    · exact Int.dvd_trans hd (Int.dvd_mul_left _ _)
    · exact Int.dvd_zero _
  have hg := Nat.le_of_dvd (gcdN_pos hA) hb
  have hp : 0 ≤ (plain (bef ns a b c)).sum := sum_nn (befo_con h k hc hf).nn
  have h1 : (befo ns a b c).sum * b ≤ (befo ns a b c).sum * ((gcdN (bef ns a b c) : Nat) : Int) := Int.mul_le_mul_of_nonneg_left (by omega) hp
  have h2 : (befo ns a b c).sum * ((gcdN (bef ns a b c) : Nat) : Int) = a * ns.sum := e
  have h3 : a * ns.sum < b * ns.sum := Int.mul_lt_mul_of_pos_right k2 hs
  rw [h2] at h1
  have h4 : (befo ns a b c).sum * b < ns.sum * b := by rw [Int.mul_comm ns.sum b]; omega
  exact Int.lt_of_mul_lt_mul_right h4 (by omega)
def undo : Nat → List Int → Int → Int → List Nat × List Int
  | 0, ns, _, _ => ([], ns)
  | f + 1, ns, a, b => if ns.sum ≠ 1 ∧ powB b ns.sum = true then
      match lastL ns a b with
      | none => ([], ns)
      | some c => (c :: (undo f (befo ns a b c) a b).1, (undo f (befo ns a b c) a b).2)
    else ([], ns)
def und (ns : List Int) (a b : Int) : List Nat × List Int := undo ns.sum.toNat ns a b
structure Goes (ns : List Int) (a b : Int) (c : Nat) : Prop where
  s1 : ns.sum ≠ 1
  pw : powB b ns.sum = true
  la : lastL ns a b = some c
theorem Goes.con {ns : List Int} {a b : Int} {c : Nat} (G : Goes ns a b c) (h : Con ns) (k : Kep a b) : Con (befo ns a b c) := befo_con h k (lastL_some G.la).1 (lastL_some G.la).2
theorem Goes.dvd {ns : List Int} {a b : Int} {c : Nat} (G : Goes ns a b c) (k : Kep a b) : b ∣ ns.sum := by
  obtain ⟨n, hn⟩ := powB_ex (by have := k.a1; have := k.ab; omega) G.pw
  exact pow_dvd hn G.s1
theorem Goes.lt {ns : List Int} {a b : Int} {c : Nat} (G : Goes ns a b c) (h : Con ns) (k : Kep a b) : (befo ns a b c).sum < ns.sum := befo_lt h k (lastL_some G.la).1 (lastL_some G.la).2 (G.dvd k)
theorem undo_more {a b : Int} (k : Kep a b) : ∀ (f : Nat) (ns : List Int), Con ns → ns.sum ≤ f → ∀ f' : Nat, ns.sum ≤ f' → undo f' ns a b = undo f ns a b
  | 0, ns, h, h1, _, _ => by have := h.amt.pos; omega
  | f + 1, ns, h, h1, f', h2 => by
    have hs := h.amt.pos
    obtain ⟨g, rfl⟩ : ∃ g, f' = g + 1 := ⟨f' - 1, by omega⟩
    unfold undo
    by_cases hc : ns.sum ≠ 1 ∧ powB b ns.sum = true
    · rw [if_pos hc, if_pos hc]
      cases hl : lastL ns a b with
      | none => rfl
      | some c =>
        have G : Goes ns a b c := ⟨hc.1, hc.2, hl⟩
        have hlt := G.lt h k
        have := undo_more k f _ (G.con h k) (by omega) g (by omega)
        dsimp only
        rw [this]
    · rw [if_neg hc, if_neg hc]
theorem und_go {ns : List Int} {a b : Int} {c : Nat} (k : Kep a b) (h : Con ns) (G : Goes ns a b c) : und ns a b = (c :: (und (befo ns a b c) a b).1, (und (befo ns a b c) a b).2) := by
  have hs := h.amt.pos
  have hlt := G.lt h k
  have hc2 := G.con h k
  have e := undo_more k (befo ns a b c).sum.toNat _ hc2 (by omega) (ns.sum.toNat - 1) (by omega)
  unfold und
  rw [← e]
  obtain ⟨g, hg⟩ : ∃ g, ns.sum.toNat = g + 1 := ⟨ns.sum.toNat - 1, by omega⟩
  rw [hg, Nat.add_sub_cancel, undo, if_pos ⟨G.s1, G.pw⟩, G.la]
/-- what is undone so far -/
inductive Un (a b : Int) : List Int → List Nat → List Int → Prop
  | nil {ns : List Int} : Un a b ns [] ns
  | go {ns : List Int} {us : List Nat} {ms : List Int} {c : Nat} : Un a b ns us ms → Goes ms a b c → Un a b ns (us ++ [c]) (befo ms a b c)
theorem Un.con {a b : Int} (k : Kep a b) {ns : List Int} {us : List Nat} {ms : List Int} (u : Un a b ns us ms) (h : Con ns) : Con ms := by
  induction u with
  | nil => exact h
  | go u G ih => exact G.con ih k
theorem Un.sum {a b : Int} (k : Kep a b) {ns : List Int} {us : List Nat} {ms : List Int} (u : Un a b ns us ms) (h : Con ns) : ms.sum ≤ ns.sum := by
  induction u with
  | nil => exact Int.le_refl _
  | go u G ih => have := G.lt (u.con k h) k; omega
theorem Un.len {a b : Int} {ns : List Int} {us : List Nat} {ms : List Int} (u : Un a b ns us ms) : ms.length = ns.length := by
  induction u with
  | nil => rfl
  | go u G ih => rw [befo_len]; exact ih
theorem Un.liq {a b : Int} {ns : List Int} {us : List Nat} {ms : List Int} (u : Un a b ns us ms) : ∀ c ∈ us, c < ns.length := by
  induction u with
  | nil => intro c hc; cases hc
  | go u G ih =>
    intro c hc
    rcases List.mem_append.mp hc with z | z
    · exact ih c z
    · rw [List.mem_singleton.mp z, ← u.len]
      exact (lastL_some G.la).1
theorem Un.und {a b : Int} (k : Kep a b) {ns : List Int} {us : List Nat} {ms : List Int} (u : Un a b ns us ms) (h : Con ns) : und ns a b = (us ++ (und ms a b).1, (und ms a b).2) := by
  induction u with
  | nil => rfl
  | go u G ih =>
    rw [ih, und_go k (u.con k h) G, List.append_assoc]
    rfl
/-- each undone one halves the bottom at least -/
theorem Goes.half {ns : List Int} {a b : Int} {c : Nat} (G : Goes ns a b c) (h : Con ns) (k : Kep a b) : (befo ns a b c).sum < ns.sum := G.lt h k
end Ma
namespace Ma
theorem pow_gap {b : Int} (hb : 2 ≤ b) {i j : Nat} (h : b ^ i < b ^ j) : b ^ i * b ≤ b ^ j := by
  have hij : i < j := by
    rcases Nat.lt_or_ge i j with z | z
    · exact z
    · have h1 : b ^ j ≤ b ^ i := by
        obtain ⟨d, rfl⟩ := Nat.exists_eq_add_of_le z
        rw [Int.pow_add]
        have h2 := pow_pos' hb d
        have h3 := pow_pos' hb j
        have := Int.mul_le_mul_of_nonneg_left h2 (show 0 ≤ b ^ j by omega)
        omega
      omega
  obtain ⟨d, rfl⟩ := Nat.exists_eq_add_of_le (show i + 1 ≤ j from hij)
  rw [Int.pow_add, Int.pow_succ]
  have h2 := pow_pos' hb d
  have h3 := pow_pos' hb i
  have h4 : 0 ≤ b ^ i * b := Int.mul_nonneg (by omega) (by omega)
  have := Int.mul_le_mul_of_nonneg_left h2 h4
  omega
/-- each top-up that is undone before another one makes the bottom less by half at least -/
theorem Un.bound {a b : Int} (k : Kep a b) {ns : List Int} {us : List Nat} {ms : List Int} (u : Un a b ns us ms) (h : Con ns) : ∀ c, Goes ms a b c → ms.sum * 2 ^ us.length ≤ ns.sum := by
  have hb : 2 ≤ b := by have := k.a1; have := k.ab; omega
  induction u with
  | nil => intro c _; rw [List.length_nil, Int.pow_zero, Int.mul_one]; exact Int.le_refl _
  | go u G ih =>
    rename_i us ms c0
    intro c G2
    have h1 := ih _ G
    have h2 := G.lt (u.con k h) k
    obtain ⟨i, e1⟩ := powB_ex hb G2.pw
    obtain ⟨j, e2⟩ := powB_ex hb G.pw
    have h3 : (befo ms a b c0).sum * b ≤ ms.sum := by
      rw [e1, e2] at h2 ⊢
      exact pow_gap hb h2
    have hp := (G.con (u.con k h) k).amt.pos
    have h4 : (befo ms a b c0).sum * 2 ≤ ms.sum := Int.le_trans (Int.mul_le_mul_of_nonneg_left hb (by omega)) h3
    have h5 : (befo ms a b c0).sum * 2 * 2 ^ us.length ≤ ms.sum * 2 ^ us.length := Int.mul_le_mul_of_nonneg_right h4 (Int.le_of_lt (Int.pow_pos (by decide)))
    rw [List.length_append, List.length_singleton, Int.pow_succ, Int.mul_comm ((2 : Int) ^ us.length) 2, ← Int.mul_assoc]
    exact Int.le_trans h5 h1
end Ma
namespace Ma
/-! the histories told -/
def startOf (ns : List Int) : Nat := ns.findIdx fun n => n == 1
theorem start_at {ns : List Int} (hn : ∀ n ∈ ns, 0 ≤ n) (h : ns.sum = 1) : startOf ns < ns.length ∧ ns[startOf ns]? = some 1 := by
  have h1 : ∃ n ∈ ns, (n == 1) = true := by
    refine Classical.byContradiction fun z => ?_
    have h2 : ∀ n ∈ ns, n = 0 := fun n hm => by
      have h3 := hn n hm
      have h4 := le_sum hn hm
      have h5 : n ≠ 1 := fun e => z ⟨n, hm, by rw [e]; rfl⟩
      omega
    have h6 : ns.sum = 0 := by
      clear z hn h
      induction ns with
      | nil => rfl
      | cons n r ih =>
        rw [List.sum_cons, h2 n List.mem_cons_self, ih fun m hm => h2 m (List.mem_cons_of_mem _ hm)]
        rfl
    omega
  have hlt : startOf ns < ns.length := List.findIdx_lt_length.mpr h1
  refine ⟨hlt, ?_⟩
  have h7 := List.findIdx_getElem (w := hlt)
  rw [List.getElem?_eq_getElem hlt]
  have h8 : ns[startOf ns] = 1 := eq_of_beq h7
  rw [h8]
theorem start_min {ns : List Int} {m : Nat} (h : m < startOf ns) : ns.getD m 0 ≠ 1 := by
  have h1 := List.not_of_lt_findIdx h
  intro e
  have hl : m < ns.length := Nat.lt_of_lt_of_le h List.findIdx_le_length
  rw [List.getD_eq_getElem?_getD, List.getElem?_eq_getElem hl] at e
  have e2 : ns[m] = 1 := e
  rw [e2] at h1
  cases h1
end Ma
namespace Ma
/-! the last liquid, in the law's words -/
theorem range_single {p : Nat → Bool} {c : Nat} : ∀ n, c < n → (List.range n).filter (fun i => p i && decide (i = c)) = if p c = true then [c] else []
  | 0, h => by omega
  | n + 1, h => by
    rw [List.range_succ, List.filter_append]
    by_cases e : c = n
    · subst e
      have h1 : (List.range c).filter (fun i => p i && decide (i = c)) = [] := by
        rw [List.filter_eq_nil_iff]
        intro i hi
        have := List.mem_range.mp hi
        rw [decide_eq_false (show ¬ i = c by omega), Bool.and_false]
        exact Bool.false_ne_true
      rw [h1, List.nil_append, List.filter_cons, decide_eq_true rfl, Bool.and_true]
      cases p c <;> rfl
    · rw [range_single n (by omega), List.filter_cons, decide_eq_false (show ¬ n = c by omega), Bool.and_false]
      simp
end Ma
end

section
set_option Elab.async false
set_option linter.all false
set_option maxRecDepth 100000
namespace Mc
/-! kept shares that leave one history -/
def prodW : List (Int × Int) → Int
  | [] => 1
  | q :: r => q.2 * prodW r
theorem prodW_app (q : Int × Int) : ∀ l : List (Int × Int), prodW (l ++ [q]) = prodW l * q.2
  | [] => by simp [prodW]
  | p :: r => by
    show p.2 * prodW (r ++ [q]) = p.2 * prodW r * q.2
    rw [prodW_app q r, Int.mul_assoc]
def gt1 (a b : Nat) : Bool := decide (1 < Nat.gcd a b)
theorem gt1_mul {a x y : Nat} (ha : 0 < a) : gt1 a (x * y) = (gt1 a x || gt1 a y) := by
  unfold gt1
  have h1 := Nat.gcd_pos_of_pos_left x ha
  have h2 := Nat.gcd_pos_of_pos_left y ha
  have h3 := Nat.gcd_pos_of_pos_left (x * y) ha
  by_cases e1 : Nat.gcd a x = 1
  · by_cases e2 : Nat.gcd a y = 1
    · have e3 : Nat.gcd a (x * y) = 1 := Nat.Coprime.mul_right e1 e2
      rw [e1, e2, e3]; rfl
    · have e3 : Nat.gcd a (x * y) ≠ 1 := fun z => e2 (Nat.Coprime.coprime_mul_left_right z)
      rw [decide_eq_true (show 1 < Nat.gcd a (x * y) by omega), decide_eq_true (show 1 < Nat.gcd a y by omega), Bool.or_true]
  · have e3 : Nat.gcd a (x * y) ≠ 1 := fun z => e1 (Nat.Coprime.coprime_mul_right_right z)
    rw [decide_eq_true (show 1 < Nat.gcd a (x * y) by omega), decide_eq_true (show 1 < Nat.gcd a x by omega), Bool.true_or]
theorem gt1_prod {a : Nat} (ha : 0 < a) : ∀ l : List (Int × Int), gt1 a (prodW l).natAbs = l.any fun e => gt1 a e.2.natAbs
  | [] => by
    show gt1 a 1 = false
    unfold gt1
    rw [Nat.gcd_one_right]
    rfl
  | q :: r => by
    show gt1 a (q.2 * prodW r).natAbs = (gt1 a q.2.natAbs || _)
    rw [Int.natAbs_mul, gt1_mul ha, gt1_prod ha r]
theorem prodW_bound : ∀ l : List (Int × Int), (∀ q ∈ l, q.2.natAbs ≤ 100) → (prodW l).natAbs ≤ 100 ^ l.length
  | [], _ => by decide
  | q :: r, h => by
    show (q.2 * prodW r).natAbs ≤ 100 ^ (r.length + 1)
    rw [Int.natAbs_mul, Nat.pow_succ, Nat.mul_comm]
    exact Nat.mul_le_mul (prodW_bound r fun p hp => h p (List.mem_cons_of_mem _ hp)) (h q List.mem_cons_self)
def badB (ks : List (Int × Int)) (i : Nat) : Bool :=
  decide ((ks.getD i (1, 2)).2 ≤ 2 * (ks.getD i (1, 2)).1) && (decide ((ks.getD i (1, 2)).1 = 1) || (ks.take i).any fun e => gt1 (ks.getD i (1, 2)).1.natAbs e.2.natAbs)
def dueB (ks : List (Int × Int)) : Bool := (List.range ks.length).all fun i => !badB ks i
theorem due_false {ks : List (Int × Int)} {i : Nat} (hi : i < ks.length) (h : badB ks i = true) : dueB ks = false := by
  unfold dueB
  rw [List.all_eq_false]
  exact ⟨i, List.mem_range.mpr hi, by rw [h]; decide⟩
theorem due_true {ks : List (Int × Int)} (h : ∀ i, i < ks.length → badB ks i = false) : dueB ks = true := by
  unfold dueB
  rw [List.all_eq_true]
  intro i hi
  rw [h i (List.mem_range.mp hi)]
  rfl
end Mc
end

section
set_option Elab.async false
set_option linter.all false
set_option maxRecDepth 100000
set_option maxHeartbeats 4000000
namespace K34
open PySem PySem.Spec PyProof.Rows L2 GxR Gx Ma Mc
section
variable {P : Program} {w : World} {K : PySem.W.Frag} {mg : Str → Option Value} {base : Heap}

theorem dp_ints {K : PySem.W.Frag} {H : Hp} : ∀ ns : List Int, DpAll K H (ns.map V.int) (ns.map PyData.int)
  | [] => .nil
  | n :: r => .cons (.int n) (dp_ints r)
theorem canLay_ints : ∀ ns : List Int, PyData.canLayAll0 (ns.map PyData.int) = true
  | [] => rfl
  | n :: r => by rw [List.map_cons, PyData.canLayAll0, canLay_ints r]; rfl
theorem depth_ints : ∀ ns : List Int, PyData.depthAll (ns.map PyData.int) ≤ 1
  | [] => by decide
  | n :: r => by
    have := depth_ints r
    simp only [List.map_cons, PyData.depthAll, PyData.depth]
    omega
theorem shaped_ints (ns : List Int) : SeqAt.shaped (.list (ns.map PyData.int)) = true := by
  have h1 := depth_ints ns
  unfold SeqAt.shaped
  rw [Bool.and_eq_true]
  refine ⟨canLay_ints ns, decide_eq_true ?_⟩
  rw [PyData.depth]
  omega
theorem dp_li {K : PySem.W.Frag} {H : Hp} {l : Addr} {ns : List Int} (h : LI H l ns) : Dp K H (.ref l) (.list (ns.map PyData.int)) := .lst (SqL.of h) (dp_ints ns)
theorem eqv_ints (ns : List Int) : PyData.eqv (.list (ns.map PyData.int)) (.list (ns.map PyData.int)) = true := SeqAt.eqv_refl _ (canLay_ints ns)

theorem sql_same {H H' : Hp} {a : Addr} {xs : List V} (h : SqL K H a xs) (e : Same H H') : SqL K H' a xs :=
  h.elim (fun h => .inl (h.elim (fun h => .inl (e _ _ h)) fun ⟨o, h⟩ => .inr ⟨o, e _ _ h⟩)) fun h => .inr h
theorem sl_listK {X : Cx} {K : PySem.W.Frag} (e : X.K = K) : SlR X (rSlL K) := e ▸ sl_list
theorem dp_rows {K : PySem.W.Frag} {H : Hp} {v : Nat → List Int} : ∀ (ps : List Addr) (k : Nat), (∀ (i : Nat) (a : Addr), ps[i]? = some a → LI H a (v (k + i))) → DpAll K H (ps.map V.ref) ((List.range' k ps.length).map fun i => PyData.list ((v i).map PyData.int))
  | [], _, _ => .nil
  | a :: r, k, h => by
    rw [List.length_cons, List.range'_succ]
    refine .cons (dp_li (h 0 a rfl)) (dp_rows r (k + 1) fun i b hb => ?_)
    have := h (i + 1) b hb
    rw [show k + 1 + i = k + (i + 1) by omega]
    exact this
def datR (v : Nat → List Int) (n : Nat) : PyData := .list ((List.range' 0 n).map fun i => PyData.list ((v i).map PyData.int))
theorem Rows.dp {K : PySem.W.Frag} {H H' : Hp} {p : Addr} {ps : List Addr} {n : Nat} {v : Nat → List Int} (R : Rows H H' p ps n v) {H2 : Hp} (s : Same H' H2) : Dp K H2 (.ref p) (datR v n) := by
  unfold datR
  rw [← R.len]
  exact .lst (SqL.of (s _ _ R.at_)) (dp_rows ps 0 fun i a h => by rw [Nat.zero_add]; exact s _ _ (R.row i a h))
def two (ns ms : List Int) : PyData := .list [.list (ns.map PyData.int), .list (ms.map PyData.int)]
theorem rowI_len (cs : List Nat) : (rowI cs).length = cs.length := by unfold rowI; rw [List.length_map]
theorem map_ref {ps : List Addr} {i : Nat} {x : V} (h : (ps.map V.ref)[i]? = some x) : ∃ a, ps[i]? = some a ∧ x = .ref a := by
  rw [List.getElem?_map] at h
  cases e : ps[i]? with
  | none => rw [e] at h; cases h
  | some a => rw [e] at h; exact ⟨a, rfl, (Option.some.inj h).symm⟩
theorem Jar.tab {H : Hp} {j T : Addr} {n : Nat} (h : Jar H j n) (e : H T = some (TabO T)) : T ≠ j := fun z => by
  obtain ⟨_, _, _, q, _⟩ := h
  rw [z, q] at e
  cases e
theorem dec_int {i j : Int} : decide (V.int i = V.int j) = decide (i = j) := by
  by_cases h : i = j
  · rw [h, decide_eq_true rfl, decide_eq_true rfl]
  · rw [decide_eq_false h, decide_eq_false fun z => h (by cases z; rfl)]
theorem fac_w {ns : List Int} {a b : Int} (hc : Con ns) (k : Kep a b) (hz : ns.sum < 2 ^ 7000) : CMulW (b - a) ns.sum := by
  have := k.a1
  have := k.ab
  have := k.b100
  exact wide_mul (a := 7) (b := 7000) (abs_lt (by omega) (by omega)) (abs_lt (Int.le_of_lt hc.amt.pos) hz) (by decide) (by decide) (by decide)
theorem fac_n {ns : List Int} {b n : Int} (hc : Con ns) (hb : 0 ≤ b ∧ b ≤ 100) (hz : ns.sum < 2 ^ 7000) (hn : n ∈ ns) : CMulW n b ∧ CMulW b n := by
  have h1 := le_sum hc.nn hn
  have h2 := hc.nn n hn
  have e1 : n.natAbs < 2 ^ 7000 := abs_lt h2 (Int.lt_of_le_of_lt h1 hz)
  exact ⟨wide_mul e1 (b := 7) (by omega) (by decide) (by decide) (by decide), wide_mul (a := 7) (by omega) e1 (by decide) (by decide) (by decide)⟩
theorem at_int {ns : List Int} {c : Nat} (h : c < ns.length) : atI (ns.map V.int) (c : Int) = some (.int (ns.getD c 0)) := atI_nat (get_map (by rw [List.getD_eq_getElem?_getD, List.getElem?_eq_getElem h]; rfl))

end
end K34
end

section
set_option Elab.async false
set_option linter.all false
set_option maxRecDepth 100000
set_option maxHeartbeats 4000000
/-! list(zip(xs, ys)), xs and ys tracked lists, as a value. -/
namespace L2
open PySem PySem.Spec PyProof.Rows
section
variable {X : Cx} {pins : List (Addr × Obj)} {σ : St} {H : Hp} {s s' : Shared}
/-- a zip of the lists at a and b that stands at i -/
structure ZpS (h : Heap) (z TI TO i1 i2 a b : Addr) (i : Nat) : Prop where
  zz : (IsZip h z TI TO .none ∧ ∃ u v, IsPair h TO u v) ∨ ∃ T f oT, IsZipHeld h z TI TO T f ∧ h.get? T = some oT
  ti : IsPair h TI (.ref i1) (.ref i2)
  h1 : h.IsListIter i1 a i
  h2 : h.IsListIter i2 b i
  to : ∃ o, h.get? TO = some o
theorem ZpS.type {h : Heap} {z TI TO i1 i2 a b : Addr} {i : Nat} (Z : ZpS h z TI TO i1 i2 a b i) : ∃ o, h.get? z = some o ∧ o.cls = .type "zip" := by
  rcases Z.zz with ⟨e, _⟩ | ⟨T, f, oT, e, _⟩
  · exact ⟨_, e, rfl⟩
  · exact ⟨_, e, rfl⟩
/-- the list at q is written, all else stays -/
theorem ZpS.but {h h' : Heap} {z TI TO i1 i2 a b q : Addr} {i : Nat} (Z : ZpS h z TI TO i1 i2 a b i) (k : ∀ c, c ≠ q → h'.get? c = h.get? c) (kq : ∀ o, h.get? q = some o → ∃ o', h'.get? q = some o')
    (q1 : z ≠ q) (q2 : TI ≠ q) (q3 : TO ≠ q) (q4 : i1 ≠ q) (q5 : i2 ≠ q) : ZpS h' z TI TO i1 i2 a b i := by
  refine ⟨?_, (k _ q2).trans Z.ti, Z.h1.at fun o e => (k _ q4).trans e, Z.h2.at fun o e => (k _ q5).trans e, let ⟨o, e⟩ := Z.to; ⟨o, (k _ q3).trans e⟩⟩
  rcases Z.zz with ⟨e, u, v, e2⟩ | ⟨T, f, oT, e, e2⟩
  · exact .inl ⟨(k _ q1).trans e, u, v, (k _ q3).trans e2⟩
  · refine .inr ?_
    by_cases hT : T = q
    · subst hT
      obtain ⟨o', e'⟩ := kq _ e2
      exact ⟨T, f, o', (k _ q1).trans e, e'⟩
    · exact ⟨T, f, oT, (k _ q1).trans e, (k _ hT).trans e2⟩
end
end L2
end

section
set_option Elab.async false
set_option linter.all false
set_option maxRecDepth 100000
set_option maxHeartbeats 4000000
/-! An own class: its defs by their names, its properties, objects made, attributes as targets. -/
namespace Gx
open PySem PySem.Spec PyProof.Rows L2 GxR
/-- a def of the class at C, as the top has made it -/
structure DM (K : PySem.W.Frag) (C : Addr) (m qual : Str) (st : Stmt) : Prop where
  ex : ∃ f fd, Fun K m qual st f fd ∧ Meth K C m f
structure Mt (P : Program) (w : World) (K : PySem.W.Frag) (mg : Str → Option Value) (base : Heap) (k : Nat) (C : Addr) (m : Str) (ps : List Str) (sp : Sp) : Prop where
  ex : ∃ f fd, FnOk P w K mg base CX0 k f fd ps sp ∧ Meth K C m f ∧ Binds K fd ps []
structure Pr (P : Program) (w : World) (K : PySem.W.Frag) (mg : Str → Option Value) (base : Heap) (k : Nat) (C : Addr) (m : Str) (sp : Sp) : Prop where
  ex : ∃ p g fd, FnOk P w K mg base CX0 k g fd ["self"] sp ∧ PropOf K C m p g ∧ Binds K fd ["self"] []
structure Mkr (P : Program) (w : World) (K : PySem.W.Frag) (mg : Str → Option Value) (base : Heap) (k : Nat) (C : Addr) (x : Str) (ps : List Str) (sp : Sp) : Prop where
  ex : ∃ f fd, FnOk P w K mg base CX0 k f fd ps sp ∧ Mk K C f ∧ mg x = some (.ref C) ∧ Binds K fd ps []
section
variable {P : Program} {w : World} {K : PySem.W.Frag} {mg : Str → Option Value} {base : Heap} {k : Nat} {C : Addr} {x m qual : Str} {ps : List Str} {sp : Sp} {st : Stmt}
theorem mt_mk (D : DM K C m qual st) (hb : ∀ f fd, Fun K m qual st f fd → Binds K fd ps []) (F : ∀ f fd, Fun K m qual st f fd → FnOk P w K mg base CX0 k f fd ps sp) : Mt P w K mg base k C m ps sp :=
  let ⟨f, fd, F0, m0⟩ := D.ex; ⟨⟨f, fd, F f fd F0, m0, hb f fd F0⟩⟩
theorem mkr_mk (D : DM K C "__init__" qual st) (hmk : PySem.W.makesIn K C = true) (hkp : PySem.W.keepIn K (.ref C) = true) (hm : mg x = some (.ref C)) (hb : ∀ f fd, Fun K "__init__" qual st f fd → Binds K fd ps []) (F : ∀ f fd, Fun K "__init__" qual st f fd → FnOk P w K mg base CX0 k f fd ps sp) : Mkr P w K mg base k C x ps sp :=
  let ⟨f, fd, F0, m0⟩ := D.ex; ⟨⟨f, fd, F f fd F0, ⟨hmk, m0.at_, m0.fn, hkp⟩, hm, hb f fd F0⟩⟩
end
section
variable {X : Cx} {C : Addr} {k : Nat} {m x : Str} {ps : List Str} {sp : Sp}
/-- o.m(e, ..) -/
theorem pe_mt {o e : Expr} {es : List Expr} {apos pos : Pos} {ta : TE} {t : TA} {pl : Sem Bool} (c : Cls X.K C) (M : Mt X.prog X.w X.K X.mg X.base k C m ps sp) (hr : Room k X.A) (he : PE X o ta) (ha : PA X (e :: es) t)
    (hst : starEach (e :: es) X.env = (false, eval e X.env) :: starEach es X.env := by rfl) (hpl : (backTo pos (starEach es X.env)).any (·.1) = false := by rfl)
    (ht : eval (.Call (.Attribute o m apos) (e :: es) [] pos) X.env = (do
      let ov ← eval o X.env
      standAt apos.atName
      let (f, first) ← holding [ov] (getMethod ov m pl)
      callWith pos f first (backTo pos (starEach (e :: es) X.env)) (backToKw pos (keywordEach [] X.env))) := by rfl) :
    PE X (.Call (.Attribute o m apos) (e :: es) [] pos) (tMeth C m sp [] E0 ta t) := by
  obtain ⟨f, fd, F, hm, hb⟩ := M.ex
  exact pe_meth he c hm F hr hb .nil pass0 ha hst hpl ht
/-- C(e, ..) -/
theorem pe_mkr {e : Expr} {es : List Expr} {p pos : Pos} {t : TA} (M : Mkr X.prog X.w X.K X.mg X.base k C x ps sp) (hr : Room (k + 1) X.A) (ha : PA X (e :: es) t) (hg : Gl X x := by rfl) (hdb : (x == ("__debug__" : Str)) = false := by decide)
    (he : starEach (e :: es) X.env = (false, eval e X.env) :: starEach es X.env := by rfl) (hpl : (backTo pos (starEach es X.env)).any (·.1) = false := by rfl) : PE X (.Call (.Name x p) (e :: es) [] pos) (tMake C sp [] E0 t) := by
  obtain ⟨f, fd, F, hm, hx, hb⟩ := M.ex
  exact pe_make hm F hr hg hx hb .nil pass0 ha hdb he hpl
end
section
variable {K : PySem.W.Frag} {mg : Str → Option Value} {h : Heap} {Goal : Prop} {C : Addr}
/-- the class itself -/
structure Kls (K : PySem.W.Frag) (mg : Str → Option Value) (x : Str) (C : Addr) : Prop where
  cl : Cls K C
  at_ : mg x = some (.ref C)
  made : PySem.W.makesIn K C = true
  kp : PySem.W.keepIn K (.ref C) = true
theorem with_kls {x : Str} (X : K.In h) (G : h.Ns mainGlobals mg) (a : PySem.W.nsIn K mainGlobals x = some (some (.ref C))) (pg : PySem.W.plainGet K C Str.empty = true) (hd : PySem.W.hasDictIn K C = true) (po : PySem.W.plainOver K C = true) (sa : PySem.W.findIn K (.ref C) "__setattr__" = some (some (.builtin "object.__setattr__"))) (mk : PySem.W.makesIn K C = true) (kc : PySem.W.keepIn K (.ref C) = true)
    (go : Kls K mg x C → Goal) : Goal := go ⟨⟨pg, hd, po, sa⟩, PySem.W.mg_of X G a, mk, kc⟩
end
end Gx
end

section
set_option Elab.async false
set_option linter.all false
set_option maxRecDepth 100000
set_option maxHeartbeats 4000000
namespace Gx
open PySem PySem.Spec PyProof.Rows L2 GxR
section
variable {K : PySem.W.Frag} {mg : Str → Option Value} {h : Heap} {Goal : Prop} {C : Addr}
theorem with_meth2 {y : Str} (KL : Kls K mg y C) {x qual : Str} {st : Stmt} {f : Addr} {oc : Value} {od an : Option Addr} {osl : Array (Option Value)} {kV doc pm cdv ct : Value} (a : PySem.W.findIn K (.ref C) x = some (some (.ref f))) (i : PySem.W.isFn K (.ref f) = true)
    (l : K.lookup f = some ⟨oc, od, .func (PySem.W.fnOf x qual (defArgs st) (defBody st) (defScope st) .none kV doc pm an cdv ct), osl⟩) (c : PySem.W.codeIn K cdv qual = true) (k : PySem.W.keepIn K (.ref f) = true) (go : DM K C x qual st → Goal) : Goal :=
  go ⟨⟨f, _, fun_mk l c k, ⟨a, i, k⟩⟩⟩
theorem with_na2 {y f : Str} (KL : Kls K mg y C) (a : PySem.W.findIn K (.ref C) f = some none) (go : NoAttr K C f → Goal) : Goal := go a
end
end Gx
end

section
set_option Elab.async false
set_option linter.all false
set_option maxRecDepth 100000
set_option maxHeartbeats 4000000
/-! Generator expressions with any target, whose callers may write to what is tracked between two items; sum(..) of one. -/
namespace Gx
open PySem PySem.Spec PyProof.Rows L2 GxR
def none0 (xs : List Str) : L2.St := xs.map fun _ => none
structure GOkV (N : List Str) (sc scope : Scope) (xs : List Str) (ns : List (Str × Nat)) : Prop where
  kind : scope.kind = .function
  co : scope.isCoroutine = false
  cell : ∀ y ∈ scope.names, y.2 ≠ .cell
  dot : scope.names.lookup (".0" : Str) = some NameKind.local
  free : ∀ y ∈ scope.names, y.2 = .free → sc.names.lookup y.1 = some .cell ∨ sc.names.lookup y.1 = some .free
  caps : ∀ p ∈ ns, N[p.2]? = some p.1 ∧ (p.1, NameKind.free) ∈ scope.names
  uniq : ∀ y ∈ scope.names, scope.names.lookup y.1 = some y.2
def gokVB (N : List Str) (sc scope : Scope) (ns : List (Str × Nat)) : Bool :=
  decide (scope.kind = .function) && !scope.isCoroutine && scope.names.all (fun y => decide (y.2 ≠ .cell)) && decide (scope.names.lookup (".0" : Str) = some NameKind.local) &&
  scope.names.all (fun y => decide (y.2 = .free → sc.names.lookup y.1 = some .cell ∨ sc.names.lookup y.1 = some .free)) && ns.all (fun p => decide (N[p.2]? = some p.1) && decide ((p.1, NameKind.free) ∈ scope.names)) && scope.names.all (fun y => decide (scope.names.lookup y.1 = some y.2))
theorem gokV_by {N : List Str} {sc scope : Scope} {xs : List Str} {ns : List (Str × Nat)} (h : gokVB N sc scope ns = true) : GOkV N sc scope xs ns := by
  unfold gokVB at h
  simp only [Bool.and_eq_true, List.all_eq_true, decide_eq_true_eq, Bool.not_eq_true'] at h
  obtain ⟨⟨⟨⟨⟨⟨h1, h2⟩, h3⟩, h4⟩, h6⟩, h7⟩, h8⟩ := h
  exact ⟨h1, h2, fun y hy => h3 y hy, h4, fun y hy => h6 y hy, fun p hp => h7 p hp, fun y hy => h8 y hy⟩
/-- the names of the def are as they were -/
def Keep2 (σ0 σ1 : L2.St) : Prop := σ1.length = σ0.length ∧ ∀ (j : Nat) (v : V), σ0[j]? = some (some v) → σ1[j]? = some (some v)
theorem keep2_2 {x y : Option V} {c : L2.St} : Keep2 (none :: none :: c) (x :: y :: c) := ⟨rfl, fun j v h => by
  match j, h with
  | 0, h => cases h
  | 1, h => cases h
  | j + 2, h => exact h⟩
/-- what is not tracked is as it was -/
def Unt (H : Hp) (s : Shared) (H' : Hp) (s' : Shared) : Prop := ∀ b o, H b = none → s.heap.get? b = some o → H' b = none ∧ s'.heap.get? b = some o
def GEndV (G : Cx) (a : Addr) (go : Obj) (σ0 : L2.St) (L : Nat) (Pv : Nat → Hp → Prop) : Nat → Shared → Shared → Prop := fun n _ s => n = 1 ∧ ∃ H, Inv G [(a, go)] σ0 H s ∧ Pv L H
def GYldV (G : Cx) (a : Addr) (go : Obj) (σ0 : L2.St) (L : Nat) (Pv : Nat → Hp → Prop) (Ye : Nat → V → Hp → Prop) : Protocol := fun n _ v s kap =>
  ∃ i y H, i < L ∧ n + i = L ∧ RelV y v ∧ Inv G [(a, go)] σ0 H s ∧ Ye i y H ∧ ∀ s' H', Inv G [(a, go)] σ0 H' s' → Unt H s H' s' → Pv (i + 1) H' → kap (.send .none) s'
section
variable {X : Cx} {pins : List (Addr × Obj)} {σ : L2.St} {H : Hp} {s : Shared}
theorem inv_genV {s5 : Shared} {scope : Scope} {xs : List Str} {ns : List (Str × Nat)} {fp : List Addr} {P C a : Addr} {go : Obj} {code it : Value} {A : Around}
    (I : Inv X pins σ H s) (S : GOkV X.N X.env.scope scope xs ns) (hP : H P = some (TabO P)) (hf : ∀ b ∈ fp, FpOk X pins H b) (hfo : ∀ b ∈ fp, ∃ o, s.heap.get? b = some o)
    (hA : A.frames = some (genEnv scope (cloFrom X.env.cells scope.names []) C code builtinsNs X.env :: X.stack)) (hh : A.handled = none) (hC : s.heap.objs.size ≤ C) (ha : C < a)
    (ho : s5.os = s.os) (hb : AllBare s5.gens) (k : ∀ b o, b ≠ P → s.heap.get? b = some o → s5.heap.get? b = some o) (hp : tabPhi P s5.heap)
    (hn : s5.heap.Ns C (fun y => if y = ".0" then some it else none)) (hgo : s5.heap.get? a = some go) (hgd : ∀ v, go.data ≠ .cell v) :
    Inv (gcx X s H (xs ++ ns.map (·.1)) (genEnv scope (cloFrom X.env.cells scope.names []) C code builtinsNs X.env) fp A) [(a, go)] (none0 xs ++ capsOf σ ns) H s5 := by
  have hfree : ∀ y ∈ scope.names, y.2 = .free → ∃ c, X.env.cells.lookup y.1 = some c := fun y hy e => by
    rcases S.free y hy e with k | k
    · exact I.ok.has _ (.inl k)
    · exact I.ok.has _ (.inr k)
  have nP : ∀ b, H b = none → b ≠ P := fun b e z => by
    rw [z, hP] at e
    cases e
  have fplt : ∀ b ∈ fp, b < s.heap.objs.size := fun b hb => let ⟨o, e⟩ := hfo b hb; Heap.lt_size e
  have stk : ∀ b ∈ fp, b ∉ frs X.stack := fun b hb hm => by
    obtain ⟨_, f1, f2, _⟩ := hf b hb
    rcases List.mem_cons.mp (I.stkSub b hm) with z | z
    · exact f1 z
    · exact f2 z
  have noA : ∀ b, s.heap.objs.size ≤ b → b ∉ frs X.stack := fun b hb hm => by
    rcases List.mem_cons.mp (I.stkSub b hm) with z | z
    · have := I.lt
      rw [← z] at this
      exact absurd (Nat.lt_of_lt_of_le this hb) (Nat.lt_irrefl _)
    · exact I.nofs hb z
  refine ⟨⟨I.mod, S.kind, I.ok.glob, rfl, hC, fun y z c h1 h2 => ?_, fun y hy => ?_, fun y c h _ => (by cases h), fun _ => hh, hA, .inr ⟨rfl, rfl⟩, fun b hb => ⟨?_, fun y c h z => ?_⟩, fun b o e => I.bs b o e, Nat.le_trans I.ok.bsz I.sz, fun b o e hm => ?_, fun b hb => stk b hb, I.stack, I.stkFree⟩,
    ho, hb, ⟨fun b o e n _ _ => k b o (nP b n) e, fun b o e n _ _ => ⟨o.slots, k b o (nP b n) e⟩, fun _ _ _ n _ => n, fun b o e _ => ?_, fun _ _ q => q, fun _ _ _ q => q, fun b ps q => ⟨#[], by
      have q' : H b = some (.tbl ps) := q
      rw [q']; simp⟩⟩,
    ⟨_, hn, fun i y v h1 h2 h3 => ?_⟩, fun y c h => ?_, I.hok.fresh hC, fun y c h => ?_, fun p hp' => ?_, fun b u e => ?_, ?_⟩
  · exact I.ok.inj _ _ _ (clo_of hfree h1).2 (clo_of hfree h2).2
  · have hy : scope.names.lookup y = some .cell ∨ scope.names.lookup y = some .free := hy
    rcases hy with hy | hy
    · exact absurd rfl (S.cell _ (PySem.mem_of_lookup hy))
    · obtain ⟨c, e⟩ := hfree _ (PySem.mem_of_lookup hy) rfl
      exact ⟨c, clo_lookup (PySem.mem_of_lookup hy) e⟩
  · exact Nat.ne_of_lt (Nat.lt_of_lt_of_le (fplt b hb) hC)
  · obtain ⟨_, _, _, _, f4, _⟩ := hf b hb
    exact f4 y c (clo_of hfree h).2 z
  · obtain ⟨_, _, _, f3, _⟩ := hf b hm
    rcases f3 with z | z
    · exact I.ok.noex b o e z
    · exact absurd (Nat.lt_of_lt_of_le (Heap.lt_size e) (Nat.le_trans I.ok.bsz z)) (Nat.lt_irrefl _)
  · by_cases hb : b = P
    · obtain ⟨ps, e2, _⟩ := hp
      exact ⟨_, by rw [hb]; exact e2⟩
    · exact ⟨o, k b o hb e⟩
  · by_cases hix : i < xs.length
    · rw [List.getElem?_append_left (by unfold none0; rw [List.length_map]; exact hix)] at h2
      unfold none0 at h2
      rw [List.getElem?_map, List.getElem?_eq_getElem hix] at h2
      cases h2
    · obtain ⟨i, rfl⟩ : ∃ j, i = xs.length + j := ⟨i - xs.length, by omega⟩
      have hln : (none0 xs).length = xs.length := List.length_map _
      rw [List.getElem?_append_right (by omega), Nat.add_sub_cancel_left] at h1
      rw [List.getElem?_append_right (by omega), hln, Nat.add_sub_cancel_left] at h2
      have h1' : (ns.map (·.1))[i]? = some y := h1
      have h2' : (capsOf σ ns)[i]? = some (some v) := h2
      unfold capsOf at h2'
      rw [List.getElem?_map] at h1' h2'
      cases e : ns[i]? with
      | none => rw [e] at h1'; cases h1'
      | some p =>
        rw [e] at h1' h2'
        have e1 : p.1 = y := Option.some.inj h1'
        have e2 : (σ[p.2]?).join = some v := Option.some.inj h2'
        obtain ⟨c1, c2⟩ := S.caps p (List.mem_of_getElem? e)
        obtain ⟨m, hm, hl⟩ := I.loc
        have e3 : σ[p.2]? = some (some v) := by
          cases q : σ[p.2]? with
          | none => rw [q] at e2; cases e2
          | some w => rw [q] at e2; have e2' : w = some v := e2; rw [e2']
        have hk := S.free _ c2 rfl
        have hvis : Vis X.env.scope p.1 := .inr hk
        obtain ⟨u, r, lk⟩ := hl p.2 p.1 v c1 e3 hvis
        refine ⟨u, r, ?_⟩
        rcases lk with ⟨kl, _⟩ | ⟨_, c, hc, ic⟩
        · have kl' : X.env.scope.names.lookup p.1 = some .local := kl
          rcases hk with hk | hk
          · rw [show X.env.scope.names.lookup p.1 = some .cell from hk] at kl'; cases kl'
          · rw [show X.env.scope.names.lookup p.1 = some .free from hk] at kl'; cases kl'
        · rw [← e1]
          refine .inr ⟨.inr (S.uniq _ c2), c, clo_lookup c2 hc, ?_⟩
          obtain ⟨oc, ho', hd'⟩ := ic
          exact ⟨oc, k c oc (nP c (I.freeC _ _ hc)) ho', hd'⟩
  · have hc := (clo_of hfree h).2
    obtain ⟨v, oc, ho', hd'⟩ := I.cell y c hc
    exact ⟨v, oc, k c oc (nP c (I.freeC _ _ hc)) ho', hd'⟩
  · exact I.freeC _ _ (clo_of hfree h).2
  · have hp2 : p ∈ [(a, go)] := hp'
    rw [List.mem_singleton.mp hp2]
    have hsa : s.heap.objs.size ≤ a := Nat.le_trans hC (Nat.le_of_lt ha)
    exact ⟨hgo, I.hok.fresh hsa, Nat.ne_of_gt ha, noA a hsa, hgd⟩
  · by_cases hb : b = P
    · rw [hb, hP] at e
      cases e
      rw [hb]
      exact tab_ok hp
    · refine (I.hok b u e).stay (fun c v hc q => k c v ?_ q) (fun _ q => q) fun _ _ q => q
      rcases hc with z | z
      · rw [z]; exact hb
      · intro w
        rw [w, hP] at z
        cases z
  · show (none0 xs ++ capsOf σ ns).length = (xs ++ ns.map (·.1)).length
    unfold capsOf none0
    simp
end
section
variable {G : Cx} {A : Around} {elt iter tg : Expr} {scope : Scope} {pos : Pos} {it a : Addr} {go : Obj} {fp : List Addr} {tn : Nat → Heap → Prop} {J : It} {σ0 : L2.St} {g : TG} {te : TE} {L : Nat} {Pv : Nat → Hp → Prop} {Ye : Nat → V → Hp → Prop}
theorem seg_gloopV (hA : A.over (.compLoop (.GeneratorExp elt [⟨tg, iter, [], 0⟩] scope pos) 0 (.ref it) .none G.env) [] = G.A) (hc : G.calm = true) (hex : G.ex = fp) (hxe : G.xe = fun _ _ => False) (hpn : G.pn = []) (hco : G.env.scope.isCoroutine = false)
    (T : Turn G.prog G.w G.K tg J fp it tn) (hg : PG G tg g) (he : PE G elt te) (ha : ∀ b ∈ fp, a ≠ b)
    (step : ∀ i H, i < L → Pv i H → J.go i H ∧ ∀ y H', J.yld i H y H' → g y σ0 H' fun σ1 H1 => Keep2 σ0 σ1 ∧ te σ1 H1 (Ye i)) (stop : ∀ H, Pv L H → J.stop L H) :
    ∀ (k i : Nat) (s₀ s : Shared) (H : Hp), L - i = k → i ≤ L → Inv G [(a, go)] (σ0) H s → tn i s.heap → (∀ b ∈ fp, H b = none) → Pv i H →
      Seg (model G.prog G.w) A (fun n s₀ r s₁ => r = .ok .next ∧ GEndV G a go σ0 L Pv n s₀ s₁) (GYldV G a go σ0 L Pv Ye) (k + 1) s₀
        (.compLoop (.GeneratorExp elt [⟨tg, iter, [], 0⟩] scope pos) 0 (.ref it) .none G.env)
        ((model G.prog G.w).den (.compLoop (.GeneratorExp elt [⟨tg, iter, [], 0⟩] scope pos) 0 (.ref it) .none G.env)) [] s := by
  have fpok : ∀ {H : Hp} {σ : L2.St} {s : Shared}, Inv G [(a, go)] σ H s → (∀ b ∈ fp, H b = none) → ∀ b ∈ fp, FpOk G [(a, go)] H b := fun {H σ s} I hn b hb => by
    have hb' : b ∈ G.ex := by rw [hex]; exact hb
    obtain ⟨e1, e2⟩ := I.ok.exf b hb'
    refine ⟨hn b hb, e1, I.ok.exfs b hb', .inl hb', e2, fun p hp => ?_⟩
    rw [hpn, List.nil_append] at hp
    rw [List.mem_singleton.mp hp]
    exact ha b hb
  intro k
  induction k with
  | zero =>
    intro i s₀ s H hk hi I st fr pv
    have hin : i = L := by omega
    subst hin
    show Seg _ A _ _ _ s₀ _ ((compTurn (.GeneratorExp elt [⟨tg, iter, [], 0⟩] scope pos) 0 (.ref it) .none G.env).onRaise (leaving G.env)) [] s
    rw [compTurn_gen, Sem.onRaise_eq_wrap]
    refine seg_bind_wrap (wpAny_standAt ?_)
    refine seg_bind_wrap ?_
    rw [hA]
    refine thn (T.done G rfl rfl rfl hc i _ s _ H _ I (fpok I fr) st (stop H pv)) fun r s1 ⟨hr, I1⟩ => ?_
    subst hr
    exact seg_end (.ok .next) ⟨rfl, rfl, H, I1, pv⟩
  | succ k ih =>
    intro i s₀ s H hk hi I st fr pv
    have hlt : i < L := by omega
    obtain ⟨hgo, hstep⟩ := step i H hlt pv
    show Seg _ A _ _ _ s₀ _ ((compTurn (.GeneratorExp elt [⟨tg, iter, [], 0⟩] scope pos) 0 (.ref it) .none G.env).onRaise (leaving G.env)) [] s
    rw [compTurn_gen, Sem.onRaise_eq_wrap]
    refine seg_bind_wrap (wpAny_standAt ?_)
    refine seg_bind_wrap ?_
    rw [hA]
    refine thn (T.item G rfl rfl rfl hc i _ s _ H _ I (fpok I fr) st hgo) fun r s1 ⟨u, hr, h1⟩ => ?_
    subst hr
    refine seg_bind_wrap ?_
    rw [hA]
    refine thn h1 fun _ s2 ⟨y, H2, I2, ru, yl, st2, fr2⟩ => ?_
    have I2p := I2.pinned (fpok I2 fr2) (T.obj _ _ st2)
    refine seg_bind_wrap ?_
    rw [hA]
    refine wpAny_mono (hg.run _ s2 _ H2 y u (fun σ' H' => Keep2 σ0 σ' ∧ te σ' H' (Ye i)) I2p ru (hstep y _ yl)) (fun _ s3 h3 => ?_) (fun e s' hx => by rw [hxe] at hx; exact hx.elim)
    obtain ⟨σ3, H3, I3, kp, hte⟩ := h3
    simp only [List.forIn_nil]
    refine seg_bind_wrap (wpAny_pure ?_)
    simp only [if_true]
    have hy : ∀ v, yieldOut G.env v = yieldValue v := fun v => by simp only [yieldOut, hco, Bool.false_eq_true, if_false]
    simp only [hy]
    rw [Sem.bind_eq_wrap', Sem.bind_eq_wrap', Sem.wrap_wrap, Sem.wrap_wrap]
    refine seg_wrap ?_
    rw [hA]
    refine wpAny_mono (he.run _ s3 _ _ (Ye i) I3 hte) (fun v s4 h4 => ?_) (fun e s' hx => by rw [hxe] at hx; exact hx.elim)
    obtain ⟨y4, H4, I4, r4, q4⟩ := h4
    have pinAt : ∀ b ∈ fp, ∀ o, s2.heap.get? b = some o → s4.heap.get? b = some o ∧ H4 b = none := fun b hb o e =>
      let z := I4.pin (b, o) (List.mem_append_right _ (List.mem_append_right _ (mem_pinsAt hb e))); ⟨z.1, z.2.1⟩
    have st4 : tn (i + 1) s4.heap := T.keep _ _ _ st2 fun b hb o e => (pinAt b hb o e).1
    have fr4 : ∀ b ∈ fp, H4 b = none := fun b hb => by
      obtain ⟨o, e, _⟩ := T.obj _ _ st2 b hb
      exact (pinAt b hb o e).2
    have I4w : Inv G [(a, go)] σ0 H4 s4 := I4.unpinned.weak kp.1.symm kp.2
    refine seg_at (seg_yield rfl rfl rfl ⟨i, y4, H4, hlt, by omega, r4, I4w, q4, fun s5 H5 I5 un pv5 => ?_⟩)
    exact seg_again rfl (ih (i + 1) s5 s5 H5 (by omega) hlt I5 (T.keep _ _ _ st4 fun b hb o e => (un b o (fr4 b hb) e).2) (fun b hb => let ⟨o, e, _⟩ := T.obj _ _ st4 b hb; (un b o (fr4 b hb) e).1) pv5)

theorem seg_gstartV (hA : A.over (.compLoop (.GeneratorExp elt [⟨tg, iter, [], 0⟩] scope pos) 0 (.ref it) .none G.env) [] = G.A) (hc : G.calm = true) (hex : G.ex = fp) (hxe : G.xe = fun _ _ => False) (hpn : G.pn = []) (hco : G.env.scope.isCoroutine = false)
    (T : Turn G.prog G.w G.K tg J fp it tn) (hg : PG G tg g) (he : PE G elt te) (ha : ∀ b ∈ fp, a ≠ b)
    (step : ∀ i H, i < L → Pv i H → J.go i H ∧ ∀ y H', J.yld i H y H' → g y σ0 H' fun σ1 H1 => Keep2 σ0 σ1 ∧ te σ1 H1 (Ye i)) (stop : ∀ H, Pv L H → J.stop L H)
    (s₀ s : Shared) (H : Hp) (I : Inv G [(a, go)] (σ0) H s) (st : tn 0 s.heap) (fr : ∀ b ∈ fp, H b = none) (pv : Pv 0 H) :
      Seg (model G.prog G.w) A (fun n s₀ r s₁ => r = .ok .next ∧ GEndV G a go σ0 L Pv n s₀ s₁) (GYldV G a go σ0 L Pv Ye) (L + 1) s₀
        (.compStart (.GeneratorExp elt [⟨tg, iter, [], 0⟩] scope pos) 0 (.ref it) .none G.env)
        ((model G.prog G.w).den (.compStart (.GeneratorExp elt [⟨tg, iter, [], 0⟩] scope pos) 0 (.ref it) .none G.env)) [] s := by
  have loop := seg_gloopV (a := a) (go := go) hA hc hex hxe hpn hco T hg he ha step stop L 0 s₀ s H (Nat.sub_zero _) (Nat.zero_le _) I st fr pv
  show Seg _ A _ _ _ s₀ _ ((compStart (.GeneratorExp elt [⟨tg, iter, [], 0⟩] scope pos) 0 (.ref it) .none G.env).onRaise (leaving G.env)) [] s
  unfold compStart
  rw [Sem.onRaise_eq_wrap]
  show Seg _ A _ _ _ s₀ _ ((ask >>= _).wrap _ _ _ _) [] s
  refine seg_bind_wrap (wpAny_askSetting ?_)
  split
  · exact seg_again rfl loop
  · first
      | exact seg_bind_wrap (wpAny_rule (seg_bind_wrap (wpAny_standAt (seg_bind_wrap (T.self _ 0 s _ _ st (seg_again rfl loop))))))
      | (refine seg_bind_wrap (wpAny_rule ?_); show Seg _ A _ _ _ s₀ _ ((standAt iter.pos >>= _).wrap _ _ _ _) [] s; exact seg_bind_wrap (wpAny_standAt (seg_bind_wrap (T.self _ 0 s _ _ st (seg_again rfl loop)))))
end
/-- what stands when a generator expression has been made -/
def GReadyV (X : Cx) (pins : List (Addr × Obj)) (σ : L2.St) (J : It) (H2 : Hp) (g : TG) (te : TE) (σ0 : L2.St) (k : Nat) (a : Addr) (s5 : Shared) : Prop :=
  ∃ (gi : Nat) (go : Obj) (c : Code), (∀ h : Heap, h.get? a = some go → h.IsGen a gi) ∧ s5.gens[gi]? = some (.fresh c) ∧
    ∀ A : Around, Room (k + 1) A → A.frames = some X.stack → ∃ G : Cx, G.prog = X.prog ∧ G.w = X.w ∧ (∀ H' s', Inv G [(a, go)] (σ0) H' s' → Inv X pins σ H' s') ∧ Inv G [(a, go)] (σ0) H2 s5 ∧
      ∀ (L : Nat) (Pv : Nat → Hp → Prop) (Ye : Nat → V → Hp → Prop), (∀ i H, i < L → Pv i H → J.go i H ∧ ∀ y H', J.yld i H y H' → g y σ0 H' fun σ1 H1 => Keep2 σ0 σ1 ∧ te σ1 H1 (Ye i)) → (∀ H, Pv L H → J.stop L H) →
        ∀ s' H', Inv G [(a, go)] σ0 H' s' → Unt H2 s5 H' s' → Pv 0 H' →
          (GenState.fresh c).Goes (model X.prog X.w) A (fun n s₀ r s₁ => r = .ok .next ∧ GEndV G a go σ0 L Pv n s₀ s₁) (GYldV G a go σ0 L Pv Ye) (L + 1) (.send .none) s'
section
variable {X : Cx} {pins : List (Addr × Obj)} {σ : L2.St} {H : Hp} {s : Shared}
theorem gen_madeV {c P : Addr} {elt iter : Expr} {tg : Expr} {xs : List Str} {gpos : Pos} {scope : Scope} {ns : List (Str × Nat)} {wi : TI} {g : TG} {te : TE} {k k' : Nat} {Q' : Value → Shared → Prop} {R : It → Hp → Prop}
    (hr : Room k X.A) (TB : TabB X.base X.mg c P) (hcode : X.env.code = .ref c) (S : GOkV X.N X.env.scope scope xs ns) (hi : PI X tg iter wi)
    (hg : ∀ (s : Shared) (H : Hp) (C : Addr) (code : Value) (fp : List Addr) (A : Around), PG (gcx X s H (xs ++ ns.map (·.1)) (genEnv scope (cloFrom X.env.cells scope.names []) C code builtinsNs X.env) fp A) tg g)
    (he : ∀ (s : Shared) (H : Hp) (C : Addr) (code : Value) (fp : List Addr) (A : Around), Room k' A → PE (gcx X s H (xs ++ ns.map (·.1)) (genEnv scope (cloFrom X.env.cells scope.names []) C code builtinsNs X.env) fp A) elt te)
    (hs : ∀ v, genFold iter X.env v = pure v) (I : Inv X pins σ H s) (h : wi σ H fun J H1 => H1 P = some (TabO P) ∧ R J H1)
    (hQ : ∀ J H2 a s5, R J H2 → GReadyV X pins σ J H2 g te (none0 xs ++ capsOf σ ns) k' a s5 → Q' (.ref a) s5) :
    wpAny (model X.prog X.w) X.A (eval (.GeneratorExp elt [⟨tg, iter, [], 0⟩] scope gpos) X.env) Q' X.xe s := by
  have hfree : ∀ y ∈ scope.names, y.2 = .free → ∃ c, X.env.cells.lookup y.1 = some c := fun y hy e => by
    rcases S.free y hy e with k | k
    · exact I.ok.has _ (.inl k)
    · exact I.ok.has _ (.inr k)
  refine wpAny_GeneratorExp_make S.co (closure_ok hfree) S.cell S.dot S.kind (by have := hr.dp; omega) (thn (hi.run pins s σ H _ I h) fun xv s1 hx => thn hx fun itv s2 h2 => ?_) hs
  obtain ⟨it, fp, tn, J, H2, e, I2, T, st2, f2, hP, q⟩ := h2
  subst e
  obtain ⟨⟨ps, hPs, ht⟩, _, _⟩ := I2.hok P _ hP
  have hPlt : P < s2.heap.objs.size := Heap.lt_size hPs
  have cd : PySem.W.CodeHd s2.heap c P := TB.code.keeps fun b u e => I2.bk b u e
  have cont : ∀ (code : Value) (h3 : Heap) (tk : Nat), Heap.ExtBut P s2.heap h3 → s2.heap.objs.size ≤ h3.objs.size → tabPhi P h3 →
      wpAny (model X.prog X.w) X.A (builtinsFor X.env.globals X.env.builtins) (fun bi s₄ =>
        ∀ h', h'.Ns s₄.heap.objs.size (fun y => if y = ".0" then some (.ref it) else none) → Heap.SameBut s₄.heap.objs.size (s₄.heap.push { cls := .type "frame", data := .dict #[] }) h' →
          Q' (.ref h'.objs.size) { s₄ with
            gens := s₄.gens.push (.fresh (.compStart (.GeneratorExp elt [⟨tg, iter, [], 0⟩] scope gpos) 0 (.ref it) .none (genEnv scope (cloFrom X.env.cells scope.names []) s₄.heap.objs.size code bi X.env))),
            toks := s₄.toks + 1 + 1 + 1,
            heap := h'.push { cls := .type "generator", data := .fields #[.int s₄.gens.size 0, .str "<genexpr>" (s₄.toks + 1), .str (X.env.qual ++ "<genexpr>") (s₄.toks + 1 + 1)] } }) X.xe { s2 with heap := h3, toks := tk } := by
    intro code h3 tk hx hsz hp3
    obtain ⟨bm, ob, e1, e2, e3, e4, e5, e6, e7, e8⟩ := TB.bm
    have keep3 : ∀ b u, b ≠ P → s2.heap.get? b = some u → h3.get? b = some u := fun b u hb e => hx b u hb e
    refine wpAny_builtinsFor (m := X.mg) (by rw [I2.ok.glob]; exact (I2.mod.glob.keeps I2.bk).extBut hx TB.gP) e1 e2 (keep3 _ _ e4 (I2.bk _ _ e5)) e6 e7 e8 ?_
    intro h' hn' hs'
    have hn' : h'.Ns h3.objs.size (fun y => if y = ".0" then some (.ref it) else none) := hn'
    have hs' : Heap.SameBut h3.objs.size (h3.push { cls := .type "frame", data := .dict #[] }) h' := hs'
    have hsz' : h'.objs.size = h3.objs.size + 1 := by rw [hs'.1, Heap.size_push]
    have keep' : ∀ b o, h3.get? b = some o → h'.get? b = some o := fun b o e => hs'.extBut b o (Nat.ne_of_lt (Heap.lt_size e)) (Heap.get?_push_of_some _ e)
    generalize hgo : ({ cls := .type "generator", data := .fields #[.int s2.gens.size 0, .str "<genexpr>" (tk + 1), .str (X.env.qual ++ "<genexpr>") (tk + 1 + 1)] } : Obj) = go
    have hgen : ∀ h : Heap, h.get? h'.objs.size = some go → h.IsGen h'.objs.size s2.gens.size := fun h e => ⟨go, _, _, e, by rw [← hgo], by rw [← hgo], by rw [← hgo]⟩
    have hgd : ∀ v, go.data ≠ .cell v := fun v z => by rw [← hgo] at z; cases z
    have hself : (h'.push go).get? h'.objs.size = some go := Heap.get?_push_size _ (by rw [← hgo]; rfl)
    have keep5 : ∀ b o, b ≠ P → s2.heap.get? b = some o → (h'.push go).get? b = some o := fun b o hb e => Heap.get?_push_of_some _ (keep' b o (keep3 b o hb e))
    have phi5 : tabPhi P (h'.push go) := tab_stay _ _ hp3 fun o e => Heap.get?_push_of_some _ (keep' _ o e)
    have CP : fp = fp := rfl
    have hfo : ∀ b ∈ fp, ∃ o, s2.heap.get? b = some o := fun b hb => let ⟨o, e, _⟩ := T.obj _ _ st2 b hb; ⟨o, e⟩
    have fpP : ∀ b ∈ fp, b ≠ P := fun b hb z => by
      obtain ⟨f0, _⟩ := f2 b hb
      rw [z, hP] at f0
      cases f0
    refine hQ J H2 h'.objs.size _ q ?_
    refine ⟨s2.gens.size, go, _, hgen, Array.getElem?_push_size .., fun A hA hfr => ?_⟩
    have hAf : (A.over (.compLoop (.GeneratorExp elt [⟨tg, iter, [], 0⟩] scope gpos) 0 (.ref it) .none (genEnv scope (cloFrom X.env.cells scope.names []) h3.objs.size code builtinsNs X.env)) []).frames = some ((genEnv scope (cloFrom X.env.cells scope.names []) h3.objs.size code builtinsNs X.env) :: X.stack) := by
      show pushEnvs [(genEnv scope (cloFrom X.env.cells scope.names []) h3.objs.size code builtinsNs X.env)] (pushEnvs [] A.frames) = _
      rw [hfr]
      rfl
    have hAr : Room k' (A.over (.compLoop (.GeneratorExp elt [⟨tg, iter, [], 0⟩] scope gpos) 0 (.ref it) .none (genEnv scope (cloFrom X.env.cells scope.names []) h3.objs.size code builtinsNs X.env)) []) := by
      refine ⟨hA.hd, ?_, ?_⟩
      · have := hA.dp
        show A.depth + 1 + 3 * k' + 5 < _
        omega
      · have := hA.un
        show A.units + 3 + 16 * k' + 200 < _
        omega
    have I5 := inv_genV (s5 := { s2 with gens := s2.gens.push (.fresh (.compStart (.GeneratorExp elt [⟨tg, iter, [], 0⟩] scope gpos) 0 (.ref it) .none (genEnv scope (cloFrom X.env.cells scope.names []) h3.objs.size code builtinsNs X.env))), toks := tk + 1 + 1 + 1, heap := h'.push go }) (code := code) (it := .ref it) (A := A.over (.compLoop (.GeneratorExp elt [⟨tg, iter, [], 0⟩] scope gpos) 0 (.ref it) .none (genEnv scope (cloFrom X.env.cells scope.names []) h3.objs.size code builtinsNs X.env)) []) (a := h'.objs.size)
      I2 S hP f2 hfo hAf hAr.hd hsz (by rw [hsz']; exact Nat.lt_succ_self _) rfl (I2.bare.push rfl) keep5 phi5 (hn'.push _) hself hgd
    refine ⟨gcx X s2 H2 (xs ++ ns.map (·.1)) (genEnv scope (cloFrom X.env.cells scope.names []) h3.objs.size code builtinsNs X.env) fp (A.over (.compLoop (.GeneratorExp elt [⟨tg, iter, [], 0⟩] scope gpos) 0 (.ref it) .none (genEnv scope (cloFrom X.env.cells scope.names []) h3.objs.size code builtinsNs X.env)) []), rfl, rfl, fun H' s' J' => inv_back I2 f2 J', I5, fun L Pv Ye step stop s' H' I' un pv => ⟨rfl, ?_⟩⟩
    refine seg_gstartV (G := gcx X s2 H2 (xs ++ ns.map (·.1)) (genEnv scope (cloFrom X.env.cells scope.names []) h3.objs.size code builtinsNs X.env) fp (A.over (.compLoop (.GeneratorExp elt [⟨tg, iter, [], 0⟩] scope gpos) 0 (.ref it) .none (genEnv scope (cloFrom X.env.cells scope.names []) h3.objs.size code builtinsNs X.env)) [])) (fp := fp) (tn := tn) (J := J) rfl rfl rfl rfl rfl (S.co) T ?_ ?_ (fun b hb z => ?_) step stop s' s' H' I' ?_ (fun b hb => let ⟨o, e⟩ := hfo b hb; (un b o ((f2 b hb).1) (keep5 b o (fpP b hb) e)).1) pv
    · exact hg s2 H2 h3.objs.size code fp _
    · exact he s2 H2 h3.objs.size code fp (A.over (.compLoop (.GeneratorExp elt [⟨tg, iter, [], 0⟩] scope gpos) 0 (.ref it) .none (genEnv scope (cloFrom X.env.cells scope.names []) h3.objs.size code builtinsNs X.env)) []) hAr
    · obtain ⟨o, e⟩ := hfo b hb
      have h1 := Heap.lt_size e
      rw [← z, hsz'] at h1
      have h1' : h3.objs.size + 1 < s2.heap.objs.size := h1
      omega
    · exact T.keep _ _ _ st2 fun b hb o e => (un b o ((f2 b hb).1) (keep5 b o (fpP b hb) e)).2
  refine ⟨I2.nolimit, ?_⟩
  cases hf : codeAmong gpos ps.toList with
  | none =>
    refine wpAny_genexprCodeX hcode (cd.code hPs ht) (cd.tab hPs) hf fun c' h' tk hx hge hlt hco' _ htab' _ => ?_
    obtain ⟨o1, vs, f1, tf, fl, tg, inF, tx, tt, op, _, _, _, _, _, _, _, _, _, htr, _⟩ := hco'
    exact cont _ h' tk hx (Nat.le_trans hge (Nat.le_of_lt hlt)) ⟨_, htab'.2, htr⟩
  | some cv =>
    refine wpAny_genexprCode_hit hcode (cd.code hPs ht) hf ?_
    exact cont cv s2.heap s2.toks (Heap.ExtBut.refl _ _) (Nat.le_refl _) ⟨ps, hPs, ht⟩

end
end Gx
end

section
set_option Elab.async false
set_option linter.all false
set_option maxRecDepth 100000
set_option maxHeartbeats 4000000
/-! sum(..) of a generator expression. -/
namespace Gx
open PySem PySem.Spec PyProof.Rows L2 GxR
theorem codeAny_sumG {A0 : Around} {a S : Addr} {g : Nat} {go : Obj} {G : Cx} {σ0 : L2.St} {L : Nat} {Pv : Nat → Hp → Prop} {Ye : Nat → V → Hp → Prop} {val : Nat → Int} {R' : Result → Shared → Prop} {prog : Program} {w : World}
    (hG : G.prog = prog ∧ G.w = w) (hh : A0.handled = none) (hroom : A0.depth < recursionLimit) (hgen : ∀ h : Heap, h.get? a = some go → h.IsGen a g)
    (hYe : ∀ i y H, i < L → Ye i y H → y = .int (val i) ∧ H S = some (.lst [.int (preSum val i)]) ∧ Pv (i + 1) (upd H S (.lst [.int (preSum val (i + 1))])))
    (hdone : ∀ H s t, Inv G [(a, go)] σ0 H s → Pv L H → R' (.ok (.ret (.int (preSum val L) t))) s) :
    ∀ (k i : Nat) (s : Shared) (gs : GenState) (stage : Int), (stage = 0 ∨ stage = 2) → L - i = k → i ≤ L → (∃ H, Inv G [(a, go)] σ0 H s ∧ H S = some (.lst [.int (preSum val i)])) → s.gens[g]? = some gs →
      (∀ s', s'.heap = s.heap → s'.os = s.os → AllBare s'.gens → gs.Goes (model prog w) A0.in1.in1 (fun n s₀ r s₁ => r = .ok .next ∧ GEndV G a go σ0 L Pv n s₀ s₁) (GYldV G a go σ0 L Pv Ye) (L - i + 1) (.send .none) s') →
      codeAny (model prog w) A0 (.builtin "sum.loop" ⟨[.ref a, .ref S, rawInt stage, rawInt 0], []⟩) R' s := by
  have pin : ∀ {H : Hp} {σ : L2.St} {s : Shared}, Inv G [(a, go)] σ H s → s.heap.IsGen a g := fun I => hgen _ (I.pin (a, go) (List.mem_append_right _ (List.mem_singleton.mpr rfl))).1
  have at1 : ∀ {H : Hp} {σ : L2.St} {s : Shared} {n : Int}, Inv G [(a, go)] σ H s → H S = some (.lst [.int n]) → ∃ (t : Tok) (c : Nat), s.heap.get? S = some { cls := .type "list", data := .seq [Value.int n t].toArray c } := fun I hS => by
    obtain ⟨z, its, c, r, hl, e⟩ := I.lstM hS
    obtain ⟨u, rfl, ru⟩ := r.one
    obtain ⟨t, rfl⟩ := ru
    exact ⟨t, c, e⟩
  intro k
  induction k with
  | zero =>
    intro i s gs stage hstage hk hi ⟨H, I, hS⟩ hgs hgo
    have hin : i = L := by omega
    subst hin
    obtain ⟨tA, c, eS⟩ := at1 I hS
    refine codeAny_builtin F.entry_sum_loop ?_
    rw [Around.under_plainId F.plain_sum_loop _]
    show wpAny _ A0.in1 (seqItems? (.ref S) >>= _) _ _ s
    refine wpAny_bind (wpAny_seqItems eS rfl ?_)
    show wpAny _ A0.in1 (tryCatch (pyNext (.ref a)) _ >>= _) _ _ s
    refine wpAny_bind (wpAny_tryCatch (wpAny_pyNext_genexpQ (n := i - i + 1) (P := GEndV G a go σ0 i Pv) hh I.nolimit hroom (pin I) hgs (hgo _ rfl rfl (bare_set I.bare rfl)) (fun v s₁ gs' hb hv => ?_) (fun s₁ hp h' hk => ?_)))
    · obtain ⟨j, y, H2, hl, hj, _⟩ := hv
      have hj' : i - i + 1 - 1 + j = i := hj
      omega
    · obtain ⟨_, H2, I2, pv⟩ := hp
      refine wpAny_pure ?_
      exact hdone H2 _ tA (inv_same ((inv_same I2 rfl rfl (s' := s₁.setGen g .finished) (bare_set I2.bare rfl)).kept (t' := s₁.toks) hk) rfl rfl (bare_set I2.bare rfl)) pv
  | succ k ih =>
    intro i s gs stage hstage hk hi ⟨H, I, hS⟩ hgs hgo
    have hlt : i < L := by omega
    obtain ⟨tA, c, eS⟩ := at1 I hS
    refine codeAny_builtin F.entry_sum_loop ?_
    rw [Around.under_plainId F.plain_sum_loop _]
    show wpAny _ A0.in1 (seqItems? (.ref S) >>= _) _ _ s
    refine wpAny_bind (wpAny_seqItems eS rfl ?_)
    show wpAny _ A0.in1 (tryCatch (pyNext (.ref a)) _ >>= _) _ _ s
    have hsz : g + 1 ≤ s.gens.size := (Array.getElem?_eq_some_iff.mp hgs).1
    refine wpAny_bind (wpAny_tryCatch (GenW.wpAny_gsz hsz (wpAny_pyNext_genexpQ (n := L - i + 1) (P := GEndV G a go σ0 L Pv) hh I.nolimit hroom (pin I) hgs (hgo _ rfl rfl (bare_set I.bare rfl)) (fun v s₁ gs' hb hv => ?_) (fun s₁ hp h' hk => ?_))))
    · obtain ⟨j, y, H2, hl, hj, r2, I2, ye, kap⟩ := hv
      have hj' : L - i + 1 - 1 + j = L := hj
      have hji : j = i := by omega
      subst hji
      obtain ⟨ey, hS2, pv⟩ := hYe j y H2 hlt ye
      subst ey
      obtain ⟨t, ev⟩ := r2
      subst ev
      intro hz
      rw [GenW.setGen_size] at hz
      have I3 : Inv G [(a, go)] σ0 H2 (s₁.setGen g gs') := inv_same I2 rfl rfl (bare_set I2.bare hb)
      obtain ⟨tB, c2, eS2⟩ := at1 I3 hS2
      -- what follows the write
      have next : ∀ (tk tok : Nat) (stage : Int), (stage = 0 ∨ stage = 2) →
          codeAny (model prog w) A0 (.builtin "sum.loop" ⟨[.ref a, .ref S, rawInt stage, rawInt 0], []⟩) R' { (s₁.setGen g gs') with heap := (s₁.setGen g gs').heap.update S (Obj.mapSeq fun _ => #[Value.int (preSum val j + val j) tk]), toks := tok } := by
        intro tk tok stage hstage
        have I4 := I3.lset (ys := [.int (preSum val (j + 1))]) (its' := [Value.int (preSum val j + val j) tk]) (f := fun _ => #[Value.int (preSum val j + val j) tk]) (t' := tok) hS2 eS2 (by simp) (.cons ⟨tk, rfl⟩ .nil) (by rw [sizeLine_eq]; exact Nat.le_of_ble_eq_true rfl)
        refine ih (j + 1) _ gs' stage hstage (by omega) hl ⟨_, I4, upd_same⟩ (setGen_at hz) fun s' eh eo eb => ?_
        have e : L - j = L - (j + 1) + 1 := by omega
        have := kap s' (upd H2 S (.lst [.int (preSum val (j + 1))])) (inv_same I4 eh eo eb) (fun b o hb ho => ?_) pv
        · rw [e] at this
          exact this
        · have hbS : b ≠ S := fun z => by rw [z, hS2] at hb; cases hb
          refine ⟨by rw [upd_ne hbS]; exact hb, ?_⟩
          rw [eh]
          exact (Heap.get?_update_other _ _ (Ne.symm hbS)).trans ho
      -- the twice written
      have next2 : ∀ (tk tok : Nat) (stage : Int), (stage = 0 ∨ stage = 2) →
          codeAny (model prog w) A0 (.builtin "sum.loop" ⟨[.ref a, .ref S, rawInt stage, rawInt 0], []⟩) R' { (s₁.setGen g gs') with heap := ((s₁.setGen g gs').heap.update S (Obj.mapSeq fun _ => #[Value.int (preSum val j + val j) tk])).update S (Obj.mapSeq fun _ => #[Value.int (preSum val j + val j) tk]), toks := tok } := by
        intro tk tok stage hstage
        have I4 := I3.lset (ys := [.int (preSum val (j + 1))]) (its' := [Value.int (preSum val j + val j) tk]) (f := fun _ => #[Value.int (preSum val j + val j) tk]) (t' := tok) hS2 eS2 (by simp) (.cons ⟨tk, rfl⟩ .nil) (by rw [sizeLine_eq]; exact Nat.le_of_ble_eq_true rfl)
        obtain ⟨z5, its5, c5, r5, hl5, e5⟩ := I4.lstM upd_same
        have I5 := I4.lset (ys := [.int (preSum val (j + 1))]) (its' := [Value.int (preSum val j + val j) tk]) (f := fun _ => #[Value.int (preSum val j + val j) tk]) (t' := tok) upd_same e5 (by simp) (.cons ⟨tk, rfl⟩ .nil) (by rw [sizeLine_eq]; exact Nat.le_of_ble_eq_true rfl)
        rw [upd_upd] at I5
        refine ih (j + 1) _ gs' stage hstage (by omega) hl ⟨_, I5, upd_same⟩ (setGen_at hz) fun s' eh eo eb => ?_
        have e : L - j = L - (j + 1) + 1 := by omega
        have := kap s' (upd H2 S (.lst [.int (preSum val (j + 1))])) (inv_same I5 eh eo eb) (fun b o hb ho => ?_) pv
        · rw [e] at this
          exact this
        · have hbS : b ≠ S := fun z => by rw [z, hS2] at hb; cases hb
          refine ⟨by rw [upd_ne hbS]; exact hb, ?_⟩
          rw [eh]
          exact (Heap.get?_update_other _ _ (Ne.symm hbS)).trans ((Heap.get?_update_other _ _ (Ne.symm hbS)).trans ho)
      rcases hstage with rfl | rfl
      · show wpAny _ A0.in1 (if (_ : Bool) = true then (mkInt (preSum val j + val j) >>= _) else _) _ _ _
        split
        · refine wpAny_bind (wpAny_mkInt ?_)
          show wpAny _ A0.in1 (updateSeq S (fun _ => #[.int (preSum val j + val j) _]) >>= _) _ _ _
          refine wpAny_bind ?_
          refine wpAny_updateSeq eS2 rfl (wpAny_pure ⟨plainId_quiet F.plain_sum_loop _, ?_⟩)
          exact next _ _ 0 (Or.inl rfl)
        · refine wpAny_bind (wpAny_rule ?_)
          refine wpAny_bind (wpAny_attempt (wpAny_holding (PySem.P.add_int ?_)))
          show wpAny _ A0.in1 (updateSeq S (fun _ => #[.int (preSum val j + val j) _]) >>= _) _ _ _
          refine wpAny_bind ?_
          refine wpAny_updateSeq eS2 rfl ?_
          have hS3 := Heap.get?_update_self (Obj.mapSeq fun _ => #[Value.int (preSum val j + val j) (s₁.setGen g gs').toks]) eS2 rfl
          refine wpAny_bind (wpAny_letGo ?_)
          refine wpAny_bind ?_
          refine wpAny_updateSeq hS3 rfl (wpAny_pure ⟨plainId_quiet F.plain_sum_loop _, ?_⟩)
          exact next2 _ _ 2 (Or.inr rfl)
      · show wpAny _ A0.in1 ((holding [Value.int (val j) t] (binaryOp .Add (.int (preSum val j) tA) (.int (val j) t))).attempt >>= _) _ _ _
        refine wpAny_bind (wpAny_attempt (wpAny_holding (PySem.P.add_int ?_)))
        show wpAny _ A0.in1 (updateSeq S (fun _ => #[.int (preSum val j + val j) _]) >>= _) _ _ _
        refine wpAny_bind ?_
        refine wpAny_updateSeq eS2 rfl ?_
        have hS3 := Heap.get?_update_self (Obj.mapSeq fun _ => #[Value.int (preSum val j + val j) (s₁.setGen g gs').toks]) eS2 rfl
        refine wpAny_bind (wpAny_letGo ?_)
        refine wpAny_bind ?_
        refine wpAny_updateSeq hS3 rfl (wpAny_pure ⟨plainId_quiet F.plain_sum_loop _, ?_⟩)
        exact next2 _ _ 2 (Or.inr rfl)
    · obtain ⟨h0, _⟩ := hp
      have h0' : L - i + 1 = 1 := h0
      omega

/-- sum(elt for t in iter): the list S holds the sum so far -/
def rSumG (g : TG) (te : TE) (σ0 : L2.St) (Q : VK) : It → Hp → Prop := fun J H1 => ∃ (L : Nat) (val : Nat → Int), ∀ S, H1 S = none → ∃ Pv : Nat → Hp → Prop, Pv 0 (upd H1 S (.lst [.int 0])) ∧
  (∀ H, Pv L H → J.stop L H ∧ Q (.int (preSum val L)) H) ∧
  ∀ i H, i < L → Pv i H → J.go i H ∧ ∀ y H', J.yld i H y H' → g y σ0 H' fun σ1 H1' => Keep2 σ0 σ1 ∧ te σ1 H1' fun z H2 => z = .int (val i) ∧ H2 S = some (.lst [.int (preSum val i)]) ∧ Pv (i + 1) (upd H2 S (.lst [.int (preSum val (i + 1))]))
def tSumG (P : Addr) (wi : TI) (g : TG) (te : TE) (xs : List Str) (ns : List (Str × Nat)) : TE := fun σ H Q => wi σ H fun J H1 => H1 P = some (TabO P) ∧ rSumG g te (none0 xs ++ capsOf σ ns) Q J H1
section
variable {X : Cx}
theorem pe_sumG {c P : Addr} {elt iter tg : Expr} {xs : List Str} {p pos gpos : Pos} {scope : Scope} {ns : List (Str × Nat)} {wi : TI} {g : TG} {te : TE} {k' : Nat}
    (hr : Room (k' + 3) X.A) (hgl : Gl X "sum") (hm : X.mg "sum" = none) (TB : TabB X.base X.mg c P) (hcode : X.env.code = .ref c) (S : GOkV X.N X.env.scope scope xs ns) (hi : PI X tg iter wi)
    (hg : ∀ (s : Shared) (H : Hp) (C : Addr) (code : Value) (fp : List Addr) (A : Around), PG (gcx X s H (xs ++ ns.map (·.1)) (genEnv scope (cloFrom X.env.cells scope.names []) C code builtinsNs X.env) fp A) tg g)
    (he : ∀ (s : Shared) (H : Hp) (C : Addr) (code : Value) (fp : List Addr) (A : Around), Room k' A → PE (gcx X s H (xs ++ ns.map (·.1)) (genEnv scope (cloFrom X.env.cells scope.names []) C code builtinsNs X.env) fp A) elt te)
    (hs : ∀ v, genFold iter X.env v = pure v := by intro _; rfl) (hb : bootBuiltins "sum" = some (.builtin "sum") := by decide +kernel)
    (hst : starEach [.GeneratorExp elt [⟨tg, iter, [], 0⟩] scope gpos] X.env = (false, eval (.GeneratorExp elt [⟨tg, iter, [], 0⟩] scope gpos) X.env) :: starEach [] X.env := by rfl) :
    PE X (.Call (.Name "sum" p) [.GeneratorExp elt [⟨tg, iter, [], 0⟩] scope gpos] [] pos) (tSumG P wi g te xs ns) := by
  refine ⟨fun pins s σ H Q I h => ?_⟩
  refine wpAny_Call_Name_kw (ld_blt I hgl hm hb ?_)
  refine PyProof.Rows.callWith_builtin1 ?_ hst (by rfl)
  rw [hst]
  show wpAny _ _ (spliced ((false, eval (.GeneratorExp elt [⟨tg, iter, [], 0⟩] scope gpos) X.env) :: backTo pos (starEach [] X.env))) _ _ s
  refine Calls.spliced_cons (gen_madeV (R := rSumG g te (none0 xs ++ capsOf σ ns) Q) hr TB hcode S hi hg he hs I h fun J H1 a s5 hR hG => ?_)
  obtain ⟨gi, go, c5, hgen, hgs, hA⟩ := hG
  have hr1 : Room (k' + 1) X.A.in1.in1 := hr.in1.in1
  obtain ⟨G, hG1, hG2, back, I5, goes⟩ := hA X.A.in1.in1 hr1 (by rw [show X.A.in1.in1.frames = X.A.frames from rfl]; exact I.ok.frames)
  obtain ⟨L, val, hR⟩ := hR
  refine Calls.spliced_nil ?_
  refine call_function_tree F.kind_sum F.plain_sum F.entry_sum (F.args_sum1 _) ?_
  unfold Builtin.«sum»
  simp only [List.length_cons, List.length_nil]
  rw [if_neg (by decide)]
  refine wpAny_bind (wpAny_of_eq (show Builtin.Builtins.bindParams "sum" ["start"] 0 { } = pure [none] from rfl) ?_)
  refine wpAny_bind (wpAny_pyIter_gen (hgen _ (I5.pin (a, go) (List.mem_append_right _ (List.mem_singleton.mpr rfl))).1) ?_)
  refine wpAny_bind (wpAny_mkInt ?_)
  refine wpAny_bind (wpAny_pure ?_)
  simp only [List.forIn_cons, List.forIn_nil]
  refine wpAny_bind (wpAny_bind (wpAny_bind (wpAny_isInstance (T := "int") (b := false) (typeIs_int _ _ _) PySem.sub_int_str ?_)))
  simp only [Bool.false_eq_true, if_false]
  refine wpAny_pure (wpAny_bind (wpAny_bind (wpAny_isInstance (T := "int") (b := false) (typeIs_int _ _ _) PySem.sub_int_bytes ?_)))
  simp only [Bool.false_eq_true, if_false]
  refine wpAny_pure (wpAny_bind (wpAny_bind (wpAny_isInstance (T := "int") (b := false) (typeIs_int _ _ _) PySem.sub_int_bytearray ?_)))
  simp only [Bool.false_eq_true, if_false]
  refine wpAny_pure (wpAny_pure ?_)
  refine wpAny_bind (wpAny_newObj_type ?_)
  refine wpAny_pure ⟨plainId_quiet F.plain_sum_loop _, ?_⟩
  obtain ⟨Pv, p0, hstop, hstep⟩ := hR s5.heap.objs.size I5.fresh
  have I6 := I5.lnew (ys := [.int 0]) (its := [Value.int 0 s5.toks]) (t' := s5.toks + 1) (.cons ⟨_, rfl⟩ .nil) (by rw [sizeLine_eq]; exact Nat.le_of_ble_eq_true rfl)
  refine codeAny_sumG (G := G) (L := L) (Pv := Pv) (val := val) (Ye := fun i z H2 => z = .int (val i) ∧ H2 s5.heap.objs.size = some (.lst [.int (preSum val i)]) ∧ Pv (i + 1) (upd H2 s5.heap.objs.size (.lst [.int (preSum val (i + 1))])))
    ⟨hG1, hG2⟩ hr.hd (by have := hr.dp; show X.A.depth < recursionLimit; omega) hgen (fun i y H _ h => h) (fun H' s' t J' q => ?_) L 0 _ (.fresh c5) 0 (Or.inl rfl) rfl (Nat.zero_le _) ⟨_, I6, upd_same⟩ hgs
    (fun s' eh eo eb => goes L Pv _ (fun i H' hi hp => hstep i H' hi hp) (fun H' hp => (hstop H' hp).1) s' _ (inv_same I6 eh eo eb) (fun b o hb ho => ?_) p0)
  · exact ⟨.int (preSum val L), H', back H' s' J', ⟨t, rfl⟩, (hstop H' q).2⟩
  · have hbS : b ≠ s5.heap.objs.size := Nat.ne_of_lt (Heap.lt_size ho)
    refine ⟨by rw [upd_ne hbS]; exact hb, ?_⟩
    rw [eh]
    exact Heap.get?_push_of_some _ ho
end
end Gx
end

section
set_option Elab.async false
set_option linter.all false
set_option maxRecDepth 100000
set_option maxHeartbeats 4000000
/-! A set comprehension of ints, and its size. -/
namespace Gx
open PySem PySem.Spec PyProof.Rows L2 GxR
section
variable {X : Cx}
end
end Gx
end

section
set_option linter.all false
namespace GxR
open PySem PySem.Spec PyProof.Rows L2 Gx
end GxR
end

section
set_option Elab.async false
set_option linter.all false
set_option maxHeartbeats 4000000
/-! Trees of lists and tuples, all of them tracked, and the data that they are. -/
namespace Gx
open PySem PySem.Spec PyProof.Rows L2 GxR
inductive Tr (H : Hp) : Nat → V → PyData → Prop
  | non (n : Nat) : Tr H n .non .none
  | bl (n : Nat) (b : Bool) : Tr H n (.bl b) (.bool b)
  | int (n : Nat) (i : Int) : Tr H n (.int i) (.int i)
  | str (n : Nat) (z : Str) (hz : (PyData.str z).canLay0 = true) : Tr H n (.str z) (.str z)
  | lst {n : Nat} {a : Addr} {xs : List V} {ds : List PyData} (h : H a = some (.lst xs)) (hl : xs.length = ds.length) (h1 : xs.length ≤ 1000) (hh : ∀ (i : Nat) (x : V) (d : PyData), xs[i]? = some x → ds[i]? = some d → Tr H n x d) : Tr H (n + 1) (.ref a) (.list ds)
  | tup {n : Nat} {a : Addr} {xs : List V} {ds : List PyData} (h : H a = some (.tup xs)) (hl : xs.length = ds.length) (h1 : xs.length ≤ 1000) (hh : ∀ (i : Nat) (x : V) (d : PyData), xs[i]? = some x → ds[i]? = some d → Tr H n x d) : Tr H (n + 1) (.ref a) (.tuple ds)
theorem Tr.same {H H' : Hp} (e : Same H H') {n : Nat} {v : V} {d : PyData} (t : Tr H n v d) : Tr H' n v d := by
  induction t with
  | non n => exact .non n
  | bl n b => exact .bl n b
  | int n i => exact .int n i
  | str n z hz => exact .str n z hz
  | lst h hl h1 hh ih => exact .lst (e _ _ h) hl h1 ih
  | tup h hl h1 hh ih => exact .tup (e _ _ h) hl h1 ih
theorem Tr.up {H : Hp} {n : Nat} {v : V} {d : PyData} (t : Tr H n v d) : Tr H (n + 1) v d := by
  induction t with
  | non n => exact .non _
  | bl n b => exact .bl _ b
  | int n i => exact .int _ i
  | str n z hz => exact .str _ z hz
  | lst h hl h1 hh ih => exact .lst h hl h1 ih
  | tup h hl h1 hh ih => exact .tup h hl h1 ih
theorem Tr.mono {H : Hp} {n m : Nat} {v : V} {d : PyData} (t : Tr H n v d) (h : n ≤ m) : Tr H m v d := by
  obtain ⟨k, rfl⟩ := Nat.le.dest h
  induction k with
  | zero => exact t
  | succ k ih => exact (ih (Nat.le_add_right _ _)).up
theorem dpAll_of {K : PySem.W.Frag} {H : Hp} : ∀ (xs : List V) (ds : List PyData), xs.length = ds.length → (∀ (i : Nat) (x : V) (d : PyData), xs[i]? = some x → ds[i]? = some d → Dp K H x d) → DpAll K H xs ds
  | [], [], _, _ => .nil
  | x :: xs, d :: ds, hl, h => .cons (h 0 x d rfl rfl) (dpAll_of xs ds (by simpa using hl) fun i y e h1 h2 => h (i + 1) y e h1 h2)
theorem Tr.dp {K : PySem.W.Frag} {H : Hp} {n : Nat} {v : V} {d : PyData} (t : Tr H n v d) : Dp K H v d := by
  induction t with
  | non n => exact .non
  | bl n b => exact .bl b
  | int n i => exact .int i
  | str n z hz => exact .str z
  | lst h hl h1 hh ih => exact .lst (SqL.of h) (dpAll_of _ _ hl ih)
  | tup h hl h1 hh ih => exact .tup (SqT.of h) (dpAll_of _ _ hl ih)
theorem layAll_of : ∀ ds : List PyData, (∀ (i : Nat) (d : PyData), ds[i]? = some d → d.canLay0 = true) → PyData.canLayAll0 ds = true
  | [], _ => rfl
  | d :: ds, h => by
    rw [PyData.canLayAll0, h 0 d rfl, layAll_of ds fun i e hh => h (i + 1) e hh]
    rfl
theorem depthAll_of {n : Nat} : ∀ ds : List PyData, (∀ (i : Nat) (d : PyData), ds[i]? = some d → d.depth ≤ n) → PyData.depthAll ds ≤ n
  | [], _ => by rw [PyData.depthAll]; exact Nat.zero_le _
  | d :: ds, h => by
    have h1 := h 0 d rfl
    have h2 := depthAll_of ds fun i e hh => h (i + 1) e hh
    rw [PyData.depthAll]
    omega
theorem got {α β : Type} {xs : List α} {ds : List β} (hl : xs.length = ds.length) {i : Nat} {d : β} (h : ds[i]? = some d) : ∃ x, xs[i]? = some x := by
  have hi := (List.getElem?_eq_some_iff.mp h).1
  exact ⟨_, List.getElem?_eq_getElem (by omega)⟩
theorem Tr.lay {H : Hp} {n : Nat} {v : V} {d : PyData} (t : Tr H n v d) : d.canLay0 = true := by
  induction t with
  | non n => rfl
  | bl n b => rfl
  | int n i => rfl
  | str n z hz => exact hz
  | lst h hl h1 hh ih => exact layAll_of _ fun i d hd => let ⟨x, hx⟩ := got hl hd; ih i x d hx hd
  | tup h hl h1 hh ih => exact layAll_of _ fun i d hd => let ⟨x, hx⟩ := got hl hd; ih i x d hx hd
theorem Tr.depth {H : Hp} {n : Nat} {v : V} {d : PyData} (t : Tr H n v d) : d.depth ≤ n + 1 := by
  induction t with
  | non n => rw [PyData.depth] <;> first | omega | (intros; contradiction)
  | bl n b => rw [PyData.depth] <;> first | omega | (intros; contradiction)
  | int n i => rw [PyData.depth] <;> first | omega | (intros; contradiction)
  | str n z hz => rw [PyData.depth] <;> first | omega | (intros; contradiction)
  | lst h hl h1 hh ih =>
    have := depthAll_of (n := _ + 1) _ fun i d hd => let ⟨x, hx⟩ := got hl hd; ih i x d hx hd
    rw [PyData.depth]
    omega
  | tup h hl h1 hh ih =>
    have := depthAll_of (n := _ + 1) _ fun i d hd => let ⟨x, hx⟩ := got hl hd; ih i x d hx hd
    rw [PyData.depth]
    omega
theorem Tr.shaped {H : Hp} {n : Nat} {v : V} {d : PyData} (t : Tr H n v d) (h : n ≤ 60) : SeqAt.shaped d = true := by
  have := t.depth
  unfold SeqAt.shaped
  rw [Bool.and_eq_true]
  exact ⟨t.lay, decide_eq_true (by omega)⟩
theorem Tr.eqv {H : Hp} {n : Nat} {v : V} {d : PyData} (t : Tr H n v d) : PyData.eqv d d = true := SeqAt.eqv_refl _ t.lay
/-- item by item -/
inductive TrAll (H : Hp) (n : Nat) : List V → List PyData → Prop
  | nil : TrAll H n [] []
  | cons {v : V} {vs : List V} {d : PyData} {ds : List PyData} : Tr H n v d → TrAll H n vs ds → TrAll H n (v :: vs) (d :: ds)
theorem TrAll.get {H : Hp} {n : Nat} : ∀ {vs : List V} {ds : List PyData}, TrAll H n vs ds → vs.length = ds.length ∧ ∀ (i : Nat) (x : V) (d : PyData), vs[i]? = some x → ds[i]? = some d → Tr H n x d
  | _, _, .nil => ⟨rfl, fun i x d h => by rw [List.getElem?_nil] at h; cases h⟩
  | _, _, .cons t r => ⟨by rw [List.length_cons, List.length_cons, r.get.1], fun i x d h1 h2 => by
    cases i with
    | zero =>
      cases Option.some.inj h1
      cases Option.some.inj h2
      exact t
    | succ i => exact r.get.2 i x d h1 h2⟩
theorem Tr.ofL {H : Hp} {n : Nat} {a : Addr} {xs : List V} {ds : List PyData} (h : H a = some (.lst xs)) (t : TrAll H n xs ds) (h1 : xs.length ≤ 1000) : Tr H (n + 1) (.ref a) (.list ds) := .lst h t.get.1 h1 t.get.2
theorem Tr.ofT {H : Hp} {n : Nat} {a : Addr} {xs : List V} {ds : List PyData} (h : H a = some (.tup xs)) (t : TrAll H n xs ds) (h1 : xs.length ≤ 1000) : Tr H (n + 1) (.ref a) (.tuple ds) := .tup h t.get.1 h1 t.get.2
theorem TrAll.ints {H : Hp} {n : Nat} : ∀ ns : List Int, TrAll H n (ns.map V.int) (ns.map PyData.int)
  | [] => .nil
  | m :: r => .cons (.int n m) (TrAll.ints r)
theorem Tr.ints {H : Hp} {n : Nat} {a : Addr} {ns : List Int} (h : H a = some (.lst (ns.map V.int))) (h1 : ns.length ≤ 1000) : Tr H (n + 1) (.ref a) (.list (ns.map PyData.int)) := .ofL h (.ints ns) (by rw [List.length_map]; exact h1)
theorem Tr.two {H : Hp} {m : Nat} {x y : V} {d : PyData} (t : Tr H m x d) (u : Tr H m y d) :
    (x = .non ∧ y = .non) ∨ (∃ b, x = .bl b ∧ y = .bl b) ∨ (∃ i, x = .int i ∧ y = .int i) ∨ (∃ z, (PyData.str z).canLay0 = true ∧ x = .str z ∧ y = .str z) ∨
    (∃ n a b xs ys ds, m = n + 1 ∧ x = .ref a ∧ y = .ref b ∧ H a = some (.lst xs) ∧ H b = some (.lst ys) ∧ xs.length = List.length ds ∧ ys.length = ds.length ∧ ys.length ≤ 1000 ∧ (∀ (i : Nat) (z : V) (d : PyData), xs[i]? = some z → ds[i]? = some d → Tr H n z d) ∧ ∀ (i : Nat) (z : V) (d : PyData), ys[i]? = some z → ds[i]? = some d → Tr H n z d) ∨
    ∃ n a b xs ys ds, m = n + 1 ∧ x = .ref a ∧ y = .ref b ∧ H a = some (.tup xs) ∧ H b = some (.tup ys) ∧ xs.length = List.length ds ∧ ys.length = ds.length ∧ ys.length ≤ 1000 ∧ (∀ (i : Nat) (z : V) (d : PyData), xs[i]? = some z → ds[i]? = some d → Tr H n z d) ∧ ∀ (i : Nat) (z : V) (d : PyData), ys[i]? = some z → ds[i]? = some d → Tr H n z d := by
  cases t with
  | non n => cases u; exact .inl ⟨rfl, rfl⟩
  | bl n b => cases u; exact .inr (.inl ⟨b, rfl, rfl⟩)
  | int n i => cases u; exact .inr (.inr (.inl ⟨i, rfl, rfl⟩))
  | str n z hz => cases u; exact .inr (.inr (.inr (.inl ⟨z, hz, rfl, rfl⟩)))
  | lst h hl h1 hh =>
    cases u with
    | lst k kl k1 kk => exact .inr (.inr (.inr (.inr (.inl ⟨_, _, _, _, _, _, rfl, rfl, rfl, h, k, hl, kl, k1, hh, kk⟩))))
  | tup h hl h1 hh =>
    cases u with
    | tup k kl k1 kk => exact .inr (.inr (.inr (.inr (.inr ⟨_, _, _, _, _, _, rfl, rfl, rfl, h, k, hl, kl, k1, hh, kk⟩))))
/-- contents in a list -/
def dll (cs : List (List Int)) : PyData := .list (cs.map fun c => .list (c.map PyData.int))
theorem Tr.rows {H : Hp} {n : Nat} {a : Addr} {ps : List Addr} {cs : List (List Int)} (h : H a = some (.lst (ps.map V.ref))) (hl : ps.length = cs.length) (hr : ∀ (i : Nat) (b : Addr), ps[i]? = some b → H b = some (.lst ((cs.getD i []).map V.int))) (h1 : ps.length ≤ 1000) (h2 : ∀ c ∈ cs, c.length ≤ 1000) : Tr H (n + 2) (.ref a) (dll cs) := by
  refine .lst h (by rw [List.length_map, List.length_map, hl]) (by rw [List.length_map]; exact h1) fun i x d hx hd => ?_
  rw [List.getElem?_map] at hx hd
  cases hp : ps[i]? with
  | none => rw [hp] at hx; cases hx
  | some b =>
    rw [hp] at hx
    cases hx
    cases hc : cs[i]? with
    | none => rw [hc] at hd; cases hd
    | some c =>
      rw [hc] at hd
      cases hd
      have e := hr i b hp
      rw [List.getD_eq_getElem?_getD, hc] at e
      exact .ints e (h2 c (List.mem_of_getElem? hc))
end Gx
end

section
namespace Gx
open PySem PySem.Spec PyProof.Rows L2 GxR
end Gx
end

section
set_option Elab.async false
set_option linter.all false
set_option maxRecDepth 100000
set_option maxHeartbeats 4000000
/-! Defs that may raise, by their names; classes of errors of the program's own. -/
namespace Gx
open PySem PySem.Spec PyProof.Rows L2 GxR
/-- a def that may raise -/
structure CalE (P : Program) (w : World) (K : PySem.W.Frag) (mg : Str → Option Value) (base : Heap) (k : Nat) (x : Str) (ps : List Str) (sp : Sp) : Prop where
  ex : ∃ f fd, FnOk P w K mg base (L2.CX P w) k f fd ps sp ∧ mg x = some (.ref f) ∧ PySem.W.keepIn K (.ref f) = true ∧ Binds K fd ps []
def tCallE (sp : Sp) (W : WX) (t : TA) : TE := fun σ H Q => t σ H fun vs H1 => sp vs H1 Q (WE W σ)
section
variable {X : Cx} {k : Nat} {x : Str} {ps : List Str} {sp : Sp} {W : WX}
theorem pe_calE {e : Expr} {es : List Expr} {p pos : Pos} {t : TA} (C : CalE X.prog X.w X.K X.mg X.base k x ps sp) (hr : Room k X.A) (tk : Takes X W) (ha : PA X (e :: es) t) (hg : Gl X x := by rfl) (hdb : (x == ("__debug__" : Str)) = false := by decide)
    (he : starEach (e :: es) X.env = (false, eval e X.env) :: starEach es X.env := by rfl) (hpl : (backTo pos (starEach es X.env)).any (·.1) = false := by rfl) : PE X (.Call (.Name x p) (e :: es) [] pos) (tCallE sp W t) := by
  obtain ⟨f, fd, F, hm, hk, hb⟩ := C.ex
  exact pe_callS F hr hg hm hk hb (fun σ => passAt tk σ) ha hdb he hpl
end
/-- a class of errors of the program's own at C, by the name x -/
structure Er (K : PySem.W.Frag) (mg : Str → Option Value) (x : Str) (C : Addr) : Prop where
  at_ : mg x = some (.ref C)
  ex : PySem.W.excIn K C [.type "ValueError", .type "Exception", .type "BaseException", .type "object"] "ValueError.__new__" = true
  keep : PySem.W.keepIn K (.ref C) = true
  sub : PySem.W.subIn K (.ref C) (.type "BaseException") = some true
  typ : PySem.W.typeIn K (.ref C) = some (.type "type")
  cls : PySem.W.isClsIn K C = true
  self : PySem.W.subIn K (.ref C) (.ref C) = some true
theorem Er.me {K : PySem.W.Frag} {mg : Str → Option Value} {x : Str} {S : Addr} (e : Er K mg x S) : PySem.W.exmOne K (.ref S) (.ref S) = some true := by
  have e1 : (PySem.W.subIn K (.ref S) (.type "BaseException") == some true) = true := by rw [e.sub] <;> rfl
  have e2 : ((PySem.W.clsIn K S).isSome && PySem.W.typeIn K (.ref S) == some (.type "type")) = true := by
    have h2' : (PySem.W.clsIn K S).isSome = true := e.cls
    rw [h2', e.typ] <;> rfl
  show (if (PySem.W.subIn K (.ref S) (.type "BaseException") == some true) = true then (if ((PySem.W.clsIn K S).isSome && PySem.W.typeIn K (.ref S) == some (.type "type")) = true then PySem.W.subIn K (.ref S) (.ref S) else none) else none) = some true
  rw [if_pos e1, if_pos e2]
  exact e.self
theorem with_er {K : PySem.W.Frag} {mg : Str → Option Value} {h : Heap} {x : Str} {C : Addr} {Z : Prop} (X : K.In h) (G : h.Ns mainGlobals mg) (a : PySem.W.nsIn K mainGlobals x = some (some (.ref C)))
    (l : PySem.W.excIn K C [.type "ValueError", .type "Exception", .type "BaseException", .type "object"] "ValueError.__new__" = true) (c : PySem.W.keepIn K (.ref C) = true) (k : PySem.W.subIn K (.ref C) (.type "BaseException") = some true)
    (t : PySem.W.typeIn K (.ref C) = some (.type "type")) (r : PySem.W.isClsIn K C = true) (n : PySem.W.subIn K (.ref C) (.ref C) = some true) (go : Er K mg x C → Z) : Z := go ⟨PySem.W.mg_of X G a, l, c, k, t, r, n⟩
section
variable {P : Program} {w : World} {K : PySem.W.Frag} {mg : Str → Option Value} {base : Heap} {k : Nat} {x : Str} {ps : List Str} {sp : Sp} {st : Stmt}
theorem calE_mk (D : DF K mg x st) (hb : ∀ f fd, Fun K x x st f fd → Binds K fd ps []) (F : ∀ f fd, Fun K x x st f fd → FnOk P w K mg base (L2.CX P w) k f fd ps sp) : CalE P w K mg base k x ps sp :=
  let ⟨f, fd, F0, m⟩ := D.ex; ⟨⟨f, fd, F f fd F0, m, F0.kp, hb f fd F0⟩⟩
end
section
variable {X : Cx} {x : Str} {C : Addr}
/-- raise X("..") -/
theorem ps_err {m : Str} {j : Nat} {p p2 pos pos2 : Pos} {W : WX} (hc : X.calm = true) (tk : Takes X W) (e : Er X.K X.mg x C) (hg : Gl X x := by rfl) (hdb : (x == ("__debug__" : Str)) = false := by decide) :
    PS X (.Raise (some (.Call (.Name x p) [.Constant (.str m) j p2] [] pos)) none pos2) (fun _ σ H => W (.ref C) none σ H) :=
  ps_raise hc tk (pmk_own PySem.F.excBase_ValueError e.ex e.at_ e.keep (raises_own e.sub e.typ) hg hdb)
end
end Gx
end

section
set_option Elab.async false
set_option linter.all false
set_option maxRecDepth 100000
set_option maxHeartbeats 4000000
/-! More of own classes: methods without arguments, by keywords, that raise; objects made by keywords; len; == by identity. -/
namespace Gx
open PySem PySem.Spec PyProof.Rows L2 GxR
section
variable {P : Program} {w : World} {K : PySem.W.Frag} {mg : Str → Option Value} {base : Heap} {k : Nat} {C : Addr} {x m qual : Str} {ps ks : List Str} {idx : List Nat} {sp : Sp} {st : Stmt}
end
section
variable {X : Cx} {C : Addr} {k : Nat} {m x : Str} {ps ks : List Str} {idx : List Nat} {sp : Sp} {W : WX}
end
end Gx
end

section
set_option Elab.async false
set_option linter.all false
set_option maxRecDepth 100000
set_option maxHeartbeats 4000000
/-! Dicts whose keys are tuples: their values and their pairs, one by one. -/
namespace Gx
open PySem PySem.Spec PyProof.Rows L2 GxR
section
variable {X : Cx} {pins : List (Addr × Obj)} {σ : L2.St} {H : Hp} {s : Shared} {d : Addr} {o : Obj}
end
section
variable {P : Program} {w : World} {K : PySem.W.Frag} {tg : Expr} {d : Addr} {o : Obj} {es : Array DictEntry} {ep : Nat}
end
section
variable {X : Cx} {tg e : Expr} {td : TE} {apos cpos : Pos}
end
section
variable {d : Addr} {o : Obj}
end
end Gx
end

section
set_option Elab.async false
set_option linter.all false
set_option maxRecDepth 100000
set_option maxHeartbeats 4000000
/-! Methods and defs as values: handed over, held by a name, called by it. -/
namespace Gx
open PySem PySem.Spec PyProof.Rows L2 GxR
/-- a method that may be taken as a value -/
structure Bd (K : PySem.W.Frag) (C : Addr) (m : Str) : Prop where
  ex : ∃ g, BMeth K C m g
theorem meth_one {K : PySem.W.Frag} {C f g : Addr} {m : Str} (a : Meth K C m f) (b : Meth K C m g) : f = g := by
  have := a.at_.symm.trans b.at_
  cases this
  rfl
/-- the method m of the object at a, bound, stands at q -/
def MetO (K : PySem.W.Frag) (C : Addr) (m : Str) (H : Hp) (q a : Addr) : Prop := ∃ g, Meth K C m g ∧ H q = some (.met g a)
theorem MetO.same {K : PySem.W.Frag} {C : Addr} {m : Str} {H H' : Hp} {q a : Addr} (h : MetO K C m H q a) (e : ∀ o, H q = some o → H' q = some o) : MetO K C m H' q a := let ⟨g, x, y⟩ := h; ⟨g, x, e _ y⟩
def tBound (K : PySem.W.Frag) (C : Addr) (m : Str) (ta : TE) : TE := fun σ H Q => ta σ H fun x H1 => ∃ a dx fs, x = .ref a ∧ H1 a = some (.ins C dx fs) ∧ fs.lookup m = none ∧ ∀ q H2, H1 q = none → (∀ b, b ≠ q → H2 b = H1 b) → MetO K C m H2 q a → Q (.ref q) H2
/-- the i-th slot holds a bound method -/
def tCallM (K : PySem.W.Frag) (i : Nat) (C : Addr) (m : Str) (sp : Sp) (t : TA) : TE := fun σ H Q => ∃ q a, σ[i]? = some (some (.ref q)) ∧ (∃ g, Meth K C m g ∧ H q = some (.met g a)) ∧ t σ H fun vs H1 => MetO K C m H1 q a ∧ sp (.ref a :: vs) H1 Q E0
/-- the i-th slot holds the def named y -/
def tCallF (mg : Str → Option Value) (i : Nat) (y : Str) (sp : Sp) (t : TA) : TE := fun σ H Q => (∃ f, mg y = some (.ref f) ∧ σ[i]? = some (some (.ref f))) ∧ t σ H fun vs H1 => sp vs H1 Q E0
def tGf (mg : Str → Option Value) (y : Str) : TE := fun σ H Q => ∀ f, mg y = some (.ref f) → Q (.ref f) H
section
variable {X : Cx} {k i : Nat} {C : Addr} {m x y : Str} {sp : Sp} {ps : List Str} {p pos : Pos} {e : Expr} {es : List Expr} {t : TA} {ta : TE}
/-- o.m as a value -/
theorem pe_bound (he : PE X e ta) (c : Cls X.K C) (B : Bd X.K C m) (hb : attributeBase e m X.env (eval e X.env) = eval e X.env := by rfl) : PE X (.Attribute e m pos) (tBound X.K C m ta) := by
  obtain ⟨g, b⟩ := B.ex
  refine ⟨fun pins s σ H Q I h => ?_⟩
  refine attr_of hb (thn (he.run pins s σ H _ I h) fun u s1 ⟨z, H1, I1, rz, a, dx, fs, ez, ea, l, q⟩ => ?_)
  subst ez
  obtain rfl : u = Value.ref a := rz
  exact getbound_ok I1 ea c b l fun q1 s2 hq1 I2 => ⟨.ref q1, _, I2, rfl, q q1 _ hq1 (fun b hb => L2.upd_ne hb) ⟨g, b.mt, L2.upd_same⟩⟩
/-- f(e, ..), the name f holds a bound method -/
theorem pe_callM (M : Mt X.prog X.w X.K X.mg X.base k C m ps sp) (B : Bd X.K C m) (hr : Room k X.A) (hN : X.N[i]? = some x) (hv : Vis X.env.scope x) (ha : PA X (e :: es) t)
    (hdb : (x == ("__debug__" : Str)) = false := by decide) (hcd : (x == ("__classdict__" : Str)) = false := by decide)
    (he : starEach (e :: es) X.env = (false, eval e X.env) :: starEach es X.env := by rfl) (hpl : (backTo pos (starEach es X.env)).any (·.1) = false := by rfl) : PE X (.Call (.Name x p) (e :: es) [] pos) (tCallM X.K i C m sp t) := by
  obtain ⟨f, fd, F, hm, hb⟩ := M.ex
  obtain ⟨g0, b⟩ := B.ex
  obtain rfl := meth_one hm b.mt
  refine ⟨fun pins s σ H Q I h => ?_⟩
  obtain ⟨q, a, hs, ⟨g, hg, hq⟩, ht⟩ := h
  obtain rfl := meth_one hm hg
  refine wpAny_Call_Name_kw (thn ((pe_var (pos := p) hN hv hdb hcd).run pins s σ H (fun v H1 => v = .ref q ∧ H1 = H) I ⟨.ref q, hs, rfl, rfl⟩) fun u s1 ⟨v, H1, I1, r1, q1⟩ => ?_)
  obtain ⟨rfl, rfl⟩ := q1
  cases r1
  have K0 : (backTo pos (starEach (e :: es) X.env)).any (·.1) = false := by
    rw [he]
    show (false || (backTo pos (starEach es X.env)).any (·.1)) = false
    rw [hpl]
    rfl
  refine PySem.W.callWith_of (P := PySem.W.MethP X.K q f (.ref a)) (by rw [K0]; rfl) (PySem.W.keeps_M b.fi) ?_
  have run := ha.run pos pins s1 σ _ (fun vs H1 => MetO X.K C m H1 q a ∧ sp (.ref a :: vs) H1 Q E0) I1 ht
  rw [he] at run ⊢
  refine PySem.Calls.evalArgs_plain (thn run fun us s2 ⟨vs, H2, I2, r, ⟨g, hg2, hq2⟩, hsp⟩ => ?_)
  obtain rfl := meth_one hm hg2
  refine ⟨met_P I2 hq2, ?_⟩
  exact wpAny_call (PySem.W.method_call (met_P I2 hq2).1 (run_fnR (us := Value.ref a :: us) (vs := V.ref a :: vs) (F.raw hb .nil) hr pass0 I2 (.cons rfl r) (by rw [List.append_nil]; exact hsp)))
/-- f(e, ..), the name f holds a def of the module -/
theorem pe_callF (M : Cal X.prog X.w X.K X.mg X.base k y ps sp) (hr : Room k X.A) (hN : X.N[i]? = some x) (hv : Vis X.env.scope x) (ha : PA X (e :: es) t)
    (hdb : (x == ("__debug__" : Str)) = false := by decide) (hcd : (x == ("__classdict__" : Str)) = false := by decide)
    (he : starEach (e :: es) X.env = (false, eval e X.env) :: starEach es X.env := by rfl) (hpl : (backTo pos (starEach es X.env)).any (·.1) = false := by rfl) : PE X (.Call (.Name x p) (e :: es) [] pos) (tCallF X.mg i y sp t) := by
  obtain ⟨f, fd, F, hm, hk, hb⟩ := M.ex
  refine ⟨fun pins s σ H Q I ⟨⟨g, hg, hs⟩, ht⟩ => ?_⟩
  rw [hm] at hg
  cases hg
  refine (pe_callL (i := i) (f := f) (sp := sp) (dvs := []) (E := E0) F hr hN hv hk hb .nil pass0 ha hdb hcd he hpl).run pins s σ H Q I ⟨hs, ?_⟩
  have e0 : (fun (vs : List V) (H1 : Hp) => sp (vs ++ []) H1 Q E0) = fun vs H1 => sp vs H1 Q E0 := by
    funext vs H1
    rw [List.append_nil]
  rw [e0]
  exact ht
/-- a def of the module as a value -/
theorem pe_gf (M : Cal X.prog X.w X.K X.mg X.base k y ps sp) (hg : Gl X y := by rfl) (hd : (y == ("__debug__" : Str)) = false := by decide) : PE X (.Name y pos) (tGf X.mg y) := by
  obtain ⟨f, fd, F, hm, hk, hb⟩ := M.ex
  exact ⟨fun pins s σ H Q I h => (pe_glob (v := .ref f) hg hm rfl hd).run pins s σ H Q I (h f hm)⟩
end
section
variable {K : PySem.W.Frag} {mg : Str → Option Value} {C g : Addr} {m y : Str} {Goal : Prop}
theorem with_bd (KL : Kls K mg y C) (a : PySem.W.findIn K (.ref C) m = some (some (.ref g))) (i : PySem.W.isFn K (.ref g) = true) (k : PySem.W.keepIn K (.ref g) = true) (gf : PySem.W.specialIn K (.ref g) "__get__" = some (some (.builtin "function.__get__"))) (tk : PySem.W.takesIn K (.ref g) = some false) (cp : PySem.W.copiedNames.contains m = false) (fi : PySem.W.fnIn K g = true)
    (go : Bd K C m → Goal) : Goal := go ⟨⟨g, ⟨⟨a, i, k⟩, gf, tk, cp, fi⟩⟩⟩
end
end Gx
end

section
set_option Elab.async false
set_option linter.all false
set_option maxRecDepth 100000
set_option maxHeartbeats 4000000
/-! {k: v for target in iter}, the keys tuples of ints and texts: D the new dict. -/
namespace Gx
open PySem PySem.Spec PyProof.Rows L2 GxR
section
variable {X : Cx}
end
end Gx
end

section
set_option Elab.async false
set_option linter.all false
set_option maxRecDepth 100000
set_option maxHeartbeats 4000000
/-! Tuples of ints: count, index. -/
namespace Gx
open PySem PySem.Spec PyProof.Rows L2 GxR
section
variable {X : Cx}
def rCntT (K : PySem.W.Frag) : V → List V → Hp → VK → Prop := fun x xs H Q => ∃ (p : Addr) (ns : List Int) (k : Int), x = .ref p ∧ xs = [.int k] ∧ SqT K H p (ns.map V.int) ∧ Q (.int (ns.count k : Nat)) H
theorem mt_tcount : MtR X "tuple.count" (rCntT X.K) := by
  intro pins s σ H x xs v us Q I rx rxs h
  obtain ⟨p, ns, k, rfl, rfl, hs, q⟩ := h
  cases rx
  obtain ⟨u, rfl, ru⟩ := rxs.one
  obtain ⟨t, rfl⟩ := ru
  obtain ⟨its, rv, pl, hz⟩ := I.tuple hs
  obtain ⟨⟨cls, dd, data, sl⟩, ho, hc, n, hd⟩ := pl
  simp only at hc hd
  subst hc hd
  have hi := ints_of_vals rv
  refine call_meets PySem.F.slot_tuple_count ⟨_, ho, rfl⟩ PySem.F.entry_tuple_count (PySem.F.args_tuple_count_2 _ _)
    (PySem.SeqAt.tuple_countAt p its.toArray n dd sl (.int k t) (eqk k)) ⟨ho, fun y hy => (eqk_gives hi y (by simpa using hy)).at _ _, ?_⟩
  have ec : its.toArray.toList.countP (eqk k) = ns.count k := eqk_count hi
  refine ⟨.int (ns.count k : Nat), H, I.tok _, ⟨s.toks, ?_⟩, q⟩
  show Value.int ((its.toArray.toList.countP (eqk k) : Nat) : Int) s.toks = Value.int ((ns.count k : Nat) : Int) s.toks
  rw [ec]
def rIdxT (K : PySem.W.Frag) : V → List V → Hp → VK → Prop := fun x xs H Q => ∃ (p : Addr) (ns : List Int) (k : Int) (j : Nat), x = .ref p ∧ xs = [.int k] ∧ SqT K H p (ns.map V.int) ∧ ns[j]? = some k ∧ (∀ m, m < j → ns[m]? ≠ some k) ∧ Q (.int (j : Nat)) H
theorem mt_tindex : MtR X "tuple.index" (rIdxT X.K) := by
  intro pins s σ H x xs v us Q I rx rxs h
  obtain ⟨p, ns, k, j, rfl, rfl, hs, hj, hno, q⟩ := h
  cases rx
  obtain ⟨u, rfl, ru⟩ := rxs.one
  obtain ⟨t, rfl⟩ := ru
  obtain ⟨its, rv, pl, hz⟩ := I.tuple hs
  obtain ⟨⟨cls, dd, data, sl⟩, ho, hc, n, hd⟩ := pl
  simp only at hc hd
  subst hc hd
  have hi := ints_of_vals rv
  have hl : its.toArray.size = ns.length := by rw [List.size_toArray, ← rv.length, List.length_map]
  have hjl : j < its.toArray.size := by rw [hl]; exact (List.getElem?_eq_some_iff.mp hj).1
  refine call_meets PySem.F.slot_tuple_index ⟨_, ho, rfl⟩ PySem.F.entry_tuple_index (PySem.F.args_tuple_index_2 _ _) (TI.tuple_indexAt p its.toArray n dd sl (.int k t) (eqk k) j hjl ?_ ?_)
    ⟨ho, fun y hy => (eqk_gives hi y (by simpa using hy)).at _ _, ⟨.int (j : Nat), H, I.tok _, ⟨_, rfl⟩, q⟩⟩
  · obtain ⟨tj, hjt⟩ := hi.get j k hj
    obtain ⟨h1, h2⟩ := List.getElem?_eq_some_iff.mp hjt
    have e1 : its.toArray[j] = .int k tj := by simpa using h2
    rw [e1]
    exact beq_self_eq_true k
  · intro m hm hmj
    have hmn : m < ns.length := by omega
    obtain ⟨tm, hmt⟩ := hi.get m _ (List.getElem?_eq_getElem hmn)
    obtain ⟨h1, h2⟩ := List.getElem?_eq_some_iff.mp hmt
    have e1 : its.toArray[m] = .int ns[m] tm := by simpa using h2
    rw [e1]
    refine beq_eq_false_iff_ne.mpr fun e2 => hno m hmj ?_
    rw [List.getElem?_eq_getElem hmn, e2]
end
end Gx
end

section
set_option Elab.async false
set_option linter.all false
set_option maxRecDepth 100000
set_option maxHeartbeats 4000000
/-! any of a generator expression. -/
namespace Gx
open PySem PySem.Spec PyProof.Rows L2 GxR
section
variable {X : Cx} {pins : List (Addr × Obj)} {σ : L2.St} {H : Hp} {s : Shared}
theorem codeAny_anyG {A0 : Around} {a : Addr} {g : Nat} {go : Obj} {G : Cx} {caps : L2.St} {L : Nat} {Pv : Nat → Hp → Prop} {Ye : Nat → V → Hp → Prop} {Qf : Hp → Prop} {R' : Result → Shared → Prop} {prog : Program} {w : World}
    (hG : G.prog = prog ∧ G.w = w) (hh : A0.handled = none) (hroom : A0.depth < recursionLimit) (hgen : ∀ h : Heap, h.get? a = some go → h.IsGen a g)
    (hYe : ∀ i y H, Ye i y H → ∃ b, y = .bl b ∧ if b = true then Qf H else Pv (i + 1) H)
    (hfalse : ∀ H s, Inv G [(a, go)] (none :: caps) H s → Qf H → R' (.ok (.ret (.bool true))) s) (htrue : ∀ H s, Inv G [(a, go)] (none :: caps) H s → Pv L H → R' (.ok (.ret (.bool false))) s) :
    ∀ (k i : Nat) (s : Shared) (gs : GenState), L - i = k → i ≤ L → (∃ H, Inv G [(a, go)] (none :: caps) H s) → s.gens[g]? = some gs →
      (∀ s', s'.heap = s.heap → s'.os = s.os → AllBare s'.gens → gs.Goes (model prog w) A0.in1.in1 (fun n s₀ r s₁ => r = .ok .next ∧ GEnd G a go caps L Pv n s₀ s₁) (GYld G a go caps L Pv Ye) (L - i + 1) (.send .none) s') →
      codeAny (model prog w) A0 (.builtin "any.loop" ⟨[.ref a], []⟩) R' s := by
  have pin : ∀ {H : Hp} {σ : L2.St} {s : Shared}, Inv G [(a, go)] σ H s → s.heap.IsGen a g := fun I => hgen _ (I.pin (a, go) (List.mem_append_right _ (List.mem_singleton.mpr rfl))).1
  intro k
  induction k with
  | zero =>
    intro i s gs hk hi ⟨H, I⟩ hgs hgo
    have hin : i = L := by omega
    subst hin
    refine codeAny_builtin F.entry_any_loop ?_
    rw [Around.under_plainId F.plain_any_loop _]
    show wpAny _ A0.in1 (pyNext (.ref a) >>= _) _ _ s
    refine wpAny_bind (wpAny_pyNext_genexpQ (n := i - i + 1) (P := GEnd G a go caps i Pv) hh I.nolimit hroom (pin I) hgs (hgo _ rfl rfl (bare_set I.bare rfl)) (fun v s₁ gs' hb hv => ?_) (fun s₁ hp h' hk => ?_))
    · obtain ⟨j, y, H2, hl, hj, _⟩ := hv
      have hj' : i - i + 1 - 1 + j = i := hj
      omega
    · obtain ⟨_, H2, I2, pv⟩ := hp
      refine wpAny_bind (wpAny_rule (wpAny_pure ?_))
      exact htrue H2 _ (inv_same ((inv_same I2 rfl rfl (s' := s₁.setGen g .finished) (bare_set I2.bare rfl)).kept (t' := s₁.toks) hk) rfl rfl (bare_set I2.bare rfl)) pv
  | succ k ih =>
    intro i s gs hk hi ⟨H, I⟩ hgs hgo
    have hlt : i < L := by omega
    refine codeAny_builtin F.entry_any_loop ?_
    rw [Around.under_plainId F.plain_any_loop _]
    show wpAny _ A0.in1 (pyNext (.ref a) >>= _) _ _ s
    have hsz : g + 1 ≤ s.gens.size := (Array.getElem?_eq_some_iff.mp hgs).1
    refine wpAny_bind (GenW.wpAny_gsz hsz (wpAny_pyNext_genexpQ (n := L - i + 1) (P := GEnd G a go caps L Pv) hh I.nolimit hroom (pin I) hgs (hgo _ rfl rfl (bare_set I.bare rfl)) (fun v s₁ gs' hb hv => ?_) (fun s₁ hp h' hk => ?_)))
    · obtain ⟨j, y, H2, hl, hj, r2, I2, ye, kap⟩ := hv
      have hj' : L - i + 1 - 1 + j = L := hj
      have hji : j = i := by omega
      subst hji
      obtain ⟨b, eb, hb2⟩ := hYe j y H2 ye
      subst eb
      have r2' : v = Value.bool b := r2
      subst r2'
      intro hz
      rw [GenW.setGen_size] at hz
      refine wpAny_bind (wpAny_holding (wpAny_truthy_bool ?_))
      refine wpAny_bind (wpAny_letGo ?_)
      have I3 : Inv G [(a, go)] (none :: caps) H2 (s₁.setGen g gs') := inv_same I2 rfl rfl (bare_set I2.bare hb)
      cases b with
      | false =>
        rw [if_neg Bool.false_ne_true] at hb2
        simp only [Bool.false_eq_true, if_false]
        refine wpAny_pure ⟨plainId_quiet F.plain_any_loop _, ih (j + 1) _ gs' (by omega) hl ⟨H2, I3⟩ (setGen_at hz) fun s' eh eo eb => ?_⟩
        have e : L - j = L - (j + 1) + 1 := by omega
        have := kap s' eh eo eb hb2
        rw [e] at this
        exact this
      | true =>
        rw [if_pos rfl] at hb2
        simp only [if_true]
        refine wpAny_bind (wpAny_rule (wpAny_pure ?_))
        exact hfalse H2 _ I3 hb2
    · obtain ⟨h0, _⟩ := hp
      have h0' : L - i + 1 = 1 := h0
      omega
end
end Gx
namespace Gx
open PySem PySem.Spec PyProof.Rows L2 GxR
/-- any(elt for x in iter): Pv i, what holds when i items have passed -/
def rAnyG (te : TE) (caps : L2.St) (Q : VK) : It → Hp → Prop := fun J H1 => ∃ (L : Nat) (Pv : Nat → Hp → Prop), Pv 0 H1 ∧ (∀ H, Pv L H → J.stop L H ∧ Q (.bl false) H) ∧
    ∀ i H, i < L → Pv i H → J.go i H ∧ ∀ y H', J.yld i H y H' → te (some y :: caps) H' fun z H2 => ∃ b, z = .bl b ∧ if b = true then Q (.bl true) H2 else Pv (i + 1) H2
def tAnyG (P : Addr) (wi : TI) (te : TE) (ns : List (Str × Nat)) : TE := fun σ H Q => wi σ H fun J H1 => H1 P = some (TabO P) ∧ rAnyG te (capsOf σ ns) Q J H1
section
variable {X : Cx}
theorem pe_anyG {c P : Addr} {elt iter : Expr} {x : Str} {px p pos gpos : Pos} {scope : Scope} {ns : List (Str × Nat)} {wi : TI} {te : TE} {k' : Nat}
    (hr : Room (k' + 3) X.A) (hg : Gl X "any") (hm : X.mg "any" = none) (TB : TabB X.base X.mg c P) (hcode : X.env.code = .ref c) (S : GOk X.N X.env.scope scope x ns) (hnd : (x :: ns.map (·.1)).Nodup) (hi : PI X (.Name x px) iter wi)
    (he : ∀ (s : Shared) (H : Hp) (C : Addr) (code : Value) (fp : List Addr) (A : Around), Room k' A → PE (gcx X s H (x :: ns.map (·.1)) (genEnv scope (cloFrom X.env.cells scope.names []) C code builtinsNs X.env) fp A) elt te)
    (hs : ∀ v, genFold iter X.env v = pure v := by intro _; rfl) (hb : bootBuiltins "any" = some (.builtin "any") := by decide +kernel)
    (hst : starEach [.GeneratorExp elt [⟨.Name x px, iter, [], 0⟩] scope gpos] X.env = (false, eval (.GeneratorExp elt [⟨.Name x px, iter, [], 0⟩] scope gpos) X.env) :: starEach [] X.env := by rfl) :
    PE X (.Call (.Name "any" p) [.GeneratorExp elt [⟨.Name x px, iter, [], 0⟩] scope gpos] [] pos) (tAnyG P wi te ns) := by
  refine ⟨fun pins s σ H Q I h => ?_⟩
  refine wpAny_Call_Name_kw (ld_blt I hg hm hb ?_)
  refine PyProof.Rows.callWith_builtin1 ?_ hst (by rfl)
  rw [hst]
  show wpAny _ _ (spliced ((false, eval (.GeneratorExp elt [⟨.Name x px, iter, [], 0⟩] scope gpos) X.env) :: backTo pos (starEach [] X.env))) _ _ s
  refine Calls.spliced_cons (gen_made (R := rAnyG te (capsOf σ ns) Q) hr TB hcode S hnd hi he hs I h fun J H1 a s5 hR hG => ?_)
  obtain ⟨g, go, c5, hgen, hgs, hA⟩ := hG
  have hr1 : Room (k' + 1) X.A.in1.in1 := hr.in1.in1
  obtain ⟨G, hG1, hG2, back, I5, goes⟩ := hA X.A.in1.in1 hr1 (by rw [show X.A.in1.in1.frames = X.A.frames from rfl]; exact I.ok.frames)
  obtain ⟨L, Pv, p0, hstop, hstep⟩ := hR
  refine Calls.spliced_nil ?_
  refine call_function_tree F.kind_any F.plain_any F.entry_any (F.args_any1 _) ?_
  unfold Builtin.«any»
  refine wpAny_bind (m := oneArg "any" _) (wpAny_pure ?_)
  refine wpAny_bind (wpAny_pyIter_gen (hgen _ (I5.pin (a, go) (List.mem_append_right _ (List.mem_singleton.mpr rfl))).1) ?_)
  refine wpAny_pure ⟨plainId_quiet F.plain_any_loop _, ?_⟩
  refine codeAny_anyG (G := G) (L := L) (Pv := Pv) (Qf := fun H => Q (.bl true) H) (Ye := fun i z H2 => ∃ b, z = .bl b ∧ if b = true then Q (.bl true) H2 else Pv (i + 1) H2) ⟨hG1, hG2⟩ hr.hd (by have := hr.dp; show X.A.depth < recursionLimit; omega) hgen (fun i y H h => h) (fun H' s' J' q => ?_) (fun H' s' J' q => ?_) L 0 s5 (.fresh c5) rfl (Nat.zero_le _) ⟨H1, I5⟩ hgs
    (goes L Pv _ (fun i H' hi hp => hstep i H' hi hp) (fun H' hp => (hstop H' hp).1) p0)
  · exact ⟨.bl true, H', back H' s' J', rfl, q⟩
  · exact ⟨.bl false, H', back H' s' J', rfl, (hstop H' q).2⟩
end
end Gx
end

section
set_option Elab.async false
set_option linter.all false
set_option maxRecDepth 100000
set_option maxHeartbeats 4000000
/-! {k: v for t0 in i0 for t1 in i1}, the keys ints or texts: D the new dict. -/
namespace Gx
open PySem PySem.Spec PyProof.Rows L2 GxR
theorem turn_dc_out (kx vx t0 i0 t1 i1 : Expr) (scope : Scope) (pos : Pos) (it acc : Value) (env : Env) :
    compTurn (.DictComp kx vx [⟨t0, i0, [], 0⟩, ⟨t1, i1, [], 0⟩] scope pos) 0 it acc env = (do
      standAt i0.pos
      match ← pyNext it with
      | none => pure (.done .next)
      | some v =>
        letOwnedTupleGo t0 it v
        assign t0 env v
        let x ← eval i1 env
        standAt i1.pos
        let x ← foldedSetIterable i1 env x
        let _ ← runOwn (.compStart (.DictComp kx vx [⟨t0, i0, [], 0⟩, ⟨t1, i1, [], 0⟩] scope pos) 1 (← holding [x] (pyIter x)) acc env) env
        again (.compLoop (.DictComp kx vx [⟨t0, i0, [], 0⟩, ⟨t1, i1, [], 0⟩] scope pos) 0 it acc env)) := by rfl
theorem turn_dc_in (kx vx t0 i0 t1 i1 : Expr) (scope : Scope) (pos : Pos) (it : Value) (D : Addr) (env : Env) :
    compTurn (.DictComp kx vx [⟨t0, i0, [], 0⟩, ⟨t1, i1, [], 0⟩] scope pos) 1 it (.ref D) env = (do
      standAt i1.pos
      match ← pyNext it with
      | none => pure (.done .next)
      | some v =>
        letOwnedTupleGo t1 it v
        assign t1 env v
        (do
          let kv ← eval kx env
          let vv ← holding [kv] (eval vx env)
          standAt { kx.pos with endLine := vx.pos.endLine, endCol := vx.pos.endCol }
          holding [kv, vv] (dictSet D kv vv))
        again (.compLoop (.DictComp kx vx [⟨t0, i0, [], 0⟩, ⟨t1, i1, [], 0⟩] scope pos) 1 it (.ref D) env)) := by rfl
section
variable {prog : Program} {w : World} {A : Around} {R : Result → Shared → Prop} {s : Shared} {kx vx t0 i0 t1 i1 : Expr} {scope : Scope} {pos : Pos} {it acc : Value} {D : Addr} {env : Env}
theorem loop_dc_out (hs : ∀ x, foldedSetIterable i1 env x = pure x) (I : Nat → Shared → Prop)
    (turn : ∀ n s, I n s → wpAny (model prog w) A (pyNext it) (fun r s₁ => match r with
      | none => R (.ok .next) s₁
      | some v => wpAny (model prog w) A (letOwnedTupleGo t0 it v) (fun _ s₁' => wpAny (model prog w) A (assign t0 env v) (fun _ s₂ =>
          wpAny (model prog w) A (eval i1 env) (fun x s₄ => wpAny (model prog w) A (pyIter x) (fun it1 s₅ =>
              codeAny (model prog w) A (.compStart (.DictComp kx vx [⟨t0, i0, [], 0⟩, ⟨t1, i1, [], 0⟩] scope pos) 1 it1 acc env) (fun r s' => match r with
                | .ok _ => ∃ m, m < n ∧ I m s'
                | .error _ => False) s₅) (notedBy (model prog w) A env fun e s' => R (.error e) s') s₄) (notedBy (model prog w) A env fun e s' => R (.error e) s') s₂) (notedBy (model prog w) A env fun e s' => R (.error e) s') s₁') (notedBy (model prog w) A env fun e s' => R (.error e) s') s₁) (notedBy (model prog w) A env fun e s' => R (.error e) s') s)
    (n : Nat) (h : I n s) : codeAny (model prog w) A (.compLoop (.DictComp kx vx [⟨t0, i0, [], 0⟩, ⟨t1, i1, [], 0⟩] scope pos) 0 it acc env) R s := by
  refine codeAny_loop rfl I (fun n s hI => ?_) n h
  show wpAny _ A ((compTurn (.DictComp kx vx [⟨t0, i0, [], 0⟩, ⟨t1, i1, [], 0⟩] scope pos) 0 it acc env).onRaise (fun x => do noteFrame x env; theTreesLotGoes x)) _ _ s
  refine wpAny_noted ?_
  rw [turn_dc_out]
  refine wpAny_bind (wpAny_standAt (wpAny_bind (wpAny_mono (turn n s hI) (fun r s₁ h₁ => ?_) fun _ _ h' => h')))
  cases r with
  | none => exact wpAny_pure h₁
  | some v =>
    refine wpAny_bind (wpAny_mono h₁ (fun _ s₁' h₁' => ?_) fun _ _ h' => h')
    refine wpAny_bind (wpAny_mono h₁' (fun _ s₂ h₂ => wpAny_bind (wpAny_mono h₂ (fun x s₄ h₄ => ?_) fun _ _ h' => h')) fun _ _ h' => h')
    refine wpAny_bind (wpAny_standAt (wpAny_bind (wpAny_of_eq (hs x) (wpAny_bind (wpAny_holding (wpAny_mono h₄ (fun it1 s₅ h₅ => ?_) fun _ _ h' => h'))))))
    refine wpAny_bind (wpAny_runOwn ?_)
    rw [Around.mark_none]
    refine codeAny_mono h₅ fun r s' hr => ?_
    cases r with
    | ok f =>
      first
        | exact wpAny_pure ⟨rfl, hr⟩
        | exact wpAny_bind (wpAny_pure (wpAny_pure ⟨rfl, hr⟩))
    | error e => exact hr.elim
theorem loop_dc_in (I : Nat → Shared → Prop)
    (turn : ∀ n s, I n s → wpAny (model prog w) A (pyNext it) (fun r s₁ => match r with
      | none => R (.ok .next) s₁
      | some v => wpAny (model prog w) A (letOwnedTupleGo t1 it v) (fun _ s₁' => wpAny (model prog w) A (assign t1 env v) (fun _ s₂ =>
          wpAny (model prog w) A (eval kx env) (fun kv s₄ => wpAny (model prog w) A (eval vx env) (fun vv s₅ =>
              wpAny (model prog w) A (dictSet D kv vv) (fun _ s₆ => ∃ m, m < n ∧ I m s₆) (notedBy (model prog w) A env fun e s' => R (.error e) s') s₅) (notedBy (model prog w) A env fun e s' => R (.error e) s') s₄) (notedBy (model prog w) A env fun e s' => R (.error e) s') s₂) (notedBy (model prog w) A env fun e s' => R (.error e) s') s₁') (notedBy (model prog w) A env fun e s' => R (.error e) s') s₁) (notedBy (model prog w) A env fun e s' => R (.error e) s') s)
    (n : Nat) (h : I n s) : codeAny (model prog w) A (.compLoop (.DictComp kx vx [⟨t0, i0, [], 0⟩, ⟨t1, i1, [], 0⟩] scope pos) 1 it (.ref D) env) R s := by
  refine codeAny_loop rfl I (fun n s hI => ?_) n h
  show wpAny _ A ((compTurn (.DictComp kx vx [⟨t0, i0, [], 0⟩, ⟨t1, i1, [], 0⟩] scope pos) 1 it (.ref D) env).onRaise (fun x => do noteFrame x env; theTreesLotGoes x)) _ _ s
  refine wpAny_noted ?_
  rw [turn_dc_in]
  refine wpAny_bind (wpAny_standAt (wpAny_bind (wpAny_mono (turn n s hI) (fun r s₁ h₁ => ?_) fun _ _ h' => h')))
  cases r with
  | none => exact wpAny_pure h₁
  | some v =>
    refine wpAny_bind (wpAny_mono h₁ (fun _ s₁' h₁' => ?_) fun _ _ h' => h')
    refine wpAny_bind (wpAny_mono h₁' (fun _ s₂ h₂ => ?_) fun _ _ h' => h')
    exact wpAny_bind (wpAny_bind (wpAny_mono h₂ (fun kv s₄ h₄ => wpAny_bind (wpAny_holding (wpAny_mono h₄ (fun vv s₅ h₅ => wpAny_bind (wpAny_standAt (wpAny_holding (wpAny_mono h₅ (fun _ s₆ h₆ => wpAny_pure ⟨rfl, h₆⟩) fun _ _ h' => h')))) fun _ _ h' => h'))) fun _ _ h' => h'))
theorem start_dc_in (h0 : codeAny (model prog w) A (.compLoop (.DictComp kx vx [⟨t0, i0, [], 0⟩, ⟨t1, i1, [], 0⟩] scope pos) 1 it acc env) R s)
    (h : wpAny (model prog w) A (pyIter it) (fun it' s' => codeAny (model prog w) A (.compLoop (.DictComp kx vx [⟨t0, i0, [], 0⟩, ⟨t1, i1, [], 0⟩] scope pos) 1 it' acc env) R s') (notedBy (model prog w) A env fun x s' => R (.error x) s') s) :
    codeAny (model prog w) A (.compStart (.DictComp kx vx [⟨t0, i0, [], 0⟩, ⟨t1, i1, [], 0⟩] scope pos) 1 it acc env) R s := by
  refine codeAny_of_tree ?_
  show wpAny _ _ ((compStart (.DictComp kx vx [⟨t0, i0, [], 0⟩, ⟨t1, i1, [], 0⟩] scope pos) 1 it acc env).onRaise (fun x => do noteFrame x env; standAt theWindowsPlace)) _ _ s
  refine wpAny_notedAt ?_
  unfold compStart
  show wpAny _ _ (ask >>= _) _ _ s
  refine wpAny_bind (wpAny_askSetting (wpAny_ite ?_))
  split
  · first
      | exact wpAny_bind (wpAny_pure (wpAny_pure (And.intro rfl h0)))
      | exact wpAny_pure (And.intro rfl h0)
  · first
      | exact wpAny_bind (wpAny_rule (wpAny_bind (wpAny_standAt (wpAny_bind (wpAny_mono h (fun it' s' h' => wpAny_pure (And.intro rfl h')) fun _ _ x => x)))))
      | (refine wpAny_bind (wpAny_rule ?_); show wpAny _ _ (standAt i1.pos >>= _) _ _ s; exact wpAny_bind (wpAny_standAt (wpAny_bind (wpAny_mono h (fun it' s' h' => wpAny_pure (And.intro rfl h')) fun _ _ x => x))))
end
end Gx
end

section
set_option Elab.async false
set_option linter.all false
set_option maxRecDepth 100000
set_option maxHeartbeats 4000000
/-! the promise of a dict comprehension with two clauses -/
namespace Gx
open PySem PySem.Spec PyProof.Rows L2 GxR
def rDc2 (g : TG) (wi1 : TI) (g1 : TG) (tk tv : TE) (vs vs1 : List Nat) (σ : L2.St) (Q : VK) : It → Hp → Prop := fun J H1 => ∃ L : Nat, ∀ D, H1 D = none → ∃ Pv : Nat → Hp → Prop, Pv 0 (L2.upd H1 D (.dK [])) ∧
  (∀ H, Pv L H → J.stop L H ∧ Q (.ref D) H) ∧
  ∀ i H, i < L → Pv i H → J.go i H ∧ ∀ y H', J.yld i H y H' → g y (wipe σ vs) H' fun σ1 H2 => wipe σ1 vs = wipe σ vs ∧ wi1 σ1 H2 fun J1 H3 => ∃ (L1 : Nat) (Pv1 : Nat → Hp → Prop), Pv1 0 H3 ∧
    (∀ H, Pv1 L1 H → J1.stop L1 H ∧ Pv (i + 1) H) ∧
    ∀ j H, j < L1 → Pv1 j H → J1.go j H ∧ ∀ y1 H', J1.yld j H y1 H' → g1 y1 (wipe σ1 vs1) H' fun σ2 H4 => wipe σ2 vs1 = wipe σ1 vs1 ∧ tk σ2 H4 fun yk H5 => tv σ2 H5 fun z H6 =>
      ∃ kvs k, yk = kV k ∧ H6 D = some (.dK kvs) ∧ kvs.length < sizeLine ∧ Pv1 (j + 1) (L2.upd H6 D (.dK (putK kvs k z)))
def tDc2 (wi : TI) (g : TG) (wi1 : TI) (g1 : TG) (tk tv : TE) (vs vs1 : List Nat) : TE := fun σ H Q => wi σ H (rDc2 g wi1 g1 tk tv vs vs1 σ Q)
section
variable {X : Cx}
theorem dc2_core {pins : List (Addr × Obj)} {s : Shared} {σ : L2.St} {H : Hp} {Q : VK} {pos' : Pos} {use : Option (Value → Sem Unit)} {Qf : Value → Shared → Prop} {kx vx tg iter tg1 iter1 : Expr} {scope : Scope} {own : List (PySem.Str × Nat)} {vs1 : List Nat} {pos : Pos} {wi wi1 : TI} {g g1 : TG} {tk tv : TE} (hc : X.calm = true) (hN : X.N.Nodup) (hi : PI X tg iter wi) (ok : BlkOk X.N X.env.scope scope own) (hv : ∀ i ∈ vs1, i ∈ own.map (·.2))
    (hg : ∀ (s : Shared) (H : Hp) (C : Addr) (cl : List (PySem.Str × Addr)) (fp : List Addr), PG (X.blk s H scope (compEnvC scope cl C X.env) fp) tg g)
    (hi1 : ∀ (s : Shared) (H : Hp) (C : Addr) (cl : List (PySem.Str × Addr)) (fp : List Addr), PI (X.blk s H scope (compEnvC scope cl C X.env) fp) tg1 iter1 wi1)
    (hg1 : ∀ (s : Shared) (H : Hp) (C : Addr) (cl : List (PySem.Str × Addr)) (fp : List Addr), PG (X.blk s H scope (compEnvC scope cl C X.env) fp) tg1 g1)
    (hk : ∀ (s : Shared) (H : Hp) (C : Addr) (cl : List (PySem.Str × Addr)) (fp : List Addr), PE (X.blk s H scope (compEnvC scope cl C X.env) fp) kx tk)
    (he : ∀ (s : Shared) (H : Hp) (C : Addr) (cl : List (PySem.Str × Addr)) (fp : List Addr), PE (X.blk s H scope (compEnvC scope cl C X.env) fp) vx tv) (hs : ∀ x, foldedSetIterable iter X.env x = pure x) (hs1 : ∀ env x, foldedSetIterable iter1 env x = pure x) (I : Inv X pins σ H s) (h : (tDc2 wi g wi1 g1 tk tv (own.map (·.2)) vs1) σ H Q)
    (hRR : ∀ D C s' m H', Inv X pins σ H' s' → Q (.ref D) H' → s'.heap.Ns C m → FpOk X pins H' C → compPost (model X.prog X.w) X.A X.xe use Qf (.ref D) C (.ok .next) s') :
    wpAny (model X.prog X.w) X.A (comprehension (.DictComp kx vx [⟨tg, iter, [], 0⟩, ⟨tg1, iter1, [], 0⟩] scope pos) scope X.env pos' newDict false (eval iter X.env) use) Qf X.xe s := by
  have hclo : ∀ y ∈ scope.names, y.2 = .free → ∃ c, X.env.cells.lookup y.1 = some c := fun y hy e =>
    (ok.free y hy e).elim (fun k => I.ok.has _ (.inl k)) fun k => I.ok.has _ (.inr k)
  refine wpAny_comprehension_free (use := use) rfl hs (closure_ok hclo) ok.kind (fun y hy e => (ok.uniq y hy).trans (by rw [e])) (thn (hi.run pins s σ H _ I h) fun xv s1 hx => thn hx fun itv s2 h2 => ?_)
  obtain ⟨it, fp, tn, J, H2, rfl, I2, T, st2, f2, L, q⟩ := h2
  refine wpAny_newObj_type (newEnv_comp ?_)
  obtain ⟨Pv, p0, hstop, hstep⟩ := q s2.heap.objs.size I2.fresh
  generalize hD : s2.heap.objs.size = D at p0 hstop hstep ⊢
  have fpD : ∀ b ∈ fp, b < D := fun b hb => by
    obtain ⟨o, e, _⟩ := T.obj _ _ st2 b hb
    rw [← hD]
    exact Heap.lt_size e
  generalize hs3 : ({ s2 with heap := s2.heap.push { cls := .type "dict", data := .dict #[] } } : Shared) = s3
  have heap3 : s3.heap = s2.heap.push { cls := .type "dict", data := .dict #[] } := by rw [← hs3]
  have old3 : ∀ b o, s2.heap.get? b = some o → s3.heap.get? b = some o := fun b o e => by rw [heap3]; exact Heap.get?_push_of_some _ e
  have I3 : Inv X pins σ (L2.upd H2 D (.dK [])) s3 := by
    rw [← hs3, ← hD]
    exact I2.laid (t' := s2.toks) (fun b o e => Heap.get?_push_of_some _ e) (Nat.le_refl _) (dk_empty s2.heap I2.big)
  have ok3 : ∀ b ∈ fp, FpOk X pins (L2.upd H2 D (.dK [])) b ∧ b < s3.heap.objs.size := fun b hb => by
    refine ⟨⟨(L2.upd_ne (Nat.ne_of_lt (fpD b hb))).trans (f2 b hb).1, (f2 b hb).2⟩, ?_⟩
    rw [heap3, Heap.size_push, hD]
    exact Nat.lt_succ_of_lt (fpD b hb)
  generalize L2.upd H2 D (.dK []) = H3 at I3 p0 ok3
  have B3 := block_start I3 ok hN ok3
  have pg := hg s3 H3 s3.heap.objs.size (cellsFrom (s3.heap.objs.size + 1) scope.names (cloFrom X.env.cells scope.names [])) fp
  have pk := hk s3 H3 s3.heap.objs.size (cellsFrom (s3.heap.objs.size + 1) scope.names (cloFrom X.env.cells scope.names [])) fp
  have pi1 := hi1 s3 H3 s3.heap.objs.size (cellsFrom (s3.heap.objs.size + 1) scope.names (cloFrom X.env.cells scope.names [])) fp
  have pg1 := hg1 s3 H3 s3.heap.objs.size (cellsFrom (s3.heap.objs.size + 1) scope.names (cloFrom X.env.cells scope.names [])) fp
  have pe := he s3 H3 s3.heap.objs.size (cellsFrom (s3.heap.objs.size + 1) scope.names (cloFrom X.env.cells scope.names [])) fp
  show codeAny _ _ (.compStart (.DictComp kx vx [⟨tg, iter, [], 0⟩, ⟨tg1, iter1, [], 0⟩] scope pos) 0 (.ref it) (.ref D) (compEnvC scope (cellsFrom (s3.heap.objs.size + 1) scope.names (cloFrom X.env.cells scope.names [])) s3.heap.objs.size X.env)) (compPost (model X.prog X.w) X.A X.xe use _ (.ref D) s3.heap.objs.size) { s3 with heap := pushCells (s3.heap.push { cls := .type "dict", data := .dict #[] }) scope.names }
  generalize hce : compEnvC scope (cellsFrom (s3.heap.objs.size + 1) scope.names (cloFrom X.env.cells scope.names [])) s3.heap.objs.size X.env = ce at B3 pg pk pe pi1 pg1 ⊢
  have cL : ce.locals = s3.heap.objs.size := by rw [← hce]; rfl
  generalize hs4 : ({ s3 with heap := pushCells (s3.heap.push { cls := .type "dict", data := .dict #[] }) scope.names } : Shared) = s4 at B3 ⊢
  have st4 : tn 0 s4.heap := T.keep _ _ _ st2 fun b _ o e => by
    rw [← hs4]
    exact pushCells_keeps _ _ _ _ (Heap.get?_push_of_some _ (old3 b o e))
  have foot : ∀ {σ' : L2.St} {H' : Hp} {s' : Shared}, Inv (X.blk s3 H3 scope ce fp) [] σ' H' s' → (∀ b ∈ fp, H' b = none) → ∀ b ∈ fp, FpOk (X.blk s3 H3 scope ce fp) [] H' b := fun I' hn b hb => by
    have z := I'.ok.exf b hb
    exact ⟨hn b hb, z.1, I'.ok.exfs b hb, .inl hb, fun x c e => z.2 x c e, fun p hp => absurd (show p ∈ ([] : List (Addr × Obj)) ++ [] from hp) (by simp)⟩
  have turns : codeAny (model X.prog X.w) X.A (.compLoop (.DictComp kx vx [⟨tg, iter, [], 0⟩, ⟨tg1, iter1, [], 0⟩] scope pos) 0 (.ref it) (.ref D) ce) (compPost (model X.prog X.w) X.A X.xe use Qf (.ref D) s3.heap.objs.size) s4 := by
    refine loop_dc_out (hs1 ce) (fun n s' => ∃ i H', n = L - i ∧ i ≤ L ∧ Inv (X.blk s3 H3 scope ce fp) [] (wipe σ (own.map (·.2))) H' s' ∧ tn i s'.heap ∧ (∀ b ∈ fp, H' b = none) ∧ Pv i H') ?_ L ⟨0, H3, rfl, Nat.zero_le _, B3, st4, fun b hb => (ok3 b hb).1.1, p0⟩
    rintro n s5 ⟨i, H5, rfl, hi, I5, st5, n5, p5⟩
    by_cases hlt : i < L
    · obtain ⟨go, step⟩ := hstep i H5 hlt p5
      refine thnF (T.item (X.blk s3 H3 scope ce fp) rfl rfl rfl hc i [] s5 _ H5 (fun _ _ => False) I5 (foot I5 n5) st5 go) fun r s6 ⟨u, hr, h6⟩ => ?_
      subst hr
      refine thnF h6 fun _ s7 ⟨x, H7, I7, r7, y7, st7, n7⟩ => ?_
      refine thnF (pg.run _ s7 _ H7 x u _ (I7.pinned (foot I7 n7) (T.obj _ _ st7)) r7 (step x H7 y7)) fun _ s8 ⟨σ8, H8, I8, kp, q8⟩ => ?_
      -- the end of an outer turn, seen from slots that know what the block knew
      have outer : ∀ {σ9 : L2.St} {s' : Shared} {H' : Hp}, Inv (X.blk s3 H3 scope ce fp) ([] ++ pinsAt fp s7.heap) σ9 H' s' → (wipe σ (own.map (·.2))).length = σ9.length → (∀ (j : Nat) v, (wipe σ (own.map (·.2)))[j]? = some (some v) → σ9[j]? = some (some v)) → Pv (i + 1) H' →
          ∃ m, m < L - i ∧ ∃ i H', m = L - i ∧ i ≤ L ∧ Inv (X.blk s3 H3 scope ce fp) [] (wipe σ (own.map (·.2))) H' s' ∧ tn i s'.heap ∧ (∀ b ∈ fp, H' b = none) ∧ Pv i H' := fun {σ9 s' H'} I' hl hk p' => by
        have pinned : ∀ b ∈ fp, ∀ o, s7.heap.get? b = some o → s'.heap.get? b = some o ∧ H' b = none := fun b hb o e =>
          have z := I'.pin (b, o) (List.mem_append_right _ (List.mem_append_right _ (mem_pinsAt hb e)))
          ⟨z.1, z.2.1⟩
        refine ⟨L - (i + 1), by omega, i + 1, H', rfl, hlt, (I'.unpinned (pins := [])).weak hl hk, T.keep _ _ _ st7 fun b hb o e => (pinned b hb o e).1, fun b hb => ?_, p'⟩
        obtain ⟨o, e, _⟩ := T.obj _ _ st7 b hb
        exact (pinned b hb o e).2
      have hl8 : (wipe σ (own.map (·.2))).length = σ8.length := by rw [← kp, wipe_length]
      have hk8 : ∀ (j : Nat) v, (wipe σ (own.map (·.2)))[j]? = some (some v) → (wipe σ8 vs1)[j]? = some (some v) := fun j v e => by
        rw [← kp] at e
        obtain ⟨e1, e2⟩ := wipe_some e
        rw [wipe_out fun z => e2 (hv j z)]
        exact e1
      refine thnF (pi1.run _ s8 σ8 H8 _ I8 q8) fun xv1 s9 hx1 => thnF hx1 fun itv1 s10 h10 => ?_
      obtain ⟨it1, fp1, tn1, J1, H10, e1, I10, T1, st10, f10, L1, Pv1, p10, hstop1, hstep1⟩ := h10
      subst e1
      have foot1 : ∀ {H' : Hp}, (∀ b ∈ fp1, H' b = none) → ∀ b ∈ fp1, FpOk (X.blk s3 H3 scope ce fp) ([] ++ pinsAt fp s7.heap) H' b := fun hn b hb => ⟨hn b hb, (f10 b hb).2⟩
      have turns1 : codeAny (model X.prog X.w) X.A (.compLoop (.DictComp kx vx [⟨tg, iter, [], 0⟩, ⟨tg1, iter1, [], 0⟩] scope pos) 1 (.ref it1) (.ref D) ce)
          (fun r s' => match r with
            | .ok _ => ∃ m, m < L - i ∧ ∃ i H', m = L - i ∧ i ≤ L ∧ Inv (X.blk s3 H3 scope ce fp) [] (wipe σ (own.map (·.2))) H' s' ∧ tn i s'.heap ∧ (∀ b ∈ fp, H' b = none) ∧ Pv i H'
            | .error _ => False) s10 := by
        refine loop_dc_in (fun n s' => ∃ j H', n = L1 - j ∧ j ≤ L1 ∧ Inv (X.blk s3 H3 scope ce fp) ([] ++ pinsAt fp s7.heap) (wipe σ8 vs1) H' s' ∧ tn1 j s'.heap ∧ (∀ b ∈ fp1, H' b = none) ∧ Pv1 j H') ?_ L1 ⟨0, H10, rfl, Nat.zero_le _, I10.weak (wipe_length _ _) (fun j v e => (wipe_some e).1), st10, fun b hb => (f10 b hb).1, p10⟩
        rintro n s11 ⟨j, H11, rfl, hj, I11, st11, n11, p11⟩
        by_cases hlt1 : j < L1
        · obtain ⟨go1, step1⟩ := hstep1 j H11 hlt1 p11
          refine thnF (T1.item (X.blk s3 H3 scope ce fp) rfl rfl rfl hc j _ s11 (wipe σ8 vs1) H11 (fun _ _ => False) I11 (foot1 n11) st11 go1) fun r s12 ⟨u1, hr, h12⟩ => ?_
          subst hr
          refine thnF h12 fun _ s13 ⟨x1, H13, I13, r13, y13, st13, n13⟩ => ?_
          refine thnF (pg1.run _ s13 (wipe σ8 vs1) H13 x1 u1 _ (I13.pinned (foot1 n13) (T1.obj _ _ st13)) r13 (step1 x1 H13 y13)) fun _ s14 ⟨σ14, H14, I14, kp1, q14⟩ => ?_
          refine thnF (pk.run _ s14 σ14 H14 _ I14 q14) fun zk s15 ⟨yk, H15, I15, rk, q15⟩ => ?_
          refine thnF (pe.run _ s15 σ14 H15 _ I15 q15) fun z s16 ⟨yv, H16, I16, rv, kvs, k, ek, hD16, hz, p16⟩ => ?_
          subst ek
          refine d_dictSet (X := (X.blk s3 H3 scope ce fp)) I16 hD16 hz rk rv fun s17 I17 => ?_
          have pinned1 : ∀ b ∈ fp1, ∀ o, s13.heap.get? b = some o → s17.heap.get? b = some o ∧ L2.upd H16 D (.dK (putK kvs k yv)) b = none := fun b hb o e =>
            have z := I17.pin (b, o) (List.mem_append_right _ (List.mem_append_right _ (mem_pinsAt hb e)))
            ⟨z.1, z.2.1⟩
          have hl1 : (wipe σ8 vs1).length = σ14.length := by rw [← kp1, wipe_length]
          refine ⟨L1 - (j + 1), by omega, j + 1, _, rfl, hlt1, I17.unpinned.weak hl1 (fun j v e => ?_), T1.keep _ _ _ st13 fun b hb o e => (pinned1 b hb o e).1, fun b hb => ?_, p16⟩
          · rw [← kp1] at e
            exact (wipe_some e).1
          · obtain ⟨o, e, _⟩ := T1.obj _ _ st13 b hb
            exact (pinned1 b hb o e).2
        · have e : j = L1 := by omega
          subst e
          obtain ⟨stop1, pn⟩ := hstop1 H11 p11
          refine thnF (T1.done (X.blk s3 H3 scope ce fp) rfl rfl rfl hc j _ s11 (wipe σ8 vs1) H11 (fun _ _ => False) I11 (foot1 n11) st11 stop1) fun r s12 ⟨hr, I12⟩ => ?_
          subst hr
          exact outer I12 (hl8.trans (wipe_length σ8 vs1).symm) hk8 pn
      exact start_dc_in turns1 (T1.self X.A 0 _ _ _ st10 turns1)
    · have e : i = L := by omega
      subst e
      obtain ⟨stop, hQ⟩ := hstop H5 p5
      refine thnF (T.done (X.blk s3 H3 scope ce fp) rfl rfl rfl hc i [] s5 _ H5 (fun _ _ => False) I5 (foot I5 n5) st5 stop) fun r s6 ⟨hr, I6⟩ => ?_
      subst hr
      have I7 : Inv X pins σ H5 s6 := I3.call' (ch := fp) I6.os I6.base I6.hok I6.bare fun b hb => by
        have z := (ok3 b hb).1.2
        exact ⟨z.2.2.1, z.1, z.2.2.2.1, z.2.2.2.2⟩
      have nC : H5 s3.heap.objs.size = none := by rw [← cL]; exact I6.free
      obtain ⟨m, hn, _⟩ := I6.loc
      have hn' : s6.heap.Ns ce.locals m := hn
      rw [cL] at hn'
      exact hRR D s3.heap.objs.size s6 m H5 I7 hQ hn' (I3.fpOk (Nat.le_refl _) nC)
  exact codeAny_compStart_dict turns (T.self X.A 0 _ _ _ st4 turns)
/-- as what a name is to hold -/
theorem ps_setDc2 {i : Nat} {y : Str} {py spos : Pos} {kx vx tg iter tg1 iter1 : Expr} {scope : Scope} {own : List (PySem.Str × Nat)} {vs1 : List Nat} {pos : Pos} {wi wi1 : TI} {g g1 : TG} {tk tv : TE} (hy : X.N[i]? = some y) (hyl : X.env.scope.names.lookup y = some .local) (hsw : swapsWith (.DictComp kx vx [⟨tg, iter, [], 0⟩, ⟨tg1, iter1, [], 0⟩] scope pos) (some (.Name y py)) spos.line X.env = pure true) (hc : X.calm = true) (hN : X.N.Nodup) (hi : PI X tg iter wi) (ok : BlkOk X.N X.env.scope scope own) (hv : ∀ i ∈ vs1, i ∈ own.map (·.2))
    (hg : ∀ (s : Shared) (H : Hp) (C : Addr) (cl : List (PySem.Str × Addr)) (fp : List Addr), PG (X.blk s H scope (compEnvC scope cl C X.env) fp) tg g)
    (hi1 : ∀ (s : Shared) (H : Hp) (C : Addr) (cl : List (PySem.Str × Addr)) (fp : List Addr), PI (X.blk s H scope (compEnvC scope cl C X.env) fp) tg1 iter1 wi1)
    (hg1 : ∀ (s : Shared) (H : Hp) (C : Addr) (cl : List (PySem.Str × Addr)) (fp : List Addr), PG (X.blk s H scope (compEnvC scope cl C X.env) fp) tg1 g1)
    (hk : ∀ (s : Shared) (H : Hp) (C : Addr) (cl : List (PySem.Str × Addr)) (fp : List Addr), PE (X.blk s H scope (compEnvC scope cl C X.env) fp) kx tk)
    (he : ∀ (s : Shared) (H : Hp) (C : Addr) (cl : List (PySem.Str × Addr)) (fp : List Addr), PE (X.blk s H scope (compEnvC scope cl C X.env) fp) vx tv) (hs : ∀ x, foldedSetIterable iter X.env x = pure x := by intro _; rfl) (hs1 : ∀ env x, foldedSetIterable iter1 env x = pure x := by intro _ _; rfl) :
    PS X (.Assign [.Name y py] (.DictComp kx vx [⟨tg, iter, [], 0⟩, ⟨tg1, iter1, [], 0⟩] scope pos) spos) (tAsg (tDc2 wi g wi1 g1 tk tv (own.map (·.2)) vs1) (gName i)) := by
  refine ⟨fun pins s σ H D I h => ?_⟩
  rw [exec_Assign_Name_used _ _ _ _ hsw]
  refine wpAny_bind (wpAny_standAt (wpAny_bind ?_))
  show wpAny _ X.A (do let _ ← comprehension (.DictComp kx vx [⟨tg, iter, [], 0⟩, ⟨tg1, iter1, [], 0⟩] scope pos) scope X.env (firstIterPos [⟨tg, iter, [], 0⟩, ⟨tg1, iter1, [], 0⟩] pos) newDict false (eval iter X.env) (some (assign (.Name y py) X.env))) _ _ s
  have h : (tDc2 wi g wi1 g1 tk tv (own.map (·.2)) vs1) σ H (fun x H1 => gName i x σ H1 D.nx) := h
  refine wpAny_bind (thn (dc2_core (Qf := fun _ s' => SP X pins D .next s') hc hN hi ok hv hg hi1 hg1 hk he hs hs1 I h fun L C s' m H' I' q hn f => ?_) fun _ s' hq => wpAny_pure (wpAny_pure hq))
  show wpAny _ _ (assign (.Name y py) X.env (.ref L)) _ _ _
  refine wpAny_assign_Name (store_ok2 (v := V.ref L) I' hN hy (.inl hyl) rfl (fun s2 I2 ⟨a, sb, ha⟩ => ?_) (.inr hyl))
  obtain ⟨f0, f1, f2, f3, f4, f5⟩ := f
  have haC : C ≠ a := by
    rcases ha with z | z
    · rw [z]; exact f1
    · exact fun e => f4 y a z e.symm
  exact ⟨m, hn.sameBut sb haC, fun h3 sb3 => ⟨_, H', I2.turned (t' := s2.toks) (fun b o hb e => (sb3.2 b hb).trans e) f0 f1 f3 f4 f5, q⟩⟩
end
end Gx
end

section
set_option Elab.async false
set_option linter.all false
set_option maxRecDepth 100000
set_option maxHeartbeats 4000000
/-! dict comprehensions read by walks -/
namespace Gx
open PySem PySem.Spec PyProof.Rows L2 GxR
theorem sw_trueD {kx vx : Expr} {gs : List Comprehension} {scope : Scope} {pos py : Pos} {y : Str} {l : Nat} {env : Env} (hk : env.scope.kind = .function) (hy : env.scope.names.lookup y = some .local) (hl : (py.line == pos.line) = true)
    (ha : (scope.names.any fun (n, k) => n == y && (k == .local || k == .cell)) = false) : swapsWith (.DictComp kx vx gs scope pos) (some (.Name y py)) l env = pure true := by
  have ky : env.kindOf y = some .local := hy
  have hb : env.blockKind = .function := by unfold Env.blockKind; rw [hk]; rfl
  unfold swapsWith
  simp only [hb, ky, ha, Expr.pos, hl]
  rfl
theorem dc2_walk {J : It} {n : Nat} {Ok : Hp → Prop} {Yl : Nat → Hp → V → Hp → Prop} (w : Walk J n Ok Yl) {g g1 : TG} {wi1 : TI} {tk tv : TE} {vs vs1 : List Nat} {σ : L2.St} {Q : VK} {H1 : Hp}
    (h : ∀ D, H1 D = none → ∃ Pv : Nat → Hp → Prop, Pv 0 (L2.upd H1 D (.dK [])) ∧ (∀ i H, i ≤ n → Pv i H → Ok H) ∧ (∀ H, Pv n H → Q (.ref D) H) ∧
      ∀ i y H H', i < n → Pv i H → Yl i H y H' → g y (wipe σ vs) H' fun σ1 H2 => wipe σ1 vs = wipe σ vs ∧ wi1 σ1 H2 fun J1 H3 => ∃ (L1 : Nat) (Pv1 : Nat → Hp → Prop), Pv1 0 H3 ∧
        (∀ H, Pv1 L1 H → J1.stop L1 H ∧ Pv (i + 1) H) ∧
        ∀ j H, j < L1 → Pv1 j H → J1.go j H ∧ ∀ y1 H', J1.yld j H y1 H' → g1 y1 (wipe σ1 vs1) H' fun σ2 H4 => wipe σ2 vs1 = wipe σ1 vs1 ∧ tk σ2 H4 fun yk H5 => tv σ2 H5 fun z H6 =>
          ∃ kvs k, yk = kV k ∧ H6 D = some (.dK kvs) ∧ kvs.length < sizeLine ∧ Pv1 (j + 1) (L2.upd H6 D (.dK (putK kvs k z)))) : rDc2 g wi1 g1 tk tv vs vs1 σ Q J H1 := by
  refine ⟨n, fun D hD => ?_⟩
  obtain ⟨Pv, p0, hOk, hQ, hs⟩ := h D hD
  exact ⟨Pv, p0, fun H p => ⟨w.stops H (hOk n H (Nat.le_refl _) p), hQ H p⟩, fun i H hi p => ⟨w.goes i H hi (hOk i H (Nat.le_of_lt hi) p), fun y H' hy => hs i y H H' hi p (w.yields i H y H' hi (hOk i H (Nat.le_of_lt hi) p) hy)⟩⟩
end Gx
end

section
set_option Elab.async false
set_option linter.all false
set_option maxRecDepth 100000
set_option maxHeartbeats 4000000
/-! sum(d.values()), the keys tuples, the values ints -/
namespace Gx
open PySem PySem.Spec PyProof.Rows L2 GxR
/-- the view d.values() at p -/
def valsO (p d : Addr) : HO := .ext fun h => h.IsValuesView p d
theorem valsO_ok {P : Program} {w : World} {H : Hp} {h : Heap} {p d : Addr} (e : h.get? p = some { cls := .type "dict_values", data := .fields #[.ref d] }) : ObjOk P w H h p (valsO p d) :=
  ⟨⟨_, e, rfl, rfl⟩, ⟨_, e⟩, fun h1 h2 x k => let ⟨o, ho, r⟩ := x; ⟨o, k o ho, r⟩⟩
section
variable {X : Cx}
end
end Gx
end

section
set_option Elab.async false
set_option linter.all false
set_option maxRecDepth 100000
set_option maxHeartbeats 4000000
set_option pp.maxSteps 200
/-! sorted(xs) where xs is a list of tuples (an int, something), no int twice: by the ints. -/
namespace SrtO
open PySem PySem.Spec PyProof.Rows
section
variable {prog : Program} {w : World} {A : Around} {s : Shared} {E : Value → Shared → Prop}
/-- v is a tuple of an int and something in the heap -/
def IsHd (h : Heap) (v : Value) (x : Int) : Prop := ∃ a o t u n, v = .ref a ∧ h.get? a = some o ∧ o.cls = .type "tuple" ∧ o.data = .seq #[.int x t, u] n
theorem IsHd.keeps {h h' : Heap} {v : Value} {x : Int} (p : IsHd h v x) (k : ∀ b o, h.get? b = some o → o.cls = .type "tuple" → h'.get? b = some o) : IsHd h' v x := by
  obtain ⟨a, o, t, u, n, e, ho, hc, hd⟩ := p
  exact ⟨a, o, t, u, n, e, k _ _ ho hc, hc, hd⟩
theorem hd_firsts {h : Heap} : ∀ {vs : List Value}, (∀ v ∈ vs, ∃ x, IsHd h v x) → ∃ fs : List Value, PySem.W.KatTups h vs fs ∧ fs.length = vs.length ∧ ∀ f ∈ fs, ∃ x t, f = Value.int x t
  | [], _ => ⟨[], PySem.W.KatTups.nil, rfl, fun _ hm => by simp at hm⟩
  | v :: vs, hp => by
    obtain ⟨fs, h1, h2, h3⟩ := hd_firsts (vs := vs) fun v' hm => hp v' (List.mem_cons_of_mem _ hm)
    obtain ⟨x, a, o, t, u, n, e, ho, hc, hd⟩ := hp v (List.mem_cons_self ..)
    subst e
    refine ⟨.int x t :: fs, PySem.W.KatTups.cons ho hc hd rfl h1, by rw [List.length_cons, List.length_cons, h2], fun f hm => ?_⟩
    rcases List.mem_cons.mp hm with rfl | hm
    · exact ⟨x, t, rfl⟩
    · exact h3 f hm
end
end SrtO
namespace L2
open PySem PySem.Spec PyProof.Rows
section
variable {X : Cx}
end
end L2
end

section
set_option Elab.async false
set_option linter.all false
set_option maxRecDepth 100000
set_option maxHeartbeats 4000000
/-! sorted(xs) where xs is a list of tuples (an int, a list of ints): by the ints, then by the lists. -/
namespace SrtO
open PySem PySem.Spec PyProof.Rows PySem.W
theorem lex_swo {α : Type} (k : α → PyData) : Swo fun v u => dataLt (k v) (k u) := by
  refine ⟨fun x y h => ?_, fun x y z h1 h2 => ?_⟩
  · refine Bool.eq_false_iff.mpr fun h2 => ?_
    have := lex_trans (O := itemOrd) _ _ _ h h2
    rw [lex_irrefl] at this
    cases this
  · refine Bool.eq_false_iff.mpr fun h3 => ?_
    rcases lex_negTrans (O := itemOrd) _ (keyToks (k y)) _ h3 with e | e
    · have e' : dataLt (k z) (k y) = true := e
      have h2' : dataLt (k z) (k y) = false := h2
      rw [h2'] at e'
      cases e'
    · have e' : dataLt (k y) (k x) = true := e
      have h1' : dataLt (k y) (k x) = false := h1
      rw [h1'] at e'
      cases e'
def IsTR (h : Heap) (v : Value) (x : Int) (ns : List Int) : Prop := ∃ a o t l n o2 its n2, v = .ref a ∧ h.get? a = some o ∧ o.cls = .type "tuple" ∧ o.data = .seq #[.int x t, .ref l] n ∧ h.get? l = some o2 ∧ o2.cls = .type "list" ∧ o2.data = .seq its n2 ∧ IntsAre its.toList ns
theorem IsTR.hd {h : Heap} {v : Value} {x : Int} {ns : List Int} (p : IsTR h v x ns) : IsHd h v x := by
  obtain ⟨a, o, t, l, n, o2, its, n2, e, ho, hc, hd, _⟩ := p
  exact ⟨a, o, t, _, n, e, ho, hc, hd⟩
theorem IsTR.keeps {h h' : Heap} {v : Value} {x : Int} {ns : List Int} (p : IsTR h v x ns) (k : ∀ b o, h.get? b = some o → h'.get? b = some o) : IsTR h' v x ns := by
  obtain ⟨a, o, t, l, n, o2, its, n2, e, ho, hc, hd, h2, r⟩ := p
  exact ⟨a, o, t, l, n, o2, its, n2, e, k _ _ ho, hc, hd, k _ _ h2, r⟩
theorem depth_ints : ∀ xs : List Int, PyData.depthAll (xs.map PyData.int) ≤ 1
  | [] => by simp [PyData.depthAll]
  | x :: xs => by
    have := depth_ints xs
    rw [List.map_cons, PyData.depthAll]
    simp [PyData.depth]
    omega
section
variable {prog : Program} {w : World} {A : Around} {s : Shared} {E : Value → Shared → Prop}
end
end SrtO
namespace L2
open PySem PySem.Spec PyProof.Rows PySem.W
section
variable {X : Cx}
end
theorem u3 {k : Nat} {A : Around} (r : Room k A) : A.in1.in1.units + 3 < cLine := by
  have := r.un
  first
    | (show A.units + 3 < cLine; omega)
    | (show A.units + 1 + 1 + 3 < cLine; omega)
end L2
end

section
set_option Elab.async false
set_option linter.all false
set_option maxRecDepth 100000
set_option maxHeartbeats 4000000
/-! sum of a tuple of ints -/
namespace Gx
open PySem PySem.Spec PyProof.Rows L2 GxR
theorem walks_tuple {prog : Program} {w : World} {A : Around} (hh : A.handled = none) (I t : Addr) (hne : t ≠ I) (items : Array Value) :
    Walks prog w A I [I, t] [I] items.size (fun i v => items[i]? = some v) (fun i h => h.IsTupleIter I t i ∧ h.IsTuple t items) where
  sub := fun b hb => by simp at hb; simp [hb]
  frame := fun _ h h' st hk => ⟨let ⟨o, e, r⟩ := st.1; ⟨o, hk I (by simp) _ e, r⟩, let ⟨o, e, r⟩ := st.2; ⟨o, hk t (by simp) _ e, r⟩⟩
  item := fun i s Q E hi st hQ => by
    refine wpAny_pyNext_tuple_item st.1 st.2 (x := items[i]) (by simp [hi]) fun h' hit' hs' => ?_
    exact hQ _ h' s.toks (by simp [hi]) ⟨hit', st.2.extBut hs'.extBut hne⟩ fun b o hb e => hs'.extBut b o (fun h => hb (by simp [h])) e
  done := fun s Q E st hQ => wpAny_pyNext_tuple_end hh st.1 st.2 (by simp) fun h' he' => hQ h' s.toks fun b o hb e => he' b o (fun h => hb (by simp [h])) e
  self := fun _ s _ _ st hQ => by
    refine wpAny_pyIter_slot st.1.typeIs F.slot_tuple_iterator_iter (wpAny_call_entry F.slot_tuple_iterator_iter st.1.typeIs F.entry_tuple_iterator_iter ?_ (F.args_tuple_iterator_iter_1 _))
    show wpAny _ _ (ret (.ref I)) _ _ s
    exact wpAny_pure ⟨_, rfl, "tuple_iterator", _, st.1.typeIs, F.slot_tuple_iterator_next.lookup, hQ⟩
theorem preSum_list (ns : List Int) : PySem.preSum (fun j => ns.getD j 0) ns.length = ns.sum := by
  have h2 : ∀ k, k ≤ ns.length → PySem.preSum (fun j => ns.getD j 0) k = (ns.take k).sum := fun k => by
    induction k with
    | zero => intro _; simp [PySem.preSum]
    | succ k ih =>
      intro hk
      have e1 : PySem.preSum (fun j => ns.getD j 0) (k + 1) = PySem.preSum (fun j => ns.getD j 0) k + ns.getD k 0 := rfl
      rw [e1, ih (by omega), List.take_add_one, List.sum_append, List.getElem?_eq_getElem hk, List.getD_eq_getElem?_getD, List.getElem?_eq_getElem hk]
      simp
  rw [h2 ns.length (Nat.le_refl _), List.take_length]
section
variable {X : Cx}
def rSumT (K : PySem.W.Frag) : List V → Hp → VK → Prop := fun vs H Q => ∃ (a : Addr) (ns : List Int), vs = [V.ref a] ∧ SqT K H a (ns.map V.int) ∧ Q (.int ns.sum) H
theorem cr_sumT (hc : X.calm = true) : CallR X (.builtin "sum") (rSumT X.K) := by
  intro pins s σ H vs us Q I r h
  obtain ⟨a, ns, rfl, hs, q⟩ := h
  rw [Vals.ref1 r]
  obtain ⟨its, rv, pl, hz⟩ := I.tuple hs
  have hi := ints_of_vals rv
  have hh : X.A.handled = none := I.ok.hd hc
  have hl : its.length = ns.length := by rw [← rv.length, List.length_map]
  have tp : s.heap.IsTuple a its.toArray := pl
  have hlt : a < s.heap.objs.size := let ⟨_, e, _⟩ := pl; Heap.lt_size e
  refine call_sum_walkG (wpAny_pyIter_tuple tp ?_)
  refine ⟨_, _, _, _, _, _, fun j => ns.getD j 0, rfl, walks_tuple (A := X.A.in1) hh _ a (Nat.ne_of_lt hlt) its.toArray, ⟨⟨_, Heap.get?_push_size _ rfl, rfl, rfl⟩, tp.push _⟩, fun b hb => ?_, fun i v e => ?_, fun h' tk t' hk => ?_⟩
  · rw [Heap.size_push]
    rcases List.mem_cons.mp hb with rfl | hb
    · exact Nat.lt_succ_self _
    · rw [List.mem_singleton.mp hb]
      exact Nat.lt_succ_of_lt hlt
  · have hil : i < ns.length := by
      have := (Array.getElem?_eq_some_iff.mp e).1
      rw [List.size_toArray, hl] at this
      exact this
    obtain ⟨tj, hjt⟩ := hi.get i ns[i] (List.getElem?_eq_getElem hil)
    have e2 : its[i]? = some v := by simpa using e
    rw [hjt] at e2
    cases e2
    exact ⟨tj, by show _ = Value.int (ns.getD i 0) tj; rw [List.getD_eq_getElem?_getD, List.getElem?_eq_getElem hil]; rfl⟩
  · have es : PySem.preSum (fun j => ns.getD j 0) its.toArray.size = ns.sum := by rw [List.size_toArray, hl, preSum_list]
    rw [es]
    refine ⟨.int ns.sum, H, I.kept (t' := tk) (fun b o e => hk b o (fun m => ?_) (Heap.get?_push_of_some _ e)), ⟨t', rfl⟩, q⟩
    rw [List.mem_singleton.mp m] at e
    exact absurd (Heap.lt_size e) (Nat.lt_irrefl _)
end
end Gx
end

section
set_option Elab.async false
set_option linter.all false
set_option maxRecDepth 100000
set_option maxHeartbeats 4000000
/-! Tuples made by tuple(list) of which it is known that they have no dict of their own: their methods. -/
namespace Gx
open PySem PySem.Spec PyProof.Rows L2 GxR
/-- a tuple at q without a dict -/
def TupN (H : Hp) (q : Addr) (xs : List V) : Prop := ∃ o : Obj, o.cls = .type "tuple" ∧ o.dict = none ∧ H q = some (.frz o (.tup xs))
theorem TupN.sq {K : PySem.W.Frag} {H : Hp} {q : Addr} {xs : List V} (h : TupN H q xs) : SqT K H q xs := let ⟨o, _, _, e⟩ := h; .inl (.inr ⟨o, e⟩)
theorem TupN.keep {H H' : Hp} {q : Addr} {xs : List V} (h : TupN H q xs) (e : ∀ o, H q = some o → H' q = some o) : TupN H' q xs := let ⟨o, a, b, c⟩ := h; ⟨o, a, b, e _ c⟩
/-- tuple(x) of a list: a new tuple without a dict -/
def kTupN (K : PySem.W.Frag) (x : V) (H : Hp) (Q : VK) : Prop := ∃ p xs, x = .ref p ∧ SqL K H p xs ∧ ∀ q H', H q = none → (∀ b, b ≠ q → H' b = H b) → TupN H' q xs → Q (.ref q) H'
section
variable {X : Cx} {a : Expr} {ta : TE}
theorem rl_tupleN (pins : List (Addr × Obj)) (s : Shared) (σ : L2.St) (H : Hp) (x : V) (v : Value) (Q : VK) (I : Inv X pins σ H s) (r : RelV x v) (h : kTupN X.K x H Q) :
    wpAny (model X.prog X.w) X.A (call (.type "tuple") [v]) (EP X pins σ Q) X.xe s := by
  obtain ⟨p, xs, rfl, hs, q⟩ := h
  obtain rfl : v = .ref p := r
  obtain ⟨its, rv, pl, hz⟩ := I.list hs
  refine call_tuple_list pl.isList (fun h' hk => ?_) (by rw [List.size_toArray, ← rv.length]; exact hz)
  have I1 : Inv X pins σ H { s with heap := h' } := I.kept (t' := s.toks) hk
  have I2 : Inv X pins σ (L2.upd H h'.objs.size (.frz { cls := .type "tuple", data := .seq its.toArray } (.tup xs))) { s with heap := h'.push { cls := .type "tuple", data := .seq its.toArray } } :=
    I1.laid (t' := s.toks) (fun b o e => Heap.get?_push_of_some _ e) (Nat.le_refl _) (show ObjOk X.prog X.w _ _ _ (.frz _ (.tup xs)) from ⟨Heap.get?_push_size _ rfl, hz, its, rv, IsTup.new _ _⟩)
  exact ⟨.ref h'.objs.size, _, I2, rfl, q _ _ (I1.hok.fresh (Nat.le_refl _)) (fun b hb => L2.upd_ne hb) ⟨_, rfl, rfl, L2.upd_same⟩⟩
theorem pe_tupleN {p pos : Pos} (hg : Gl X "tuple") (hm : X.mg "tuple" = none) (ha : PE X a ta) (na : starEach [a] X.env = (false, eval a X.env) :: starEach [] X.env := by rfl) :
    PE X (.Call (.Name "tuple" p) [a] [] pos) (tThen ta (kTupN X.K)) := by
  refine ⟨fun pins s σ H Q I h => ?_⟩
  exact Call_ (ld_blt I hg hm boot_tuple (PyProof.Rows.callWith_type1 (one_arg ha I h (fun v s2 x H2 I2 r q => rl_tupleN pins s2 σ H2 x v Q I2 r q) na) na))
end
section
variable {X : Cx} {o e : Expr} {es : List Expr} {to : TE} {t : TA} {name : Str} {apos cpos : Pos} {id : String} {r : V → List V → Hp → VK → Prop}
def tBT (r : V → List V → Hp → VK → Prop) (to : TE) (t : TA) : TE := fun σ H Q => to σ H fun x H1 => (∃ p xs, x = .ref p ∧ TupN H1 p xs) ∧ t σ H1 fun ys H2 => r x ys H2 Q
/-- t.m(e, ..), t such a tuple -/
theorem pe_bt (slot : Slot "tuple" name id) (hty : typeOf (.builtin id) = pure (.type "method_descriptor")) (hm : MtR X id r) (ho : PE X o to) (ha : PA X (e :: es) t)
    (hbase : attributeBase o name X.env (eval o X.env) = eval o X.env := by rfl)
    (hfew : ((backTo cpos (starEach (e :: es) X.env)).all (fun x => !x.1) && (backToKw cpos (keywordEach [] X.env)).all (fun x => x.1.isSome)
      && decide ((e :: es).length + ([] : List Keyword).length + (if ([] : List Keyword).isEmpty then 0 else 1) < 30)) = true := by rfl)
    (hline : (apos.endLine == cpos.line) = true := by rfl) (hs : starEach (e :: es) X.env = (false, eval e X.env) :: starEach es X.env := by rfl) (hplain : (backTo cpos (starEach es X.env)).any (·.1) = false := by rfl) :
    PE X (.Call (.Attribute o name apos) (e :: es) [] cpos) (tBT r to t) := by
  refine ⟨fun pins s σ H Q I h => ?_⟩
  refine wpAny_Call_method_late hbase hfew hline rfl (thn (ho.run pins s σ H _ I h) fun v s1 ⟨x, H1, I1, r1, ⟨p, xs, ex, ob, hc, hd, hp⟩, q1⟩ => ?_)
  subst ex
  obtain rfl : v = .ref p := r1
  have hg : s1.heap.get? p = some ob := (show ObjOk X.prog X.w H1 s1.heap p (.frz ob (.tup xs)) from I1.hok _ _ hp).1
  refine ⟨"tuple", id, PySem.F.plainAttrs_tuple, slot, hty, ⟨ob, hg, hc⟩, fun b e2 => ?_, ?_⟩
  · cases e2
    exact ⟨ob, hg, hd⟩
  have hA := ha.run cpos pins s1 σ H1 _ I1 q1
  rw [hs] at hA ⊢
  refine Calls.callWith_builtin (by show (false || (backTo cpos (starEach es X.env)).any (·.1)) = false; rw [hplain] <;> rfl) (Calls.evalArgs_plain ?_)
  exact thn hA fun us s2 ⟨vs, H2, I2, r2, q2⟩ => hm pins s2 σ H2 (.ref p) vs (.ref p) us Q I2 rfl r2 q2
end
end Gx
end

section
set_option Elab.async false
set_option linter.all false
set_option maxHeartbeats 1000000
namespace Ma
/-! a top-up and what is undone -/
theorem list_ext {xs ys : List Int} (hl : xs.length = ys.length) (h : ∀ i, i < xs.length → xs.getD i 0 = ys.getD i 0) : xs = ys := by
  refine List.ext_getElem hl fun i h1 h2 => ?_
  have := h i h1
  rw [List.getD_eq_getElem?_getD, List.getD_eq_getElem?_getD, List.getElem?_eq_getElem h1, List.getElem?_eq_getElem h2] at this
  exact this
theorem map_getD {ns : List Int} {f : Int → Int} {i : Nat} (h : i < ns.length) : (ns.map f).getD i 0 = f (ns.getD i 0) := by
  rw [List.getD_eq_getElem?_getD, List.getD_eq_getElem?_getD, List.getElem?_map, List.getElem?_eq_getElem h]
  rfl
theorem step_get {x : List Int} {a b : Int} {c i : Nat} (hi : i < x.length) : (step x a b c).getD i 0 * ((gcdN (pre x a b c) : Nat) : Int) = x.getD i 0 * a + if i = c then (b - a) * x.sum else 0 := by
  unfold step plain
  rw [map_getD (by rw [pre_len]; exact hi)]
  have := plain_mul (getD_in (ns := pre x a b c) (i := i) (by rw [pre_len]; exact hi))
  rw [this, getD_of (pre_get hi)]
theorem step_sum_g {x : List Int} {a b : Int} {c : Nat} (h : Con x) (k : Kep a b) (hc : c < x.length) : (step x a b c).sum * ((gcdN (pre x a b c) : Nat) : Int) = b * x.sum := by
  have := plain_sum (pre_amt h k hc)
  rw [pre_sum hc] at this
  exact this
theorem fit_step {x : List Int} {a b : Int} {c : Nat} (h : Con x) (k : Kep a b) (hc : c < x.length) : fit (step x a b c) a b c = true := by
  have hg := gcdN_pos (pre_amt h k hc)
  have k1 := k.a1
  have k2 := k.ab
  have e1 := step_get (a := a) (b := b) (c := c) hc
  have e2 := step_sum_g h k hc
  rw [if_pos rfl] at e1
  have hx := Int.mul_nonneg (h.nn _ (getD_in hc)) (show 0 ≤ a by omega)
  refine decide_eq_true (Int.le_of_mul_le_mul_right (a := ((gcdN (pre x a b c) : Nat) : Int)) ?_ (by omega))
  rw [Int.mul_assoc, e2, Int.mul_right_comm, e1]
  have e3 : (b - a) * (b * x.sum) = (b - a) * x.sum * b := by rw [Int.mul_comm b x.sum, Int.mul_assoc]
  rw [e3]
  exact Int.mul_le_mul_of_nonneg_right (by omega) (by omega)
theorem befo_step {x : List Int} {a b : Int} {c : Nat} (h : Con x) (k : Kep a b) (hc : c < x.length) : befo (step x a b c) a b c = x := by
  have hA := pre_amt h k hc
  have hg := gcdN_pos hA
  have k1 := k.a1
  have k2 := k.ab
  have e0 : ∀ i, i < x.length → (step x a b c).getD i 0 * ((gcdN (pre x a b c) : Nat) : Int) = x.getD i 0 * a + if i = c then (b - a) * x.sum else 0 := fun i hi => by
    unfold step plain
    rw [map_getD (by rw [pre_len]; exact hi)]
    have := plain_mul (getD_in (ns := pre x a b c) (i := i) (by rw [pre_len]; exact hi))
    rw [this, getD_of (pre_get hi)]
  have es : (step x a b c).sum * ((gcdN (pre x a b c) : Nat) : Int) = b * x.sum := by
    have := plain_sum hA
    rw [pre_sum hc] at this
    exact this
  have e1 : (bef (step x a b c) a b c).map (fun n => ((gcdN (pre x a b c) : Nat) : Int) * n) = x.map fun n => (a * b) * n := by
    refine list_ext (by simp [bef_len, step_len]) fun i hi => ?_
    rw [List.length_map, bef_len, step_len] at hi
    rw [map_getD (by rw [bef_len, step_len]; exact hi), map_getD hi, getD_of (bef_get (by rw [step_len]; exact hi)), Int.mul_sub, ← Int.mul_assoc, Int.mul_comm _ ((step x a b c).getD i 0), e0 i hi]
    by_cases hic : i = c
    · subst hic
      rw [if_pos rfl, if_pos rfl]
      have : ((gcdN (pre x a b i) : Nat) : Int) * ((b - a) * (step x a b i).sum) = (b - a) * ((step x a b i).sum * ((gcdN (pre x a b i) : Nat) : Int)) := by
        rw [Int.mul_comm, Int.mul_assoc]
      rw [this, es]
      have e5 : (b - a) * (b * x.sum) = (b - a) * x.sum * b := by rw [Int.mul_comm b x.sum, Int.mul_assoc]
      rw [e5, Int.add_mul, Int.add_sub_cancel, Int.mul_comm (x.getD i 0) a, Int.mul_assoc, Int.mul_comm (x.getD i 0) b, Int.mul_assoc]
    · rw [if_neg hic, if_neg hic, Int.mul_zero, Int.sub_zero, Int.add_zero, Int.mul_comm (x.getD i 0) a, Int.mul_assoc, Int.mul_comm (x.getD i 0) b, Int.mul_assoc]
  have hgx : 0 < gcdN x := by rw [h.g]; decide
  have hab : 0 < a * b := Int.mul_pos (by omega) (by omega)
  have hb2 := gcdN_pos (bef_amt (step_con h k hc) k (by rw [step_len]; exact hc) (fit_step h k hc))
  have e3 := plain_scale (ns := bef (step x a b c) a b c) (t := ((gcdN (pre x a b c) : Nat) : Int)) (by omega) hb2
  have e4 := plain_scale (ns := x) hab hgx
  unfold befo
  rw [← e3, e1, e4, plain_of_one h.g]
end Ma
namespace Ma
theorem cop_of {a S d : Nat} (h : Nat.gcd a S = 1) (hd : d ∣ S) : Nat.gcd d a = 1 := by
  have : Nat.gcd d a ∣ Nat.gcd a S := Nat.dvd_gcd (Nat.gcd_dvd_right _ _) (Nat.dvd_trans (Nat.gcd_dvd_left _ _) hd)
  rw [h] at this
  exact Nat.dvd_one.mp this
theorem dvd_sum_but {d : Int} {c : Nat} : ∀ {ns : List Int}, c < ns.length → (∀ i, i < ns.length → i ≠ c → d ∣ ns.getD i 0) → d ∣ ns.sum → d ∣ ns.getD c 0
  | [], hc, _, _ => by simp at hc
  | n :: r, hc, h, hs => by
    rw [List.sum_cons] at hs
    cases c with
    | zero =>
      have hr : d ∣ r.sum := by
        have : ∀ m ∈ r, d ∣ m := fun m hm => by
          obtain ⟨i, hi, e⟩ := mem_at hm
          have := h (i + 1) (by simp; exact hi) (by omega)
          rw [← e]
          exact this
        clear h hs hc
        induction r with
        | nil => exact Int.dvd_zero _
        | cons m r ih => rw [List.sum_cons]; exact Int.dvd_add (this m List.mem_cons_self) (ih fun y hy => this y (List.mem_cons_of_mem _ hy))
      have := Int.dvd_sub hs hr
      rw [Int.add_sub_cancel] at this
      exact this
    | succ c =>
      have h0 : d ∣ n := h 0 (by simp) (by omega)
      have := Int.dvd_sub hs h0
      rw [Int.add_comm, Int.add_sub_cancel] at this
      exact dvd_sum_but (ns := r) (c := c) (Nat.lt_of_succ_lt_succ hc) (fun i hi hic => h (i + 1) (Nat.succ_lt_succ hi) (by omega)) this
/-- a top-up by a kept share of a content whose bottom is a multiple of the whole: nothing to divide by -/
theorem pre_one {x : List Int} {a b : Int} {c : Nat} (h : Con x) (k : Kep a b) (hc : c < x.length) (hd : b ∣ x.sum) (hcop : Nat.gcd a.natAbs x.sum.natAbs = 1) : gcdN (pre x a b c) = 1 := by
  have hs := h.amt.pos
  have hb := k.g
  have hA := pre_amt h k hc
  generalize hg : gcdN (pre x a b c) = d
  have dd : ∀ i, i < x.length → (d : Int) ∣ x.getD i 0 * a + if i = c then (b - a) * x.sum else 0 := fun i hi => by
    rw [← getD_of (pre_get hi), ← hg]
    exact gcdN_dvd (getD_in (by rw [pre_len]; exact hi))
  have ds : (d : Int) ∣ b * x.sum := by
    rw [← pre_sum hc, ← hg, ← plain_sum hA]
    exact Int.dvd_mul_left _ _
  have dsN : d ∣ b.natAbs * x.sum.natAbs := by
    have := Int.natAbs_dvd_natAbs.mpr ds
    rw [Int.natAbs_mul, Int.natAbs_natCast] at this
    exact this
  have hab : Nat.gcd a.natAbs (b.natAbs * x.sum.natAbs) = 1 := Nat.Coprime.mul_right hb hcop
  have hda := cop_of hab dsN
  have hi : ∀ i, i < x.length → i ≠ c → (d : Int) ∣ x.getD i 0 := fun i hi hic => by
    have := dd i hi
    rw [if_neg hic, Int.add_zero] at this
    have := Int.natAbs_dvd_natAbs.mpr this
    rw [Int.natAbs_mul, Int.natAbs_natCast] at this
    have := Nat.Coprime.dvd_of_dvd_mul_right hda this
    exact Int.natAbs_dvd_natAbs.mp (by rw [Int.natAbs_natCast]; exact this)
  -- e divides all of x
  have he : Nat.gcd d x.sum.natAbs = 1 := by
    have e1 : ((Nat.gcd d x.sum.natAbs : Nat) : Int) ∣ x.sum := Int.natAbs_dvd_natAbs.mp (by rw [Int.natAbs_natCast]; exact Nat.gcd_dvd_right _ _)
    have e2 : ((Nat.gcd d x.sum.natAbs : Nat) : Int) ∣ (d : Int) := Int.natAbs_dvd_natAbs.mp (by rw [Int.natAbs_natCast, Int.natAbs_natCast]; exact Nat.gcd_dvd_left _ _)
    have e3 : ∀ i, i < x.length → ((Nat.gcd d x.sum.natAbs : Nat) : Int) ∣ x.getD i 0 := fun i hix => by
      by_cases hic : i = c
      · subst hic
        exact dvd_sum_but hix (fun m hm hmc => Int.dvd_trans e2 (hi m hm hmc)) e1
      · exact Int.dvd_trans e2 (hi i hix hic)
    have e4 : Nat.gcd d x.sum.natAbs ∣ gcdN x := dvd_gcdN.mpr fun n hn => by
      obtain ⟨i, hi, e⟩ := mem_at hn
      have := Int.natAbs_dvd_natAbs.mpr (e3 i hi)
      rw [Int.natAbs_natCast, e] at this
      exact this
    rw [h.g] at e4
    exact Nat.dvd_one.mp e4
  have hdb : d ∣ b.natAbs := Nat.Coprime.dvd_of_dvd_mul_right he dsN
  have hdS : d ∣ x.sum.natAbs := Nat.dvd_trans hdb (Int.natAbs_dvd_natAbs.mpr hd)
  have : d ∣ Nat.gcd d x.sum.natAbs := Nat.dvd_gcd (Nat.dvd_refl _) hdS
  rw [he] at this
  exact Nat.dvd_one.mp this
/-- what such a top-up tells -/
structure Reg (x : List Int) (a b : Int) : Prop where
  con : Con x
  ex : ∃ m : Nat, x.sum = b ^ (m + 1)
theorem cop_pow {a b : Int} (h : Nat.gcd a.natAbs b.natAbs = 1) : ∀ m : Nat, Nat.gcd a.natAbs (b ^ m).natAbs = 1
  | 0 => by rw [Int.pow_zero]; exact Nat.gcd_one_right _
  | m + 1 => by rw [Int.pow_succ, Int.natAbs_mul]; exact Nat.Coprime.mul_right (cop_pow h m) h
theorem single_of {p : Nat → Bool} {c n : Nat} (hc : c < n) (h : ∀ i, i < n → (p i = true ↔ i = c)) : (List.range n).filter p = [c] := by
  have e : (List.range n).filter p = (List.range n).filter fun i => (fun _ => true) i && decide (i = c) := by
    refine List.filter_congr fun i hi => ?_
    have := h i (List.mem_range.mp hi)
    by_cases hic : i = c
    · rw [this.mpr hic, hic, decide_eq_true rfl]
      rfl
    · rw [decide_eq_false hic]
      cases hp : p i with
      | false => rfl
      | true => exact absurd (this.mp hp) hic
  rw [e, range_single n hc]
  rfl
theorem mod_ne {a b S x : Int} (ha : 2 ≤ a) (h : Nat.gcd a.natAbs (b * S).natAbs = 1) : (x * a + (b - a) * S) % a ≠ 0 := fun z => by
  have h1 : a ∣ x * a + (b - a) * S := Int.dvd_of_emod_eq_zero z
  have h2 : a ∣ b * S := by
    have e : b * S = (x * a + (b - a) * S) - (x * a - a * S) := by rw [Int.sub_mul]; omega
    rw [e]
    exact Int.dvd_sub h1 (Int.dvd_sub (Int.dvd_mul_left _ _) (Int.dvd_mul_right _ _))
  have h3 := Nat.dvd_gcd (Nat.dvd_refl a.natAbs) (Int.natAbs_dvd_natAbs.mpr h2)
  rw [h] at h3
  have := Nat.dvd_one.mp h3
  omega
theorem two_le_sum {ns : List Int} (hn : ∀ n ∈ ns, 0 ≤ n) {i j : Nat} (hi : i < ns.length) (hj : j < ns.length) (hij : i ≠ j) : ns.getD i 0 + ns.getD j 0 ≤ ns.sum := by
    have e := sum_set 0 ns i hi
    have h1 : ∀ n ∈ ns.set i 0, 0 ≤ n := fun n hm => by
      rcases List.mem_or_eq_of_mem_set hm with z | z
      · exact hn n z
      · rw [z]; exact Int.le_refl _
    have h2 : (ns.set i 0).getD j 0 = ns.getD j 0 := by
      rw [List.getD_eq_getElem?_getD, List.getD_eq_getElem?_getD, List.getElem?_set_ne hij]
    have h3 := le_sum h1 (getD_in (ns := ns.set i 0) (i := j) (by rw [List.length_set]; exact hj))
    rw [h2] at h3
    omega
/-- the last liquid of a top-up is told -/
theorem step_last {x : List Int} {a b : Int} {c : Nat} (h : Con x) (k : Kep a b) (hc : c < x.length) (hg : gcdN (pre x a b c) = 1) (hcop : Nat.gcd a.natAbs x.sum.natAbs = 1) (hx : 2 ≤ a ∨ 3 ≤ b ∨ x.sum ≠ 1) : lastL (step x a b c) a b = some c := by
  have k1 := k.a1
  have k2 := k.ab
  have hs := h.amt.pos
  have eS : (step x a b c).sum = b * x.sum := by
    have := step_sum_g h k hc
    rw [hg] at this
    omega
  have eI : ∀ i, i < x.length → (step x a b c).getD i 0 = x.getD i 0 * a + if i = c then (b - a) * x.sum else 0 := fun i hi => by
    have := step_get (a := a) (b := b) (c := c) hi
    rw [hg] at this
    omega
  have hfit := fit_step h k hc
  have hl : (step x a b c).length = x.length := step_len _ _ _ _
  unfold lastL
  by_cases ha : 2 ≤ a
  · have hm : marked (step x a b c) a = [c] := by
      unfold marked
      refine single_of (by rw [hl]; exact hc) fun i hi => ?_
      rw [hl] at hi
      unfold mark
      rw [decide_eq_false (show ¬ a = 1 by omega), Bool.false_or, decide_eq_true_eq, eI i hi]
      constructor
      · intro z
        refine Classical.byContradiction fun hic => z ?_
        rw [if_neg hic, Int.add_zero]
        exact Int.mul_emod_left _ _
      · intro z
        subst z
        rw [if_pos rfl]
        refine mod_ne ha ?_
        rw [Int.natAbs_mul]
        exact Nat.Coprime.mul_right k.g hcop
    rw [hm, if_neg (by simp), List.filter_cons, if_pos hfit]
    rfl
  · have h1 : a = 1 := by omega
    subst h1
    have hm : marked (step x 1 b c) 1 = List.range x.length := by
      unfold marked
      rw [hl, List.filter_eq_self]
      intro i _
      rfl
    rw [hm, if_neg (by omega)]
    have e : (List.range x.length).filter (fit (step x 1 b c) 1 b) = [c] := by
      refine single_of hc fun i hi => ?_
      constructor
      · intro z
        refine Classical.byContradiction fun hic => ?_
        have z2 := of_decide_eq_true z
        rw [eI i hi, if_neg hic, eS, Int.add_zero, Int.mul_one] at z2
        have h0 := h.nn _ (getD_in hi)
        have hle := le_sum h.nn (getD_in hi)
        have z3 : (b - 1) * (b * x.sum) = (b - 1) * x.sum * b := by rw [Int.mul_comm b x.sum, Int.mul_assoc]
        rw [z3] at z2
        have z4 := Int.le_of_mul_le_mul_right z2 (by omega)
        -- (b - 1) * S ≤ x_i ≤ S
        by_cases hb : 3 ≤ b
        · have : 2 * x.sum ≤ (b - 1) * x.sum := Int.mul_le_mul_of_nonneg_right (by omega) (by omega)
          omega
        · have hb2 : b = 2 := by omega
          subst hb2
          have hS1 : x.sum ≠ 1 := by omega
          have z5 : x.getD i 0 = x.sum := by omega
          -- all others are 0, so the sum divides all
          have hz : ∀ j, j < x.length → j ≠ i → x.getD j 0 = 0 := fun j hj hji => by
            have := two_le_sum h.nn hi hj (fun z => hji z.symm)
            have := h.nn _ (getD_in hj)
            omega
          have hdv : x.sum.natAbs ∣ gcdN x := dvd_gcdN.mpr fun n hn => by
            obtain ⟨j, hj, ej⟩ := mem_at hn
            rw [← ej]
            by_cases hji : j = i
            · rw [hji, z5]; exact Nat.dvd_refl _
            · rw [hz j hj hji]
              exact Nat.dvd_zero _
          rw [h.g] at hdv
          have := Nat.dvd_one.mp hdv
          omega
      · intro z
        subst z
        exact hfit
    rw [e]
    rfl
theorem Reg.step {x : List Int} {a b : Int} {c : Nat} (R : Reg x a b) (k : Kep a b) (hc : c < x.length) : Reg (step x a b c) a b ∧ und (step x a b c) a b = (c :: (und x a b).1, (und x a b).2) := by
  have k1 := k.a1
  have k2 := k.ab
  have hb : 2 ≤ b := by omega
  obtain ⟨m, hm⟩ := R.ex
  have hd : b ∣ x.sum := by rw [hm, Int.pow_succ]; exact Int.dvd_mul_left _ _
  have hcop : Nat.gcd a.natAbs x.sum.natAbs = 1 := by rw [hm]; exact cop_pow k.g _
  have hg := pre_one R.con k hc hd hcop
  have eS : (Ma.step x a b c).sum = b ^ (m + 1 + 1) := by
    have := step_sum_g R.con k hc
    rw [hg, hm] at this
    rw [Int.pow_succ, Int.mul_comm]
    omega
  have hx1 : x.sum ≠ 1 := by
    have h1 := pow_pos' hb m
    have h2 := Int.mul_le_mul_of_nonneg_left hb (show 0 ≤ b ^ m by omega)
    rw [hm, Int.pow_succ]
    omega
  have hc2 := step_con R.con k hc
  refine ⟨⟨hc2, m + 1, eS⟩, ?_⟩
  have hlt := R.con.amt.pos
  have G : Goes (Ma.step x a b c) a b c := by
    refine ⟨?_, by rw [eS]; exact powB_pow hb _, step_last R.con k hc hg hcop (.inr (.inr hx1))⟩
    rw [eS, Int.pow_succ]
    have h1 := pow_pos' hb (m + 1)
    have h2 := Int.mul_le_mul_of_nonneg_left hb (show 0 ≤ b ^ (m + 1) by omega)
    omega
  rw [und_go k hc2 G, befo_step R.con k hc]
theorem Reg.walk {a b : Int} (k : Kep a b) : ∀ (cs : List Nat) {x : List Int}, Reg x a b → (∀ c ∈ cs, c < x.length) → und (cs.foldl (fun x c => Ma.step x a b c) x) a b = (cs.reverse ++ (und x a b).1, (und x a b).2) ∧ Reg (cs.foldl (fun x c => Ma.step x a b c) x) a b
  | [], x, R, _ => ⟨rfl, R⟩
  | c :: r, x, R, h => by
    obtain ⟨R1, e1⟩ := R.step k (h c List.mem_cons_self)
    obtain ⟨e2, R2⟩ := Reg.walk k r R1 fun d hd => by rw [step_len]; exact h d (List.mem_cons_of_mem _ hd)
    refine ⟨?_, R2⟩
    rw [List.foldl_cons, e2, e1, List.reverse_cons, List.append_assoc]
    rfl
end Ma
end

section
set_option Elab.async false
set_option linter.all false
set_option maxHeartbeats 1000000
namespace Ma
/-! undone and done again -/
theorem step_befo {x : List Int} {a b : Int} {c : Nat} (h : Con x) (k : Kep a b) (hc : c < x.length) (hf : fit x a b c = true) : step (befo x a b c) a b c = x := by
  have hA := bef_amt h k hc hf
  have hg := gcdN_pos hA
  have k1 := k.a1
  have k2 := k.ab
  have hy := befo_con h k hc hf
  have ly : (befo x a b c).length = x.length := befo_len _ _ _ _
  have e0 : ∀ i, i < x.length → (befo x a b c).getD i 0 * ((gcdN (bef x a b c) : Nat) : Int) = x.getD i 0 * b - if i = c then (b - a) * x.sum else 0 := fun i hi => by
    unfold befo plain
    rw [map_getD (by rw [bef_len]; exact hi)]
    have := plain_mul (getD_in (ns := bef x a b c) (i := i) (by rw [bef_len]; exact hi))
    rw [this, getD_of (bef_get hi)]
  have es : (befo x a b c).sum * ((gcdN (bef x a b c) : Nat) : Int) = a * x.sum := by
    have := plain_sum hA
    rw [bef_sum hc] at this
    exact this
  have e1 : (pre (befo x a b c) a b c).map (fun n => ((gcdN (bef x a b c) : Nat) : Int) * n) = x.map fun n => (a * b) * n := by
    refine list_ext (by simp [pre_len, befo_len]) fun i hi => ?_
    rw [List.length_map, pre_len, ly] at hi
    rw [map_getD (by rw [pre_len, ly]; exact hi), map_getD hi, getD_of (pre_get (by rw [ly]; exact hi)), Int.mul_add, ← Int.mul_assoc, Int.mul_comm _ ((befo x a b c).getD i 0), e0 i hi]
    by_cases hic : i = c
    · subst hic
      rw [if_pos rfl, if_pos rfl]
      have : ((gcdN (bef x a b i) : Nat) : Int) * ((b - a) * (befo x a b i).sum) = (b - a) * ((befo x a b i).sum * ((gcdN (bef x a b i) : Nat) : Int)) := by
        rw [Int.mul_comm, Int.mul_assoc]
      rw [this, es]
      have e5 : (b - a) * (a * x.sum) = (b - a) * x.sum * a := by rw [Int.mul_comm a x.sum, Int.mul_assoc]
      rw [e5, Int.sub_mul, Int.sub_add_cancel, Int.mul_comm (x.getD i 0) b, Int.mul_right_comm, Int.mul_comm b a]
    · rw [if_neg hic, if_neg hic, Int.mul_zero, Int.sub_zero, Int.add_zero, Int.mul_comm (x.getD i 0) b, Int.mul_right_comm, Int.mul_comm b a]
  have hgx : 0 < gcdN x := by rw [h.g]; decide
  have hab : 0 < a * b := Int.mul_pos (by omega) (by omega)
  have hp2 := gcdN_pos (pre_amt hy k (by rw [ly]; exact hc))
  have e3 := plain_scale (ns := pre (befo x a b c) a b c) (t := ((gcdN (bef x a b c) : Nat) : Int)) (by omega) hp2
  have e4 := plain_scale (ns := x) hab hgx
  unfold step
  rw [← e3, e1, e4, plain_of_one h.g]
/-! pure contents -/
def pur' (k i : Nat) : List Int := (List.replicate k 0).set i 1
theorem pur'_len (k i : Nat) : (pur' k i).length = k := by unfold pur'; simp
theorem pur'_get {k s i : Nat} (hi : i < k) : (pur' k s).getD i 0 = if i = s then 1 else 0 := by
  unfold pur'
  rw [List.getD_eq_getElem?_getD, List.getElem?_set]
  by_cases h : s = i
  · subst h
    rw [if_pos rfl, if_pos (by simpa using hi), if_pos rfl]
    rfl
  · rw [if_neg h, if_neg (fun z => h z.symm), List.getElem?_replicate, if_pos hi]
    rfl
theorem pur'_sum {k s : Nat} (h : s < k) : (pur' k s).sum = 1 := by
  unfold pur'
  rw [sum_set _ _ _ (by simpa using h)]
  have e : (List.replicate k (0 : Int)).sum = 0 := by
    clear h
    induction k with
    | zero => rfl
    | succ k ih => rw [List.replicate_succ, List.sum_cons, ih]; rfl
  have e2 : (List.replicate k (0 : Int)).getD s 0 = 0 := by rw [List.getD_eq_getElem?_getD, List.getElem?_replicate, if_pos h]; rfl
  rw [e, e2]
  rfl
theorem pur'_con {k s : Nat} (h : s < k) (h8 : k ≤ 8) : Con (pur' k s) := by
  refine ⟨by rw [pur'_len]; omega, by rw [pur'_len]; exact h8, fun n hn => ?_, ?_⟩
  · obtain ⟨i, hi, e⟩ := mem_at hn
    rw [pur'_len] at hi
    rw [← e, pur'_get hi]
    split <;> decide
  · have h1 : gcdN (pur' k s) ∣ 1 := by
      have := gcdN_dvd (getD_in (ns := pur' k s) (i := s) (by rw [pur'_len]; exact h))
      rw [pur'_get h, if_pos rfl] at this
      have := Int.natAbs_dvd_natAbs.mpr this
      rw [Int.natAbs_natCast] at this
      exact this
    exact Nat.dvd_one.mp h1
theorem pure_is {L : List Int} (h : Con L) (h1 : L.sum = 1) : L = pur' L.length (startOf L) := by
  obtain ⟨i1, i2⟩ := start_at h.nn h1
  refine list_ext (by rw [pur'_len]) fun i hi => ?_
  rw [pur'_get hi]
  by_cases hs : i = startOf L
  · rw [if_pos hs, hs]
    exact getD_of i2
  · rw [if_neg hs]
    have := two_le_sum h.nn hi i1 hs
    rw [getD_of i2] at this
    have := h.nn _ (getD_in hi)
    omega
theorem start_pur {k s : Nat} (h : s < k) (h8 : k ≤ 8) : startOf (pur' k s) = s := by
  have hc := pur'_con h h8
  obtain ⟨i1, i2⟩ := start_at hc.nn (pur'_sum h)
  rw [pur'_len] at i1
  have := getD_of i2
  rw [pur'_get i1] at this
  split at this
  · assumption
  · cases this
end Ma
end

section
set_option Elab.async false
set_option linter.all false
set_option maxHeartbeats 1000000
/-! Histories by told kept shares and by menus: the search backwards, layer by layer. The choices stand with the last top-up's first. -/
namespace Ma
/-- how many liquids there are in it -/
def nz (y : List Int) : Nat := (y.filter fun n => decide (n ≠ 0)).length
theorem nz_cons (x : Int) (xs : List Int) : nz (x :: xs) = (if x = 0 then 0 else 1) + nz xs := by
  unfold nz
  rw [List.filter_cons]
  by_cases h : x = 0
  · rw [if_pos h, if_neg (by simp [h])]
    omega
  · rw [if_neg h, if_pos (by simp [h]), List.length_cons]
    omega
theorem nz_count : ∀ y : List Int, y.length - y.count 0 = nz y
  | [] => rfl
  | x :: xs => by
    have ih := nz_count xs
    have h1 : xs.count 0 ≤ xs.length := List.count_le_length
    rw [nz_cons, List.length_cons, List.count_cons]
    by_cases h : x = 0
    · rw [if_pos (by rw [h]; rfl), if_pos h]
      omega
    · rw [if_neg (by simpa using h), if_neg h]
      omega
theorem nz_le0 : ∀ (xs ys : List Int), xs.length = ys.length → (∀ i, ys.getD i 0 ≠ 0 → xs.getD i 0 ≠ 0) → nz ys ≤ nz xs
  | [], [], _, _ => Nat.le_refl _
  | x :: xs, y :: ys, hl, h => by
    have ih := nz_le0 xs ys (by simpa using hl) fun i hi => h (i + 1) hi
    rw [nz_cons, nz_cons]
    have h0 : y ≠ 0 → x ≠ 0 := h 0
    by_cases hy : y = 0
    · rw [if_pos hy]; split <;> omega
    · rw [if_neg hy, if_neg (h0 hy)]; omega
theorem nz_le1 : ∀ (xs ys : List Int) (l : Nat), xs.length = ys.length → (∀ i, i ≠ l → ys.getD i 0 ≠ 0 → xs.getD i 0 ≠ 0) → nz ys ≤ nz xs + 1
  | [], [], _, _, _ => by omega
  | x :: xs, y :: ys, 0, hl, h => by
    have ih := nz_le0 xs ys (by simpa using hl) fun i hi => h (i + 1) (by omega) hi
    rw [nz_cons, nz_cons]
    split <;> split <;> omega
  | x :: xs, y :: ys, l + 1, hl, h => by
    have ih := nz_le1 xs ys l (by simpa using hl) fun i hi h2 => h (i + 1) (by omega) h2
    rw [nz_cons, nz_cons]
    have h0 : y ≠ 0 → x ≠ 0 := h 0 (by omega)
    by_cases hy : y = 0
    · rw [if_pos hy]; split <;> omega
    · rw [if_neg hy, if_neg (h0 hy)]; omega
theorem getD_out {ns : List Int} {i : Nat} (h : ns.length ≤ i) : ns.getD i 0 = 0 := by
  rw [List.getD_eq_getElem?_getD, List.getElem?_eq_none h]
  rfl
theorem nz_pur {k s : Nat} : nz (pur' k s) ≤ 1 := by
  have e : nz (List.replicate k (0 : Int)) = 0 := by
    induction k with
    | zero => rfl
    | succ k ih => rw [List.replicate_succ, nz_cons, ih]; rfl
  have h := nz_le1 (List.replicate k 0) (pur' k s) s (by rw [pur'_len, List.length_replicate]) fun i hi h2 => by
    by_cases hk : i < k
    · rw [pur'_get hk, if_neg hi] at h2
      exact absurd rfl h2
    · rw [getD_out (by rw [pur'_len]; omega)] at h2
      exact absurd rfl h2
  rw [e] at h
  exact h
theorem nz_step {y : List Int} {a b : Int} {l : Nat} (h : Con y) (k : Kep a b) (hl : l < y.length) : nz (step y a b l) ≤ nz y + 1 := by
  refine nz_le1 y (step y a b l) l (step_len _ _ _ _).symm fun i hi h2 h3 => ?_
  by_cases hk : i < y.length
  · have e := step_get (a := a) (b := b) (c := l) hk
    have hg := gcdN_pos (pre_amt h k hl)
    rw [h3, if_neg hi, Int.zero_mul, Int.zero_add] at e
    rcases Int.mul_eq_zero.mp e with e | e
    · exact h2 e
    · omega
  · exact h2 (getD_out (by rw [step_len]; omega))
theorem sum_step {y : List Int} {a b p : Int} {l : Nat} (h : Con y) (k : Kep a b) (hl : l < y.length) (hp : y.sum ∣ p) : (step y a b l).sum ∣ p * b := by
  have e := step_sum_g h k hl
  have h1 : (step y a b l).sum ∣ b * y.sum := ⟨_, e.symm⟩
  refine Int.dvd_trans h1 ?_
  rw [Int.mul_comm p b]
  exact Int.mul_dvd_mul_left b hp
/-- the products that the bottoms can have -/
def prods : List (List (Int × Int)) → List Int
  | [] => [1]
  | c :: r => (prods r).flatMap fun p => c.map fun q => p * q.2
def reach (r : List (List (Int × Int))) (y : List Int) : Bool := decide (nz y ≤ r.length + 1) && (prods r).any fun p => decide (p % y.sum = 0)
def shAt (c : List (Int × Int)) (i : Nat) : Int × Int := c.getD i (1, 2)
/-- what can have been before the last top-up -/
def undL (c : List (Int × Int)) (r : List (List (Int × Int))) (x : List Int) : List ((Nat × Nat) × List Int) :=
  (List.range c.length).flatMap fun i => (List.range x.length).filterMap fun l =>
    if (fit x (shAt c i).1 (shAt c i).2 l && reach r (befo x (shAt c i).1 (shAt c i).2 l)) = true then some ((l, i), befo x (shAt c i).1 (shAt c i).2 l) else none
/-- all ways back -/
def ways : List (List (Int × Int)) → List Int → List (Nat × List (Nat × Nat))
  | [], x => if x.sum = 1 then [(startOf x, [])] else []
  | c :: r, x => (undL c r x).flatMap fun p => (ways r p.2).map fun w => (w.1, w.2 ++ [p.1])
/-- what such top-ups make of a pure pot -/
inductive LedK (k s : Nat) : List (List (Int × Int)) → List (Nat × Nat) → List Int → Prop
  | nil : LedK k s [] [] (pur' k s)
  | snoc {c : List (Int × Int)} {r : List (List (Int × Int))} {sts : List (Nat × Nat)} {y : List Int} {l i : Nat} (h : LedK k s r sts y) (hi : i < c.length) (hl : l < k) : LedK k s (c :: r) (sts ++ [(l, i)]) (step y (shAt c i).1 (shAt c i).2 l)
/-- choices of kept shares -/
def Chs (r : List (List (Int × Int))) : Prop := ∀ c ∈ r, ∀ q ∈ c, Kep q.1 q.2
theorem Chs.hd {c : List (Int × Int)} {r : List (List (Int × Int))} (h : Chs (c :: r)) {i : Nat} (hi : i < c.length) : Kep (shAt c i).1 (shAt c i).2 := by
  refine h c List.mem_cons_self _ ?_
  unfold shAt
  rw [List.getD_eq_getElem?_getD, List.getElem?_eq_getElem hi]
  exact List.getElem_mem hi
theorem Chs.tl {c : List (Int × Int)} {r : List (List (Int × Int))} (h : Chs (c :: r)) : Chs r := fun d hd => h d (List.mem_cons_of_mem _ hd)
theorem LedK.con {k s : Nat} (hs : s < k) (h8 : k ≤ 8) {r : List (List (Int × Int))} {sts : List (Nat × Nat)} {x : List Int} (L : LedK k s r sts x) (h : Chs r) : Con x ∧ x.length = k := by
  induction L with
  | nil => exact ⟨pur'_con hs h8, pur'_len _ _⟩
  | snoc L hi hl ih =>
    obtain ⟨i1, i2⟩ := ih h.tl
    exact ⟨step_con i1 (h.hd hi) (by rw [i2]; exact hl), by rw [step_len, i2]⟩
theorem LedK.nz {k s : Nat} (hs : s < k) (h8 : k ≤ 8) {r : List (List (Int × Int))} {sts : List (Nat × Nat)} {x : List Int} (L : LedK k s r sts x) (h : Chs r) : nz x ≤ r.length + 1 := by
  induction L with
  | nil => exact nz_pur
  | snoc L hi hl ih =>
    obtain ⟨i1, i2⟩ := L.con hs h8 h.tl
    have := nz_step i1 (h.hd hi) (by rw [i2]; exact hl)
    have := ih h.tl
    rw [List.length_cons]
    omega
theorem LedK.dvd {k s : Nat} (hs : s < k) (h8 : k ≤ 8) {r : List (List (Int × Int))} {sts : List (Nat × Nat)} {x : List Int} (L : LedK k s r sts x) (h : Chs r) : ∃ p ∈ prods r, x.sum ∣ p := by
  induction L with
  | nil => exact ⟨1, List.mem_singleton.mpr rfl, by rw [pur'_sum hs]; exact Int.dvd_refl _⟩
  | @snoc c r sts y l i L hi hl ih =>
    obtain ⟨i1, i2⟩ := L.con hs h8 h.tl
    obtain ⟨p, hp, hd⟩ := ih h.tl
    refine ⟨p * (shAt c i).2, List.mem_flatMap.mpr ⟨p, hp, List.mem_map.mpr ⟨shAt c i, ?_, rfl⟩⟩, sum_step i1 (h.hd hi) (by rw [i2]; exact hl) hd⟩
    unfold shAt
    rw [List.getD_eq_getElem?_getD, List.getElem?_eq_getElem hi]
    exact List.getElem_mem hi
theorem LedK.reach {k s : Nat} (hs : s < k) (h8 : k ≤ 8) {r : List (List (Int × Int))} {sts : List (Nat × Nat)} {x : List Int} (L : LedK k s r sts x) (h : Chs r) : reach r x = true := by
  obtain ⟨p, hp, hd⟩ := L.dvd hs h8 h
  unfold Ma.reach
  rw [decide_eq_true (L.nz hs h8 h), Bool.true_and, List.any_eq_true]
  exact ⟨p, hp, decide_eq_true (Int.emod_eq_zero_of_dvd hd)⟩
theorem mem_undL {c : List (Int × Int)} {r : List (List (Int × Int))} {x : List Int} {p : (Nat × Nat) × List Int} : p ∈ undL c r x ↔ p.1.2 < c.length ∧ p.1.1 < x.length ∧ fit x (shAt c p.1.2).1 (shAt c p.1.2).2 p.1.1 = true ∧ reach r p.2 = true ∧ p.2 = befo x (shAt c p.1.2).1 (shAt c p.1.2).2 p.1.1 := by
  obtain ⟨⟨l, i⟩, y⟩ := p
  unfold undL
  rw [List.mem_flatMap]
  constructor
  · rintro ⟨i', hi, hm⟩
    obtain ⟨l', hl, e⟩ := List.mem_filterMap.mp hm
    split at e
    · rename_i hf
      rw [Bool.and_eq_true] at hf
      cases e
      exact ⟨List.mem_range.mp hi, List.mem_range.mp hl, hf.1, hf.2, rfl⟩
    · cases e
  · rintro ⟨h1, h2, h3, h4, h5⟩
    refine ⟨i, List.mem_range.mpr h1, List.mem_filterMap.mpr ⟨l, List.mem_range.mpr h2, ?_⟩⟩
    dsimp only at h3 h4 h5
    rw [if_pos (by rw [h3, ← h5, h4]; rfl), h5]
theorem ways_led {k : Nat} (h8 : k ≤ 8) : ∀ {r : List (List (Int × Int))} {x : List Int} {s : Nat} {sts : List (Nat × Nat)}, Chs r → Con x → x.length = k → (s, sts) ∈ ways r x → s < k ∧ LedK k s r sts x
  | [], x, s, sts, h, hc, hk, hw => by
    unfold ways at hw
    split at hw
    · rename_i h1
      cases List.mem_singleton.mp hw
      obtain ⟨i1, i2⟩ := start_at hc.nn h1
      rw [hk] at i1
      refine ⟨i1, ?_⟩
      have := pure_is hc h1
      rw [hk] at this
      rw [this, start_pur i1 h8]
      exact .nil
    · cases hw
  | c :: r, x, s, sts, h, hc, hk, hw => by
    unfold ways at hw
    obtain ⟨⟨⟨l, i⟩, y⟩, hp, hm⟩ := List.mem_flatMap.mp hw
    obtain ⟨⟨s', st⟩, hw', e⟩ := List.mem_map.mp hm
    cases e
    obtain ⟨h1, h2, h3, h4, h5⟩ := mem_undL.mp hp
    dsimp only at h1 h2 h3 h4 h5 hw'
    have kp := h.hd h1
    obtain ⟨i1, i2⟩ := ways_led h8 h.tl (by rw [h5]; exact befo_con hc kp h2 h3) (by rw [h5, befo_len, hk]) hw'
    refine ⟨i1, ?_⟩
    have := LedK.snoc i2 h1 (by rw [← hk]; exact h2)
    rw [h5, step_befo hc kp h2 h3] at this
    exact this
theorem led_ways {k s : Nat} (hs : s < k) (h8 : k ≤ 8) {r : List (List (Int × Int))} {sts : List (Nat × Nat)} {x : List Int} (L : LedK k s r sts x) (h : Chs r) : (s, sts) ∈ ways r x := by
  induction L with
  | nil =>
    unfold ways
    rw [if_pos (pur'_sum hs), start_pur hs h8]
    exact List.mem_singleton.mpr rfl
  | @snoc c r sts y l i L hi hl ih =>
    obtain ⟨i1, i2⟩ := L.con hs h8 h.tl
    have kp := h.hd hi
    have hl' : l < y.length := by rw [i2]; exact hl
    unfold ways
    refine List.mem_flatMap.mpr ⟨((l, i), y), mem_undL.mpr ⟨hi, by rw [step_len]; exact hl', fit_step i1 kp hl', L.reach hs h8 h.tl, (befo_step i1 kp hl').symm⟩, List.mem_map.mpr ⟨(s, sts), ih h.tl, rfl⟩⟩
theorem undL_nodup (c : List (Int × Int)) (r : List (List (Int × Int))) (x : List Int) : ((undL c r x).map (·.1)).Nodup := by
  unfold undL
  rw [List.map_flatMap]
  refine List.pairwise_flatMap.mpr ⟨fun i _ => ?_, ?_⟩
  · rw [List.map_filterMap]
    refine List.Pairwise.filterMap _ (R := (· ≠ ·)) (fun l l' hne b hb b' hb' e => ?_) List.nodup_range
    split at hb
    · split at hb'
      · cases hb; cases hb'; cases e; exact hne rfl
      · cases hb'
    · cases hb
  · refine List.Pairwise.imp (fun {i j} hne => ?_) (List.nodup_range (n := c.length))
    intro p h1 p' h2 hpp
    subst hpp
    obtain ⟨q, hq, rfl⟩ := List.mem_map.mp h1
    obtain ⟨q', hq', e⟩ := List.mem_map.mp h2
    obtain ⟨l, _, e1⟩ := List.mem_filterMap.mp hq
    obtain ⟨l', _, e2⟩ := List.mem_filterMap.mp hq'
    split at e1
    · split at e2
      · cases e1; cases e2; cases e; exact hne rfl
      · cases e2
    · cases e1
theorem ways_nodup : ∀ (r : List (List (Int × Int))) (x : List Int), (ways r x).Nodup
  | [], x => by
    unfold ways
    split
    · exact List.nodup_cons.mpr ⟨List.not_mem_nil, List.nodup_nil⟩
    · exact List.nodup_nil
  | c :: r, x => by
    unfold ways
    refine List.pairwise_flatMap.mpr ⟨fun p _ => ?_, ?_⟩
    · refine List.Pairwise.map _ (R := (· ≠ ·)) (fun a b hne e => ?_) (ways_nodup r p.2)
      injection e with e1 e2
      exact hne (Prod.ext e1 (List.append_cancel_right e2))
    · have := List.pairwise_map.mp (undL_nodup c r x)
      refine List.Pairwise.imp (fun {p q} hne => ?_) this
      intro w h1 w' h2 hww
      subst hww
      obtain ⟨a, _, rfl⟩ := List.mem_map.mp h1
      obtain ⟨b, _, e⟩ := List.mem_map.mp h2
      injection e with e1 e2
      have := List.append_inj_right' e2 rfl
      injection this with this _
      exact hne this.symm
end Ma
end

section
set_option Elab.async false
set_option linter.all false
set_option maxHeartbeats 1000000
/-! Kept shares that leave at most one history. -/
namespace Ma
open Mc
/-- the condition, with the last kept share first -/
def oneR : List (Int × Int) → Bool
  | [] => true
  | q :: r => !(decide (q.2 ≤ 2 * q.1) && (decide (q.1 = 1) || r.any fun e => gt1 q.1.natAbs e.2.natAbs)) && oneR r
def ones (r : List (Int × Int)) : List (List (Int × Int)) := r.map fun q => [q]
theorem prods_ones : ∀ r : List (Int × Int), prods (ones r) = [prodW r]
  | [] => rfl
  | q :: r => by
    show (prods (ones r)).flatMap (fun p => [q].map fun q => p * q.2) = _
    rw [prods_ones r]
    show [prodW r * q.2] = [q.2 * prodW r]
    rw [Int.mul_comm]
theorem ones_chs {r : List (Int × Int)} (h : ∀ q ∈ r, Kep q.1 q.2) : Chs (ones r) := fun c hc q hq => by
  obtain ⟨p, hp, rfl⟩ := List.mem_map.mp hc
  rw [List.mem_singleton.mp hq]
  exact h _ hp
theorem cop_dvd {a b c : Int} (h : a ∣ b * c) (g : Nat.gcd a.natAbs b.natAbs = 1) : a ∣ c := by
  have h1 := Int.natAbs_dvd_natAbs.mpr h
  rw [Int.natAbs_mul] at h1
  exact Int.natAbs_dvd_natAbs.mp (Nat.Coprime.dvd_of_dvd_mul_left g h1)
theorem dvd_nat' {n : Nat} {a : Int} (h : n ∣ a.natAbs) : (n : Int) ∣ a := Int.natAbs_dvd_natAbs.mp (by rw [Int.natAbs_natCast]; exact h)
/-- the liquid of the last top-up is the one whose number a does not divide -/
theorem last_odd {y : List Int} {a b : Int} {l : Nat} (h : Con y) (k : Kep a b) (hl : l < y.length) (a1 : a ≠ 1) (g : Nat.gcd a.natAbs y.sum.natAbs = 1) : (∀ i, i < y.length → i ≠ l → a ∣ (step y a b l).getD i 0) ∧ ¬ a ∣ (step y a b l).getD l 0 := by
  have el := step_get (a := a) (b := b) (c := l) hl
  rw [if_pos rfl] at el
  have ea : ∀ i, i < y.length → i ≠ l → (step y a b l).getD i 0 * ((gcdN (pre y a b l) : Nat) : Int) = y.getD i 0 * a := fun i hi hne => by
    have e := step_get (a := a) (b := b) (c := l) hi
    rw [if_neg hne, Int.add_zero] at e
    exact e
  have k1 := k.a1
  have cb : ∀ d : Int, d ∣ a → d ∣ (b - a) * y.sum → d.natAbs = 1 := fun d h1 h2 => by
    have h3 : d ∣ b * y.sum := by
      have e : b * y.sum = (b - a) * y.sum + a * y.sum := by rw [← Int.add_mul]; congr 1; omega
      rw [e]
      exact Int.dvd_add h2 (Int.dvd_trans h1 (Int.dvd_mul_right _ _))
    have n1 := Int.natAbs_dvd_natAbs.mpr h1
    have g1 : Nat.gcd d.natAbs b.natAbs = 1 := Nat.Coprime.coprime_dvd_left n1 k.g
    have g2 : Nat.gcd d.natAbs y.sum.natAbs = 1 := Nat.Coprime.coprime_dvd_left n1 g
    have h4 := cop_dvd h3 g1
    have n4 := Int.natAbs_dvd_natAbs.mpr h4
    have := Nat.gcd_eq_left n4
    omega
  generalize gcdN (pre y a b l) = G at *
  have cG : Nat.gcd a.natAbs (G : Int).natAbs = 1 := by
    refine cb ((Nat.gcd a.natAbs (G : Int).natAbs : Nat) : Int) (dvd_nat' (Nat.gcd_dvd_left _ _)) ?_ |> fun z => by rwa [Int.natAbs_natCast] at z
    have h1 : ((Nat.gcd a.natAbs (G : Int).natAbs : Nat) : Int) ∣ (G : Int) := dvd_nat' (Nat.gcd_dvd_right _ _)
    have h2 : ((Nat.gcd a.natAbs (G : Int).natAbs : Nat) : Int) ∣ a := dvd_nat' (Nat.gcd_dvd_left _ _)
    have e : (b - a) * y.sum = (step y a b l).getD l 0 * G - y.getD l 0 * a := by omega
    rw [e]
    exact Int.dvd_sub (Int.dvd_trans h1 (Int.dvd_mul_left _ _)) (Int.dvd_trans h2 (Int.dvd_mul_left _ _))
  refine ⟨fun i hi hne => ?_, fun hd => ?_⟩
  · refine cop_dvd (b := (G : Int)) ?_ cG
    rw [Int.mul_comm, ea i hi hne]
    exact Int.dvd_mul_left _ _
  · have h1 : a ∣ (b - a) * y.sum := by
      have e : (b - a) * y.sum = (step y a b l).getD l 0 * G - y.getD l 0 * a := by omega
      rw [e]
      exact Int.dvd_sub (Int.dvd_trans hd (Int.dvd_mul_right _ _)) (Int.dvd_mul_left _ _)
    have := cb a (Int.dvd_refl a) h1
    omega
/-- the liquid of the last top-up, where most was poured, has more than half -/
theorem last_most {x : List Int} {a b : Int} {l l' : Nat} (h : Con x) (k : Kep a b) (h2 : 2 * a < b) (hl : l < x.length) (hl' : l' < x.length) (f : fit x a b l = true) (f' : fit x a b l' = true) : l = l' := by
  refine Classical.byContradiction fun hne => ?_
  have t := two_le_sum h.nn hl hl' hne
  have f1 := of_decide_eq_true f
  have f2 := of_decide_eq_true f'
  have pos := h.amt.pos
  have k1 := k.a1
  have e1 : (x.getD l 0 + x.getD l' 0) * b ≤ x.sum * b := Int.mul_le_mul_of_nonneg_right t (by omega)
  rw [Int.add_mul] at e1
  have e2 : b * x.sum < 2 * (b - a) * x.sum := Int.mul_lt_mul_of_pos_right (by omega) pos
  have e3 : x.sum * b = b * x.sum := Int.mul_comm _ _
  have e4 : 2 * (b - a) * x.sum = (b - a) * x.sum + (b - a) * x.sum := by rw [Int.mul_assoc, Int.two_mul]
  omega
theorem LedK.inv {k s : Nat} {c : List (Int × Int)} {r : List (List (Int × Int))} {sts : List (Nat × Nat)} {x : List Int} (L : LedK k s (c :: r) sts x) : ∃ st y l i, sts = st ++ [(l, i)] ∧ LedK k s r st y ∧ i < c.length ∧ l < k ∧ x = step y (shAt c i).1 (shAt c i).2 l := by
  cases L with
  | snoc L hi hl => exact ⟨_, _, _, _, rfl, L, hi, hl, rfl⟩
theorem LedK.inv0 {k s : Nat} {sts : List (Nat × Nat)} {x : List Int} (L : LedK k s [] sts x) : sts = [] ∧ x = pur' k s := by
  cases L with
  | nil => exact ⟨rfl, rfl⟩
theorem any_rev {α : Type} (p : α → Bool) (l : List α) : l.reverse.any p = l.any p := by
  rw [Bool.eq_iff_iff, List.any_eq_true, List.any_eq_true]
  exact ⟨fun ⟨x, h, e⟩ => ⟨x, List.mem_reverse.mp h, e⟩, fun ⟨x, h, e⟩ => ⟨x, List.mem_reverse.mpr h, e⟩⟩
theorem dueB_snoc (ks : List (Int × Int)) (q : Int × Int) : dueB (ks ++ [q]) = (!(decide (q.2 ≤ 2 * q.1) && (decide (q.1 = 1) || ks.any fun e => gt1 q.1.natAbs e.2.natAbs)) && dueB ks) := by
  unfold dueB
  rw [List.length_append, show [q].length = 1 from rfl, List.range_succ, List.all_append, Bool.and_comm]
  congr 1
  · show (!badB (ks ++ [q]) ks.length && true) = _
    rw [Bool.and_true]
    unfold badB
    rw [show (ks ++ [q]).getD ks.length (1, 2) = q by rw [List.getD_eq_getElem?_getD, List.getElem?_append_right (Nat.le_refl _), Nat.sub_self]; rfl, List.take_left' rfl]
  · have go : ∀ i, i < ks.length → badB (ks ++ [q]) i = badB ks i := fun i hi => by
      unfold badB
      rw [show (ks ++ [q]).getD i (1, 2) = ks.getD i (1, 2) by rw [List.getD_eq_getElem?_getD, List.getD_eq_getElem?_getD, List.getElem?_append_left hi], List.take_append_of_le_length (Nat.le_of_lt hi)]
    rw [Bool.eq_iff_iff, List.all_eq_true, List.all_eq_true]
    exact ⟨fun h i hi => by rw [← go i (List.mem_range.mp hi)]; exact h i hi, fun h i hi => by rw [go i (List.mem_range.mp hi)]; exact h i hi⟩
theorem dueB_rev : ∀ r : List (Int × Int), dueB r.reverse = oneR r
  | [] => rfl
  | q :: r => by
    rw [List.reverse_cons, dueB_snoc, dueB_rev r, any_rev]
    rfl
end Ma
end

section
set_option Elab.async false
set_option linter.all false
set_option maxRecDepth 100000
set_option maxHeartbeats 4000000
namespace K34
open PySem PySem.Spec PyProof.Rows L2 GxR Gx Ma Mc
section
variable {P : Program} {w : World} {K : PySem.W.Frag} {mg : Str → Option Value} {base : Heap}

abbrev TI (K : PySem.W.Frag) (H : Hp) (a : Addr) (ns : List Int) : Prop := SqT K H a (ns.map V.int)
theorem sqt_same {K : PySem.W.Frag} {H H' : Hp} {a : Addr} {xs : List V} (h : SqT K H a xs) (e : Same H H') : SqT K H' a xs :=
  h.elim (fun h => .inl (h.elim (fun h => .inl (e _ _ h)) fun ⟨o, h⟩ => .inr ⟨o, e _ _ h⟩)) fun h => .inr h
def sp_is_pureT (K : PySem.W.Frag) : Sp := fun vs H Q _ => ∃ l ns, vs = [V.ref l] ∧ TI K H l ns ∧ Q (.bl (decide (ns.sum = 1))) H
def sp_can_beT (K : PySem.W.Frag) : Sp := fun vs H Q _ => ∃ (l t : Addr) (ns : List Int) (a b : Int) (c : Nat), vs = [V.ref l, V.ref t, V.int c] ∧ TI K H l ns ∧ Con ns ∧ H t = some (.tup [.int a, .int b]) ∧ Kep a b ∧ c < ns.length ∧ ns.sum < 2 ^ 7000 ∧ Q (.bl (fit ns a b c)) H
def sp_beforeT (K : PySem.W.Frag) : Sp := fun vs H Q _ => ∃ (l t : Addr) (ns : List Int) (a b : Int) (c : Nat), vs = [V.ref l, V.ref t, V.int c] ∧ TI K H l ns ∧ Con ns ∧ H t = some (.tup [.int a, .int b]) ∧ Kep a b ∧ c < ns.length ∧ fit ns a b c = true ∧ ns.sum < 2 ^ 7000 ∧ ∀ p H', Same H H' → H p = none → LI H' p (befo ns a b c) → Q (.ref p) H'

theorem ok_is_pureT {f : Addr} {fd : FuncData}  (F : Fun K "is_pure" "is_pure" s_is_pure f fd) (B : Bl mg)  : FnOk P w K mg base CX0 1 f fd ["content"] (sp_is_pureT K) := by
  refine F.ok sc_is_pure (fun vs H Q E h => ?_) (fun cdv A outer s H vs Q E hr h => ?_)
  · obtain ⟨l, ns, rfl, _⟩ := h; rfl
  · obtain ⟨l, ns, rfl, hl, q⟩ := h
    have nd := sc_is_pure.nd
    refine ⟨_, (pss_one (ps_ret (pe_cmpR op_eq (pe_callB (cr_sumT rfl) (by rfl) B.sum (by decide +kernel) (pa_cons (pv 0) pa_nil)) pe_int (nomark _)))), ?_⟩
    refine ⟨.ref l, rfl, l, ns, rfl, hl, rfl, ?_⟩
    rw [dec_int]
    exact q

theorem ok_can_be_lastT {f : Addr} {fd : FuncData}  (F : Fun K "can_be_last" "can_be_last" s_can_be_last f fd) (B : Bl mg)  : FnOk P w K mg base CX0 1 f fd ["content", "kept", "liquid"] (sp_can_beT K) := by
  refine F.ok sc_can_be_last (fun vs H Q E h => ?_) (fun cdv A outer s H vs Q E hr h => ?_)
  · obtain ⟨l, t, ns, a, b, c, rfl, _⟩ := h; rfl
  · obtain ⟨l, t, ns, a, b, c, rfl, hl, hc, ht, k, hcl, hz, q⟩ := h
    have k1 := k.a1
    have k2 := k.ab
    have k3 := k.b100
    have nd := sc_can_be_last.nd
    refine ⟨_, (pss_cons (ps_asg (pv 1) (pg_tup (by rfl) (pgs_cons (pg_name (i := 3) nd rfl (Or.inl rfl)) (pgs_cons (pg_name (i := 4) nd rfl (Or.inl rfl)) pgs_nil))))
      (pss_one (ps_ret (pe_cmpR op_ge (pe_op op_mulW (pe_ix ix_tup (pv 0) (pv 2) (fun _ _ => rfl)) (pv 4)) (pe_op op_mulW (pe_op op_sub (pv 4) (pv 3)) (pe_callB (cr_sumT rfl) (by rfl) B.sum (by decide +kernel) (pa_cons (pv 0) pa_nil))) (nomark _))))), ?_⟩
    refine ⟨.ref t, rfl, t, [_, _], rfl, SqT.of ht, rfl, _, _, rfl, _, _, rfl, rfl, ?_⟩
    refine ⟨.ref l, rfl, .int c, rfl, l, _, c, .int (ns.getD c 0), rfl, rfl, hl, at_int hcl, .int b, rfl, _, b, rfl, rfl, (fac_n hc ⟨by omega, k3⟩ hz (getD_in hcl)).1, ?_⟩
    exact ⟨.int b, rfl, .int a, rfl, b, a, rfl, rfl, .ref l, rfl, l, ns, rfl, hl, _, _, rfl, rfl, fac_w hc k hz, _, _, rfl, rfl, q⟩

theorem ok_content_beforeT {f : Addr} {fd : FuncData}  (F : Fun K "content_before" "content_before" s_content_before f fd) (B : Bl mg) (C_without_divisor : Cal P w K mg base 2 "without_divisor" ["numbers"] sp_without_divisor) : FnOk P w K mg base CX0 3 f fd ["content", "kept", "liquid"] (sp_beforeT K) := by
  refine F.ok sc_content_before (fun vs H Q E h => ?_) (fun cdv A outer s H vs Q E hr h => ?_)
  · obtain ⟨l, t, ns, a, b, c, rfl, _⟩ := h; rfl
  · obtain ⟨l, t, ns, a, b, c, rfl, hl, hc, ht, k, hcl, hf, hz, q⟩ := h
    have k1 := k.a1
    have k2 := k.ab
    have k3 := k.b100
    have nd := sc_content_before.nd
    refine ⟨_, (pss_cons (ps_asg (pv 1) (pg_tup (by rfl) (pgs_cons (pg_name (i := 3) nd rfl (Or.inl rfl)) (pgs_cons (pg_name (i := 4) nd rfl (Or.inr rfl)) pgs_nil))))
      (pss_cons (ps_setLc (i := 5) (own := [("amount", 6)]) (g := gName 6) rfl nd rfl rfl (sw_true rfl rfl rfl (by decide +kernel)) (pi_tup (pv 0)) (blkOk_by (own := [("amount", 6)]) (N := ["content", "kept", "liquid", "stays", "whole", "amounts", "amount"]) (sc := defScope s_content_before) (by decide +kernel)) (fun _ _ _ _ _ => (pg_name (i := 6) nd rfl (Or.inl rfl))) (fun _ _ _ _ _ => pts_nil) (fun _ _ _ _ _ => (pe_op op_mulW (pv 6) (pv 4))))
      (pss_cons (ps_augS (pv 5) (pv 2) get_list (pe_op op_mulW (pe_op op_sub (pv 4) (pv 3)) (pe_callB (cr_sumT rfl) (by rfl) B.sum (by decide +kernel) (pa_cons (pv 0) pa_nil))) ip_sub set_list)
      (pss_one (ps_ret (pe_cal C_without_divisor (hr.mono (by decide)) (pa_cons (pv 5) pa_nil))))))), ?_⟩
    refine ⟨.ref t, rfl, t, [_, _], rfl, SqT.of ht, rfl, _, _, rfl, _, _, rfl, rfl, ?_⟩
    refine ⟨.ref l, rfl, l, rfl, ⟨_, hl⟩, fun D hD => ?_⟩
    refine lc_it walk_tup (PvF (fun i => ns[i]?.map fun n => V.int (n * b)) H D) (PvF.zero hD) (fun i H' _ p => sqt_same hl p.s) (fun i x H' H2 hi pv hy => ?_) (fun H' pv => ?_)
    · obtain ⟨rfl, hx⟩ := hy
      obtain ⟨n, hn, rfl⟩ := map_get hx
      exact ⟨rfl, .int n, rfl, .int b, rfl, n, b, rfl, rfl, (fac_n hc ⟨by omega, k3⟩ hz (List.mem_of_getElem? hn)).1, pv.ext hD (by have := (List.getElem?_eq_some_iff.mp hn).1; have := hc.le8; omega) (sameR _) (by rw [hn]; rfl)⟩
    · have eD := pv.at_
      rw [List.length_map, fmL_map ns fun n => V.int (n * b)] at eD
      have e1 : ns.map (fun n => V.int (n * b)) = (ns.map fun n => n * b).map V.int := by rw [List.map_map]; rfl
      rw [e1] at eD
      have hl' := sqt_same hl pv.s
      have hg : (ns.map fun n => n * b)[c]? = some (ns.getD c 0 * b) := by
        rw [List.getElem?_map, List.getD_eq_getElem?_getD, List.getElem?_eq_getElem hcl]
        rfl
      refine ⟨.ref D, rfl, .int c, rfl, D, _, c, .int (ns.getD c 0 * b), rfl, rfl, SqL.of eD, by omega, ?_, .int b, rfl, .int a, rfl, b, a, rfl, rfl, .ref l, rfl, l, ns, rfl, hl', _, _, rfl, rfl, fac_w hc k hz, ?_⟩
      · rw [Int.toNat_natCast]
        exact get_map hg
      refine ⟨_, _, rfl, rfl, D, _, c, c, rfl, rfl, eD, ixN_of (by rw [List.length_map, List.length_map]; exact hcl), ?_⟩
      have e3 : L2.upd H' D (.lst (((ns.map fun n => n * b).map V.int).set c (.int (ns.getD c 0 * b - (b - a) * ns.sum)))) D = some (.lst ((bef ns a b c).map V.int)) := by
        rw [upd_same]
        unfold bef
        rw [List.map_set]
      have hA := bef_amt hc k hcl hf
      refine ⟨.ref D, rfl, D, bef ns a b c, rfl, e3, hA, by rw [bef_len]; have := hc.le8; omega, ?_, fun p H2 s2 np e4 => ?_⟩
      · have h1 := gcd_le_sum hA
        rw [bef_sum hcl] at h1
        have h2 : a * ns.sum ≤ 128 * 2 ^ 7000 := Int.mul_le_mul (by omega) (Int.le_of_lt hz) (Int.le_of_lt hc.amt.pos) (by decide)
        have h3 : (128 : Int) * 2 ^ 7000 < 2 ^ 8000 := by decide +kernel
        have h4 := abs_lt (n := ((gcdN (bef ns a b c) : Nat) : Int)) (by omega) (Int.lt_of_le_of_lt (Int.le_trans h1 h2) h3)
        rw [Int.natAbs_natCast] at h4
        exact h4
      · have sD : Same H (L2.upd H' D (.lst (((ns.map fun n => n * b).map V.int).set c (.int (ns.getD c 0 * b - (b - a) * ns.sum))))) := fun x u hx => by
          rw [upd_ne (ne_of_none hx hD)]
          exact pv.s x u hx
        exact q p H2 (sD.trans s2) (sD.free np) e4

end
end K34
end

section
set_option Elab.async false
set_option linter.all false
set_option maxRecDepth 100000
set_option maxHeartbeats 4000000
namespace K34
open PySem PySem.Spec PyProof.Rows L2 GxR Gx Ma Mc
section
variable {P : Program} {w : World} {K : PySem.W.Frag} {mg : Str → Option Value} {base : Heap}

/-- a top-up, as a tuple of a liquid and the place of a kept share -/
def StpO (H : Hp) (a : Addr) (s : Nat × Nat) : Prop := H a = some (.tup [.int (s.1 : Nat), .int (s.2 : Nat)])
def LSt (H : Hp) (q : Addr) (sts : List (Nat × Nat)) : Prop := ∃ as : List Addr, H q = some (.lst (as.map V.ref)) ∧ as.length = sts.length ∧ ∀ (i : Nat) (a : Addr) (s : Nat × Nat), as[i]? = some a → sts[i]? = some s → StpO H a s
def sp_pureL : Sp := fun vs H Q _ => ∃ l ns, vs = [V.ref l] ∧ TupN H l (ns.map V.int) ∧ Con ns ∧ ∀ p H', Same H H' → H p = none → LI H' p (if ns.sum = 1 then [((startOf ns : Nat) : Int)] else []) → Q (.ref p) H'
def sp_liquids_of : Sp := fun vs H Q _ => ∃ (q : Addr) (sts : List (Nat × Nat)), vs = [V.ref q] ∧ LSt H q sts ∧ sts.length ≤ 1000 ∧ ∀ p H', Same H H' → H p = none → LI H' p (rowI (sts.map (·.1))) → Q (.ref p) H'

theorem ok_pure_liquids {f : Addr} {fd : FuncData}  (F : Fun K "pure_liquids" "pure_liquids" s_pure_liquids f fd) (B : Bl mg) (C_is_pure : Cal P w K mg base 1 "is_pure" ["content"] (sp_is_pureT K)) : FnOk P w K mg base CX0 2 f fd ["content"] (sp_pureL) := by
  refine F.ok sc_pure_liquids (fun vs H Q E h => ?_) (fun cdv A outer s H vs Q E hr h => ?_)
  · obtain ⟨l, ns, rfl, _⟩ := h; rfl
  · obtain ⟨l, ns, rfl, hl, hc, q⟩ := h
    have nd := sc_pure_liquids.nd
    refine ⟨_, (pss_one (ps_ret (pe_ifExp (pt_val (pe_cal C_is_pure (hr.mono (by decide)) (pa_cons (pv 0) pa_nil))) (pe_lst (pa_cons (pe_bt PySem.F.slot_tuple_index PySem.F.type_tuple_index mt_tindex (pv 0) (pa_cons pe_int pa_nil)) pa_nil)) (pe_lst pa_nil)))), ?_⟩
    refine ⟨.ref l, rfl, l, ns, rfl, hl.sq, _, rfl, ?_⟩
    by_cases h1 : ns.sum = 1
    · rw [decide_eq_true h1]
      rw [if_pos h1] at q
      obtain ⟨s1, s2⟩ := start_at hc.nn h1
      refine iteT ⟨.ref l, rfl, ⟨l, _, rfl, hl⟩, l, ns, 1, startOf ns, rfl, rfl, hl.sq, s2, fun m hm e => start_min hm (getD_of e), by show 1 ≤ 16777216; decide, fun p np => ?_⟩
      exact q p _ (sameN np) np upd_same
    · rw [decide_eq_false h1]
      rw [if_neg h1] at q
      refine iteF ⟨by show 0 ≤ 16777216; decide, fun p np => ?_⟩
      exact q p _ (sameN np) np upd_same

theorem ok_liquids_of {f : Addr} {fd : FuncData}  (F : Fun K "liquids_of" "liquids_of" s_liquids_of f fd) (B : Bl mg)  : FnOk P w K mg base CX0 1 f fd ["steps"] (sp_liquids_of) := by
  refine F.ok sc_liquids_of (fun vs H Q E h => ?_) (fun cdv A outer s H vs Q E hr h => ?_)
  · obtain ⟨q0, sts, rfl, _⟩ := h; rfl
  · obtain ⟨q0, sts, rfl, ⟨as, ha, hl, hs⟩, hz, q⟩ := h
    have nd := sc_liquids_of.nd
    refine ⟨_, (pss_one (ps_ret (pe_lc (own := [("liquid", 1), ("_", 2)]) (g := gTup K 2 (gCons (gName 1) (gCons (gName 2) gNil))) rfl nd (pi_list (pv 0)) (blkOk_by (own := [("liquid", 1), ("_", 2)]) (N := ["steps", "liquid", "_"]) (sc := defScope s_liquids_of) (by decide +kernel)) (fun _ _ _ _ _ => (pg_tup (by rfl) (pgs_cons (pg_name (i := 1) nd rfl (Or.inl rfl)) (pgs_cons (pg_name (i := 2) nd rfl (Or.inl rfl)) pgs_nil)))) (fun _ _ _ _ _ => pts_nil) (fun _ _ _ _ _ => (pv 1))))), ?_⟩
    refine ⟨.ref q0, rfl, q0, rfl, ⟨_, SqL.of ha⟩, fun D hD => lc_fm (fun i => sts[i]?.map fun s => V.int (s.1 : Nat)) hD (SqL.of ha) (fun i x H' hx pv => ?_) (fun H' pv => ?_)⟩
    · rw [List.getElem?_map] at hx
      cases e : as[i]? with
      | none => rw [e] at hx; cases hx
      | some a =>
        rw [e] at hx
        cases hx
        have hi : i < sts.length := by rw [← hl]; exact (List.getElem?_eq_some_iff.mp e).1
        have hso := pv.s _ _ (hs i a sts[i] e (List.getElem?_eq_getElem hi))
        refine ⟨a, _, rfl, SqT.of hso, rfl, _, _, rfl, _, _, rfl, rfl, rfl, .int (sts[i].1 : Nat), rfl, pv.ext hD (by omega) (sameR _) ?_⟩
        rw [List.getElem?_eq_getElem hi]
        rfl
    · have eD := pv.at_
      rw [List.length_map, hl, fmL_map sts fun s => V.int (s.1 : Nat)] at eD
      refine q D H' pv.s hD ?_
      show H' D = _
      rw [eD]
      unfold rowI
      rw [List.map_map, List.map_map]
      rfl

end
end K34
end

section
set_option Elab.async false
set_option linter.all false
set_option maxRecDepth 100000
set_option maxHeartbeats 4000000
/-! Dicts with tuple keys again, by their own object and the places of the keys: a key may be any tuple that is read. -/
namespace Gx
open PySem PySem.Spec PyProof.Rows L2 GxR
/-- the dict at d: its keys, where each stands, its values -/
def DX (P : Program) (w : World) (d : Addr) (ks : List (List Key × Addr × V)) : HO := .ext fun h => (d == sysModules) = false ∧ ks.length ≤ sizeLine ∧ ∃ xs : List (List Key × Addr × Value),
  Paired (fun (p : List Key × Addr × V) (q : List Key × Addr × Value) => p.1 = q.1 ∧ p.2.1 = q.2.1 ∧ RelV p.2.2 q.2.2) ks xs ∧
  ∃ o es ep, h.get? d = some o ∧ o.ExactDict ∧ o.data = .dict es ep ∧ es.toList = xs.map (entryOfKey (tupleKind (mixKind P w))) ∧ (xs.map (·.1)).Nodup
theorem dx_ok {P : Program} {w : World} {H : Hp} {h : Heap} {d : Addr} {ks : List (List Key × Addr × V)} {xs : List (List Key × Addr × Value)} {o : Obj} {es : Array DictEntry} {ep : Nat} (hd : (d == sysModules) = false) (hl : ks.length ≤ sizeLine)
    (hp : Paired (fun (p : List Key × Addr × V) (q : List Key × Addr × Value) => p.1 = q.1 ∧ p.2.1 = q.2.1 ∧ RelV p.2.2 q.2.2) ks xs) (ho : h.get? d = some o) (hx : o.ExactDict) (hdat : o.data = .dict es ep) (he : es.toList = xs.map (entryOfKey (tupleKind (mixKind P w)))) (hn : (xs.map (·.1)).Nodup) : ObjOk P w H h d (DX P w d ks) :=
  ⟨⟨hd, hl, xs, hp, o, es, ep, ho, hx, hdat, he, hn⟩, ⟨o, ho⟩, fun h1 h2 ⟨a, b, xs, c, o, es, ep, e, r⟩ k => ⟨a, b, xs, c, o, es, ep, k o e, r⟩⟩
/-- where the keys stand, there are their tuples -/
def KeysAt (H : Hp) (ks : List (List Key × Addr × V)) : Prop := ∀ p ∈ ks, Rd H p.2.1 (.tup (p.1.map kV))
theorem key_rd {P : Program} {w : World} {H : Hp} {h : Heap} {a : Addr} {ks : List Key} (ok : HOk P w H h) (e : Rd H a (.tup (ks.map kV))) : (tupleKind (mixKind P w)).is h ks a := by
  obtain ⟨_, its, r, o, h1, h2, n, h3⟩ := (show ObjOk P w H h a (.tup (ks.map kV)) from e.ok ok)
  exact ⟨o, its.toArray, n, h1, h2, h3, by simpa using items_are r⟩
section
variable {X : Cx} {pins : List (Addr × Obj)} {σ : L2.St} {H : Hp} {s : Shared} {d : Addr} {ks : List (List Key × Addr × V)}
theorem dx_of (I : Inv X pins σ H s) (e : H d = some (DX X.prog X.w d ks)) (hk : KeysAt H ks) : (d == sysModules) = false ∧ ks.length ≤ sizeLine ∧ ∃ xs : List (List Key × Addr × Value),
    Paired (fun (p : List Key × Addr × V) (q : List Key × Addr × Value) => p.1 = q.1 ∧ p.2.1 = q.2.1 ∧ RelV p.2.2 q.2.2) ks xs ∧ s.heap.DictOfH (tupleKind (mixKind X.prog X.w)) d xs := by
  obtain ⟨hd, hl, xs, hp, o, es, ep, ho, hx, hdat, he, hn⟩ := (show ObjOk X.prog X.w H s.heap d (DX X.prog X.w d ks) from I.hok _ _ e).1
  refine ⟨hd, hl, xs, hp, o, es, ep, ho, hx, hdat, he, fun x hm => ?_, hn⟩
  have all : ∀ {l : List (List Key × Addr × V)} {m : List (List Key × Addr × Value)}, Paired (fun (p : List Key × Addr × V) (q : List Key × Addr × Value) => p.1 = q.1 ∧ p.2.1 = q.2.1 ∧ RelV p.2.2 q.2.2) l m → (∀ p ∈ l, Rd H p.2.1 (.tup (p.1.map kV))) → ∀ x ∈ m, (tupleKind (mixKind X.prog X.w)).is s.heap x.1 x.2.1 := by
    intro l m q
    induction q with
    | nil => intro _ x hx; exact nomatch hx
    | @cons p q ps qs hq t ih =>
      intro hl x hx
      rcases List.mem_cons.mp hx with e | hx
      · subst e
        have := hl p List.mem_cons_self
        rw [hq.1, hq.2.1] at this
        exact key_rd I.hok this
      · exact ih (fun p hp => hl p (List.mem_cons_of_mem _ hp)) x hx
  exact all hp hk x hm
end
def valX (ks : List (List Key × Addr × V)) (k : List Key) : Option V := (ks.find? fun p => decide (p.1 = k)).map (·.2.2)
def putX (ks : List (List Key × Addr × V)) (k : List Key) (b : Addr) (v : V) : List (List Key × Addr × V) :=
  if (ks.find? fun p => decide (p.1 = k)).isSome = true then ks.map fun p => if p.1 = k then (p.1, p.2.1, v) else p else ks ++ [(k, b, v)]
theorem putX_len (ks : List (List Key × Addr × V)) (k : List Key) (b : Addr) (v : V) : (putX ks k b v).length ≤ ks.length + 1 := by
  unfold putX
  split
  · rw [List.length_map]; omega
  · rw [List.length_append]; exact Nat.le_refl _
abbrev PX : List (List Key × Addr × V) → List (List Key × Addr × Value) → Prop := Paired fun (p : List Key × Addr × V) (q : List Key × Addr × Value) => p.1 = q.1 ∧ p.2.1 = q.2.1 ∧ RelV p.2.2 q.2.2
theorem px_val {ks : List (List Key × Addr × V)} {xs : List (List Key × Addr × Value)} (r : PX ks xs) (k : List Key) : RelO (valX ks k) ((atKey xs k).map (·.2)) := by
  induction r with
  | nil => exact True.intro
  | @cons p q ps qs h t ih =>
    obtain ⟨h1, _, h2⟩ := h
    unfold valX at ih ⊢
    by_cases e : p.1 = k
    · have e' : q.1 = k := h1.symm.trans e
      have b : atKey (q :: qs) k = some q.2 := by simp [atKey, List.find?_cons, e']
      rw [List.find?_cons, decide_eq_true e, b]
      exact h2
    · have e' : ¬ q.1 = k := fun z => e (h1.trans z)
      have b : atKey (q :: qs) k = atKey qs k := by simp [atKey, List.find?_cons, e']
      rw [List.find?_cons, decide_eq_false e, b]
      exact ih
theorem px_repl {ks : List (List Key × Addr × V)} {xs : List (List Key × Addr × Value)} (r : PX ks xs) (k : List Key) {y : V} {u : Value} (ry : RelV y u) :
    PX (ks.map fun p => if p.1 = k then (p.1, p.2.1, y) else p) (xs.map (putAt k u)) := by
  induction r with
  | nil => exact .nil
  | @cons p q ps qs h t ih =>
    rw [List.map_cons, List.map_cons]
    refine .cons ?_ ih
    obtain ⟨h1, h2, h3⟩ := h
    unfold putAt
    by_cases e : p.1 = k
    · rw [if_pos e, if_pos (h1.symm.trans e)]; exact ⟨h1, h2, ry⟩
    · rw [if_neg e, if_neg (fun z => e (h1.trans z))]; exact ⟨h1, h2, h3⟩
theorem px_put {ks : List (List Key × Addr × V)} {xs : List (List Key × Addr × Value)} (r : PX ks xs) (k : List Key) {b : Addr} {y : V} {u : Value} (ry : RelV y u) : PX (putX ks k b y) (storedH xs k b u) := by
  have e : (ks.find? fun p => decide (p.1 = k)).isSome = (atKey xs k).isSome := by
    have := (px_val r k).isSome_eq
    unfold valX at this
    rw [Option.isSome_map, Option.isSome_map] at this
    exact this
  unfold putX storedH
  rw [e]
  by_cases q : (atKey xs k).isSome = true
  · rw [if_pos q, if_pos q]; exact px_repl r k ry
  · rw [if_neg q, if_neg q]; exact Paired.snoc r ⟨rfl, rfl, ry⟩
section
variable {X : Cx} {pins : List (Addr × Obj)} {σ : L2.St} {H : Hp} {s : Shared} {d b : Addr} {ks : List (List Key × Addr × V)} {k : List Key} {v : V} {r : Value} {A : Around} {E : Value → Shared → Prop}
/-- d[k] = v by a comprehension -/
theorem dx_set {Q : Unit → Shared → Prop} (hu : A.units + 1 < cLine) (I : Inv X pins σ H s) (hD : H d = some (DX X.prog X.w d ks)) (hk : KeysAt H ks) (hz : ks.length < sizeLine) (hb : Rd H b (.tup (k.map kV))) (rv : RelV v r)
    (h : ∀ s', Inv X pins σ (L2.upd H d (DX X.prog X.w d (putX ks k b v))) s' → Q () s') : wpAny (model X.prog X.w) A (dictSet d (.ref b) r) Q E s := by
  obtain ⟨hd, z, xs, rel, dd⟩ := dx_of I hD hk
  have hx : xs.length ≤ sizeLine := by rw [← Paired.length rel]; exact z
  have hl : (putX ks k b v).length ≤ sizeLine := by have := putX_len ks k b v; omega
  refine wpAny_dictSet_heap (hsz := hx) (show A.units < cLine by omega) (key_rd I.hok hb) dd fun h' dd' hs => h _ ?_
  obtain ⟨q, es, ep, hq, h2, h3, h4, _, h5⟩ := dd'
  exact d_write I (by rw [hD]; exact True.intro) hs ⟨q, hq⟩ (dx_ok hd hl (px_put rel k rv) hq h2 h3 h4 h5)
/-- d[k] = v as a statement -/
theorem dx_setItem {Q : Unit → Shared → Prop} (hu : A.units + 1 < cLine) (I : Inv X pins σ H s) (hD : H d = some (DX X.prog X.w d ks)) (hk : KeysAt H ks) (hz : ks.length < sizeLine) (hb : Rd H b (.tup (k.map kV))) (rv : RelV v r)
    (h : ∀ s', Inv X pins σ (L2.upd H d (DX X.prog X.w d (putX ks k b v))) s' → Q () s') : wpAny (model X.prog X.w) A (setItem (.ref d) (.ref b) r) Q E s := by
  obtain ⟨hd, z, xs, rel, dd⟩ := dx_of I hD hk
  have hx : xs.length ≤ sizeLine := by rw [← Paired.length rel]; exact z
  have hl : (putX ks k b v).length ≤ sizeLine := by have := putX_len ks k b v; omega
  refine wpAny_setItem_heap (hsz := hx) (tupleKind_room_in1 hu) (key_rd I.hok hb) dd fun h' dd' hs => h _ ?_
  obtain ⟨q, es, ep, hq, h2, h3, h4, _, h5⟩ := dd'
  exact d_write I (by rw [hD]; exact True.intro) hs ⟨q, hq⟩ (dx_ok hd hl (px_put rel k rv) hq h2 h3 h4 h5)
/-- d[k] -/
theorem dx_getItem {Q : Value → Shared → Prop} (hu : A.units + 1 < cLine) (I : Inv X pins σ H s) (hD : H d = some (DX X.prog X.w d ks)) (hk : KeysAt H ks) (hb : Rd H b (.tup (k.map kV))) (l : valX ks k = some v)
    (h : ∀ w' s', Inv X pins σ H s' → RelV v w' → Q w' s') : wpAny (model X.prog X.w) A (getItem (.ref d) (.ref b)) Q E s := by
  obtain ⟨hd, z, xs, rel, dd⟩ := dx_of I hD hk
  obtain ⟨w', hw, rw'⟩ := RelO.some_of (v := v) (o := (atKey xs k).map (·.2)) (by rw [← l]; exact px_val rel k)
  obtain ⟨p, hp, hp2⟩ := Option.map_eq_some_iff.mp hw
  refine wpAny_getItem_heap (tupleKind_room_in1 hu) (key_rd I.hok hb) dd hp ?_
  rw [hp2]
  exact h w' _ (I.tok _) rw'
end
end Gx
end

section
set_option Elab.async false
set_option linter.all false
set_option maxRecDepth 100000
set_option maxHeartbeats 4000000
/-! The values and pairs of such dicts, one by one. -/
namespace Gx
open PySem PySem.Spec PyProof.Rows L2 GxR
section
variable {X : Cx} {pins : List (Addr × Obj)} {σ : L2.St} {H : Hp} {s : Shared} {d : Addr} {o : Obj}
theorem frzXV {ks : List (List Key × Addr × V)} (I : Inv X pins σ H s) (h : H d = some (.frz o (DX X.prog X.w d ks))) :
    (d == sysModules) = false ∧ s.heap.get? d = some o ∧ ∃ (es : Array DictEntry) (ep : Nat), o.data = .dict es ep ∧ s.heap.DictRaw d es ep ∧ es.size = ks.length ∧
      ∀ (i : Nat) (p : List Key × Addr × V) (hi : i < es.size), ks[i]? = some p → es[i].key = .ref p.2.1 ∧ RelV p.2.2 es[i].val := by
  have ok := (show ObjOk X.prog X.w H s.heap d (.frz o (DX X.prog X.w d ks)) from I.hok _ _ h)
  obtain ⟨hd, ⟨hs, z, xs, pr, o', es, ep, ho, hx, hdt, he, _⟩, _⟩ := ok
  rw [hd] at ho
  cases ho
  refine ⟨hs, hd, es, ep, hdt, ⟨_, hd, hx, hdt⟩, ?_, fun i p hi e => ?_⟩
  · have l1 : es.size = xs.length := size_of_entries he
    have l2 : ks.length = xs.length := Paired.length pr
    omega
  · obtain ⟨b, hb, e1, e2, e3⟩ := paired_get pr e
    have q := entry_at he i
    rw [hb, Array.getElem?_eq_getElem hi] at q
    have q := Option.some.inj q
    exact ⟨by rw [q, e2]; rfl, by rw [q]; exact e3⟩
end
/-- the values of a locked dict with tuple keys -/
def Itdx (P : Program) (w : World) (d : Addr) (o : Obj) (kvs : List (List Key × Addr × V)) : It :=
  ⟨fun i H => H d = some (.frz o (DX P w d kvs)) ∧ i < kvs.length, fun i H x H' => H' = H ∧ ∃ p, kvs[i]? = some p ∧ x = p.2.2, fun i H => H d = some (.frz o (DX P w d kvs)) ∧ kvs.length ≤ i⟩
/-- its pairs, each a new tuple of the key's own tuple and the value -/
def Itix (P : Program) (w : World) (d : Addr) (o : Obj) (kvs : List (List Key × Addr × V)) : It :=
  ⟨fun i H => H d = some (.frz o (DX P w d kvs)) ∧ i < kvs.length, fun i H x H' => ∃ (T : Addr) (p : List Key × Addr × V), kvs[i]? = some p ∧ x = .ref T ∧ H T = none ∧ H' = L2.upd H T (.tup [.ref p.2.1, p.2.2]), fun i H => H d = some (.frz o (DX P w d kvs)) ∧ kvs.length ≤ i⟩
section
variable {P : Program} {w : World} {K : PySem.W.Frag} {tg : Expr} {d : Addr} {o : Obj} {es : Array DictEntry} {ep : Nat}
theorem turn_valsX {kvs : List (List Key × Addr × V)} (it : Addr) (hod : o.data = .dict es ep) (hn : es.size = kvs.length) : Turn P w K tg (Itdx P w d o kvs) [it] it (fun i h => h.IsValIter it d i es.size ep) where
  mem := by simp
  obj := fun i h st b hb => by
    obtain rfl : b = it := by simpa using hb
    obtain ⟨oi, e, c, dd⟩ := st
    exact ⟨oi, e, fun v z => by rw [dd] at z; cases z⟩
  keep := fun i h h' st k => st.at fun oi e => k it (by simp) oi e
  item := by
    intro X hP hw hK hc i pins s σ H E I hf st ⟨hd, hi⟩
    subst hP hw hK
    obtain ⟨f0, f1, f2, f3, f4, f5⟩ := hf it (by simp)
    obtain ⟨hs, hgd, es', ep', hdt, raw, hsz, ent⟩ := frzXV I hd
    obtain ⟨rfl, rfl⟩ := dict_ep hod hdt
    have hi' : i < es'.size := by omega
    obtain ⟨_, ru⟩ := ent i _ hi' (List.getElem?_eq_getElem hi)
    refine PySem.wpAny_pyNext_values_item_raw st raw hi' fun h' st' sb => ?_
    have I1 : Inv X pins σ H { s with heap := h' } := I.turned (t' := s.toks) (fun b ob hb e => (sb.2 b hb).trans e) f0 f1 f3 f4 f5
    obtain ⟨oi, e, c, dd⟩ := id st'
    exact ⟨_, rfl, go_of (s := { s with heap := h' }) e c dd (by decide) ⟨_, H, I1, ru, ⟨rfl, _, List.getElem?_eq_getElem hi, rfl⟩, st', fun b hb => (hf b hb).1⟩⟩
  done := by
    intro X hP hw hK hc i pins s σ H E I hf st ⟨hd, hi⟩
    subst hP hw hK
    obtain ⟨f0, f1, f2, f3, f4, f5⟩ := hf it (by simp)
    obtain ⟨hs, hgd, es', ep', hdt, raw, hsz, ent⟩ := frzXV I hd
    obtain ⟨rfl, rfl⟩ := dict_ep hod hdt
    exact PySem.wpAny_pyNext_values_end_raw (I.ok.hd hc) st raw (by omega) fun h' eb => ⟨rfl, I.turned (t' := s.toks) (fun b ob hb e => eb b ob hb e) f0 f1 f3 f4 f5⟩
  self := fun A i s Q E st h => wpAny_pyIter_valiter st h
theorem turn_itemsX {kvs : List (List Key × Addr × V)} {elts : List Expr} {kk : Nat} {tpos : Pos} (it : Addr) (hod : o.data = .dict es ep) (hn : es.size = kvs.length) :
    Turn P w K (.Tuple elts kk tpos) (Itix P w d o kvs) [it] it (fun i h => ∃ ok ov, IsItemIter h it d i es.size ep ok ov) where
  mem := by simp
  obj := fun i h st b hb => by
    obtain rfl : b = it := by simpa using hb
    obtain ⟨ok, ov, e⟩ := st
    exact ⟨_, e, fun v z => nomatch z⟩
  keep := fun i h h' st k => let ⟨ok, ov, e⟩ := st; ⟨ok, ov, k it (by simp) _ e⟩
  item := by
    intro X hP hw hK hc i pins s σ H E I hf st ⟨hd, hi⟩
    subst hP hw hK
    obtain ⟨hs, hgd, es', ep', hdt, raw, hsz, ent⟩ := frzXV I hd
    obtain ⟨rfl, rfl⟩ := dict_ep hod hdt
    have hi' : i < es'.size := by omega
    obtain ⟨eq, ru⟩ := ent i _ hi' (List.getElem?_eq_getElem hi)
    obtain ⟨ok, ov, he⟩ := st
    have hlt : it < s.heap.objs.size := Heap.lt_size he
    refine DT.nextI he raw hi' fun h' ho hT hz hk => ?_
    refine ⟨_, rfl, wpAny_letOwnedTupleGo_items (s := { s with heap := h' }) ho fun h'' he' sb => ?_⟩
    have hT2 : h''.get? s.heap.objs.size = some { cls := .type "tuple", data := .seq #[es'[i].key, es'[i].val] } := (sb.2 _ (Nat.ne_of_gt hlt)).trans hT
    have new : ObjOk X.prog X.w (L2.upd H s.heap.objs.size (.tup [.ref kvs[i].2.1, kvs[i].2.2])) h'' s.heap.objs.size (.tup [.ref kvs[i].2.1, kvs[i].2.2]) :=
      ⟨by show 2 ≤ sizeLine; decide, [es'[i].key, es'[i].val], .cons (show es'[i].key = Value.ref kvs[i].2.1 from eq) (.cons ru .nil), ⟨_, hT2, rfl, _, rfl⟩⟩
    have I1 : Inv X pins σ (L2.upd H s.heap.objs.size (.tup [.ref kvs[i].2.1, kvs[i].2.2])) { s with heap := h'' } :=
      I.turnedNew (t' := s.toks) (ch := [it]) (fun b ob hb e => (sb.2 b (by simpa using hb)).trans (hk b ob (by simpa using hb) e)) hf (Nat.le_refl _) new
    refine ⟨.ref s.heap.objs.size, _, I1, rfl, ⟨_, _, List.getElem?_eq_getElem hi, rfl, I.hok.fresh (Nat.le_refl _), rfl⟩, ⟨_, _, he'⟩, fun b hb => ?_⟩
    obtain rfl : b = it := by simpa using hb
    rw [L2.upd_ne (Nat.ne_of_lt hlt)]
    exact (hf b (by simp)).1
  done := by
    intro X hP hw hK hc i pins s σ H E I hf st ⟨hd, hi⟩
    subst hP hw hK
    obtain ⟨f0, f1, f2, f3, f4, f5⟩ := hf it (by simp)
    obtain ⟨hs, hgd, es', ep', hdt, raw, hsz, ent⟩ := frzXV I hd
    obtain ⟨rfl, rfl⟩ := dict_ep hod hdt
    obtain ⟨ok, ov, he⟩ := st
    exact DT.endI (I.ok.hd hc) he raw (by omega) fun h' eb => ⟨rfl, I.turned (t' := s.toks) (fun b ob hb e => eb b ob hb e) f0 f1 f3 f4 f5⟩
  self := fun A i s Q E st h => let ⟨_, _, e⟩ := st; PySem.W.kcp_self e h
end
def iValsX (P : Program) (w : World) (td : TE) : TI := fun σ H R => td σ H fun x H1 => ∃ d o kvs, x = .ref d ∧ H1 d = some (.frz o (DX P w d kvs)) ∧ R (Itdx P w d o kvs) H1
def iItemsX (P : Program) (w : World) (td : TE) : TI := fun σ H R => td σ H fun x H1 => ∃ d o kvs, x = .ref d ∧ H1 d = some (.frz o (DX P w d kvs)) ∧ R (Itix P w d o kvs) H1
section
variable {X : Cx} {tg e : Expr} {td : TE} {apos cpos : Pos}
theorem raw_noDictX {h : Heap} {d : Addr} {es : Array DictEntry} {ep : Nat} (x : h.DictRaw d es ep) : ∀ b, Value.ref d = .ref b → ∃ ob, h.get? b = some ob ∧ ob.dict = none := fun b z => by
  cases z
  obtain ⟨o, ho, hx, _⟩ := x
  exact ⟨o, ho, hx.2.1⟩
/-- for x in d.values() -/
theorem pi_valuesX (he : PE X e td) (hbase : attributeBase e "values" X.env (eval e X.env) = eval e X.env := by rfl) (hline : (apos.endLine == cpos.line) = true := by rfl) : PI X tg (.Call (.Attribute e "values" apos) [] [] cpos) (iValsX X.prog X.w td) := by
  refine ⟨fun pins s σ H R I h => ?_⟩
  refine wpAny_Call_method (T := "dict") (id := "dict.values") hbase rfl hline F.plainAttrs_dict F.slot_dict_values F.type_dict_values (thn (he.run pins s σ H _ I h) fun u s1 ⟨x, H1, I1, rx, d, o, kvs, ex, hd, q⟩ => ?_)
  subst ex
  obtain rfl : u = Value.ref d := rx
  obtain ⟨hs, hgd, es, ep, hdt, raw, hsz, ent⟩ := frzXV I1 hd
  refine ⟨raw.typeIs, raw_noDictX raw, ?_⟩
  refine method_meetsIn F.slot_dict_values F.entry_dict_values rfl (PySem.evalArgs_none ⟨rfl, raw.typeIs, F.args_dict_values_1 _, _, PySem.meets_dict_values_raw d hs, ⟨es, ep, raw⟩, ?_⟩)
  have I2 : Inv X pins σ H1 { s1 with heap := s1.heap.push { cls := .type "dict_values", data := .fields #[.ref d] } } := I1.kept (t' := s1.toks) fun b ob q => Heap.get?_push_of_some _ q
  exact PySem.wpAny_pyIter_values_raw (d := d) ⟨_, Heap.get?_push_size _ rfl, rfl, rfl⟩ (raw.at fun o e => Heap.get?_push_of_some _ e) (pi_one (tk := s1.toks) I2 _ (turn_valsX _ hdt hsz) ⟨_, Heap.get?_push_size _ rfl, rfl, rfl⟩ q)
/-- for k, x in d.items() -/
theorem pi_itemsX {elts : List Expr} {kk : Nat} {tpos : Pos} (he : PE X e td) (hbase : attributeBase e "items" X.env (eval e X.env) = eval e X.env := by rfl) (hline : (apos.endLine == cpos.line) = true := by rfl) :
    PI X (.Tuple elts kk tpos) (.Call (.Attribute e "items" apos) [] [] cpos) (iItemsX X.prog X.w td) := by
  refine ⟨fun pins s σ H R I h => ?_⟩
  refine wpAny_Call_method (T := "dict") (id := "dict.items") hbase rfl hline F.plainAttrs_dict F.slot_dict_items F.type_dict_items (thn (he.run pins s σ H _ I h) fun u s1 ⟨x, H1, I1, rx, d, o, kvs, ex, hd, q⟩ => ?_)
  subst ex
  obtain rfl : u = Value.ref d := rx
  obtain ⟨hs, hgd, es, ep, hdt, raw, hsz, ent⟩ := frzXV I1 hd
  refine ⟨raw.typeIs, raw_noDictX raw, ?_⟩
  refine method_meetsIn F.slot_dict_items F.entry_dict_items rfl (PySem.evalArgs_none ⟨rfl, raw.typeIs, F.args_dict_items_1 _, _, DT.meetsItems hs, raw, ?_⟩)
  have I2 : Inv X pins σ H1 { s1 with heap := s1.heap.push { cls := .type "dict_items", data := .fields #[.ref d] } } := I1.kept (t' := s1.toks) fun b ob q => Heap.get?_push_of_some _ q
  exact DT.iterI (d := d) ⟨_, Heap.get?_push_size _ rfl, rfl, rfl⟩ (raw.at fun o e => Heap.get?_push_of_some _ e) (pi_one (tk := s1.toks) I2 _ (turn_itemsX _ hdt hsz) ⟨.none, .none, Heap.get?_push_size _ rfl⟩ q)
end
section
variable {P : Program} {w : World} {d : Addr} {o : Obj}
end
end Gx
end

section
set_option Elab.async false
set_option linter.all false
set_option maxRecDepth 100000
set_option maxHeartbeats 4000000
/-! {k: v for target in iter}, the keys any tuples that are read: D the new dict. -/
namespace Gx
open PySem PySem.Spec PyProof.Rows L2 GxR
/-- what the turns owe: L of them -/
def rDcX (P : Program) (w : World) (g : TG) (tk tv : TE) (vs : List Nat) (σ : L2.St) (Q : VK) : It → Hp → Prop := fun J H1 => ∃ L : Nat, ∀ D, H1 D = none → ∃ Pv : Nat → Hp → Prop, Pv 0 (L2.upd H1 D (DX P w D [])) ∧
  (∀ H, Pv L H → J.stop L H ∧ Q (.ref D) H) ∧
  ∀ i H, i < L → Pv i H → J.go i H ∧ ∀ y H', J.yld i H y H' → g y (wipe σ vs) H' fun σ1 H1' => wipe σ1 vs = wipe σ vs ∧ tk σ1 H1' fun yk H4 => tv σ1 H4 fun z H5 =>
    ∃ kvs k b, yk = .ref b ∧ Rd H5 b (.tup (k.map kV)) ∧ H5 D = some (DX P w D kvs) ∧ KeysAt H5 kvs ∧ kvs.length < sizeLine ∧ Pv (i + 1) (L2.upd H5 D (DX P w D (putX kvs k b z)))
def tDcX (P : Program) (w : World) (wi : TI) (g : TG) (tk tv : TE) (vs : List Nat) : TE := fun σ H Q => wi σ H (rDcX P w g tk tv vs σ Q)
section
variable {X : Cx}
theorem dx_empty {P : Program} {w : World} {H : Hp} (h : Heap) (hb : sysModules < h.objs.size) : ObjOk P w H (h.push { cls := .type "dict", data := .dict #[] }) h.objs.size (DX P w h.objs.size []) :=
  dx_ok (beq_eq_false_iff_ne.mpr (Nat.ne_of_gt hb)) (Nat.zero_le _) .nil (Heap.get?_push_size _ rfl) ⟨rfl, rfl, rfl⟩ rfl rfl List.nodup_nil
theorem dcX_core {pins : List (Addr × Obj)} {s : Shared} {σ : L2.St} {H : Hp} {Q : VK} {pos' : Pos} {use : Option (Value → Sem Unit)} {Qf : Value → Shared → Prop} {kx vx tg iter : Expr} {scope : Scope} {own : List (PySem.Str × Nat)} {pos : Pos} {wi : TI} {g : TG} {tk tv : TE} (hu : X.A.units + 1 < cLine) (hc : X.calm = true) (hN : X.N.Nodup) (hi : PI X tg iter wi) (ok : BlkOk X.N X.env.scope scope own)
    (hg : ∀ (s : Shared) (H : Hp) (C : Addr) (cl : List (PySem.Str × Addr)) (fp : List Addr), PG (X.blk s H scope (compEnvC scope cl C X.env) fp) tg g)
    (hk : ∀ (s : Shared) (H : Hp) (C : Addr) (cl : List (PySem.Str × Addr)) (fp : List Addr), PE (X.blk s H scope (compEnvC scope cl C X.env) fp) kx tk)
    (he : ∀ (s : Shared) (H : Hp) (C : Addr) (cl : List (PySem.Str × Addr)) (fp : List Addr), PE (X.blk s H scope (compEnvC scope cl C X.env) fp) vx tv) (hs : ∀ x, foldedSetIterable iter X.env x = pure x) (I : Inv X pins σ H s) (h : (tDcX X.prog X.w wi g tk tv (own.map (·.2))) σ H Q)
    (hRR : ∀ D C s' m H', Inv X pins σ H' s' → Q (.ref D) H' → s'.heap.Ns C m → FpOk X pins H' C → compPost (model X.prog X.w) X.A X.xe use Qf (.ref D) C (.ok .next) s') :
    wpAny (model X.prog X.w) X.A (comprehension (.DictComp kx vx [⟨tg, iter, [], 0⟩] scope pos) scope X.env pos' newDict false (eval iter X.env) use) Qf X.xe s := by
  have hclo : ∀ y ∈ scope.names, y.2 = .free → ∃ c, X.env.cells.lookup y.1 = some c := fun y hy e =>
    (ok.free y hy e).elim (fun k => I.ok.has _ (.inl k)) fun k => I.ok.has _ (.inr k)
  refine wpAny_comprehension_free (use := use) rfl hs (closure_ok hclo) ok.kind (fun y hy e => (ok.uniq y hy).trans (by rw [e])) (thn (hi.run pins s σ H _ I h) fun xv s1 hx => thn hx fun itv s2 h2 => ?_)
  obtain ⟨it, fp, tn, J, H2, rfl, I2, T, st2, f2, L, q⟩ := h2
  refine wpAny_newObj_type (newEnv_comp ?_)
  obtain ⟨Pv, p0, hstop, hstep⟩ := q s2.heap.objs.size I2.fresh
  generalize hD : s2.heap.objs.size = D at p0 hstop hstep ⊢
  have fpD : ∀ b ∈ fp, b < D := fun b hb => by
    obtain ⟨o, e, _⟩ := T.obj _ _ st2 b hb
    rw [← hD]
    exact Heap.lt_size e
  generalize hs3 : ({ s2 with heap := s2.heap.push { cls := .type "dict", data := .dict #[] } } : Shared) = s3
  have heap3 : s3.heap = s2.heap.push { cls := .type "dict", data := .dict #[] } := by rw [← hs3]
  have old3 : ∀ b o, s2.heap.get? b = some o → s3.heap.get? b = some o := fun b o e => by rw [heap3]; exact Heap.get?_push_of_some _ e
  have I3 : Inv X pins σ (L2.upd H2 D (DX X.prog X.w D [])) s3 := by
    rw [← hs3, ← hD]
    exact I2.laid (t' := s2.toks) (fun b o e => Heap.get?_push_of_some _ e) (Nat.le_refl _) (dx_empty s2.heap I2.big)
  have ok3 : ∀ b ∈ fp, FpOk X pins (L2.upd H2 D (DX X.prog X.w D [])) b ∧ b < s3.heap.objs.size := fun b hb => by
    refine ⟨⟨(L2.upd_ne (Nat.ne_of_lt (fpD b hb))).trans (f2 b hb).1, (f2 b hb).2⟩, ?_⟩
    rw [heap3, Heap.size_push, hD]
    exact Nat.lt_succ_of_lt (fpD b hb)
  generalize L2.upd H2 D (DX X.prog X.w D []) = H3 at I3 p0 ok3
  have B3 := block_start I3 ok hN ok3
  have pg := hg s3 H3 s3.heap.objs.size (cellsFrom (s3.heap.objs.size + 1) scope.names (cloFrom X.env.cells scope.names [])) fp
  have pk := hk s3 H3 s3.heap.objs.size (cellsFrom (s3.heap.objs.size + 1) scope.names (cloFrom X.env.cells scope.names [])) fp
  have pe := he s3 H3 s3.heap.objs.size (cellsFrom (s3.heap.objs.size + 1) scope.names (cloFrom X.env.cells scope.names [])) fp
  show codeAny _ _ (.compStart (.DictComp kx vx [⟨tg, iter, [], 0⟩] scope pos) 0 (.ref it) (.ref D) (compEnvC scope (cellsFrom (s3.heap.objs.size + 1) scope.names (cloFrom X.env.cells scope.names [])) s3.heap.objs.size X.env)) (compPost (model X.prog X.w) X.A X.xe use _ (.ref D) s3.heap.objs.size) { s3 with heap := pushCells (s3.heap.push { cls := .type "dict", data := .dict #[] }) scope.names }
  generalize hce : compEnvC scope (cellsFrom (s3.heap.objs.size + 1) scope.names (cloFrom X.env.cells scope.names [])) s3.heap.objs.size X.env = ce at B3 pg pk pe ⊢
  have cL : ce.locals = s3.heap.objs.size := by rw [← hce]; rfl
  generalize hs4 : ({ s3 with heap := pushCells (s3.heap.push { cls := .type "dict", data := .dict #[] }) scope.names } : Shared) = s4 at B3 ⊢
  have st4 : tn 0 s4.heap := T.keep _ _ _ st2 fun b _ o e => by
    rw [← hs4]
    exact pushCells_keeps _ _ _ _ (Heap.get?_push_of_some _ (old3 b o e))
  have foot : ∀ {σ' : L2.St} {H' : Hp} {s' : Shared}, Inv (X.blk s3 H3 scope ce fp) [] σ' H' s' → (∀ b ∈ fp, H' b = none) → ∀ b ∈ fp, FpOk (X.blk s3 H3 scope ce fp) [] H' b := fun I' hn b hb => by
    have z := I'.ok.exf b hb
    exact ⟨hn b hb, z.1, I'.ok.exfs b hb, .inl hb, fun x c e => z.2 x c e, fun p hp => absurd (show p ∈ ([] : List (Addr × Obj)) ++ [] from hp) (by simp)⟩
  have turns : codeAny (model X.prog X.w) X.A (.compLoop (.DictComp kx vx [⟨tg, iter, [], 0⟩] scope pos) 0 (.ref it) (.ref D) ce) (compPost (model X.prog X.w) X.A X.xe use Qf (.ref D) s3.heap.objs.size) s4 := by
    refine compLoop_anyD (fun n s' => ∃ i H', n = L - i ∧ i ≤ L ∧ Inv (X.blk s3 H3 scope ce fp) [] (wipe σ (own.map (·.2))) H' s' ∧ tn i s'.heap ∧ (∀ b ∈ fp, H' b = none) ∧ Pv i H') ?_ L ⟨0, H3, rfl, Nat.zero_le _, B3, st4, fun b hb => (ok3 b hb).1.1, p0⟩
    rintro n s5 ⟨i, H5, rfl, hi, I5, st5, n5, p5⟩
    by_cases hlt : i < L
    · obtain ⟨go, step⟩ := hstep i H5 hlt p5
      refine thnF (T.item (X.blk s3 H3 scope ce fp) rfl rfl rfl hc i [] s5 _ H5 (fun _ _ => False) I5 (foot I5 n5) st5 go) fun r s6 ⟨u, hr, h6⟩ => ?_
      subst hr
      refine thnF h6 fun _ s7 ⟨x, H7, I7, r7, y7, st7, n7⟩ => ?_
      refine thnF (pg.run _ s7 _ H7 x u _ (I7.pinned (foot I7 n7) (T.obj _ _ st7)) r7 (step x H7 y7)) fun _ s8 ⟨σ8, H8, I8, kp, q8⟩ => ?_
      rw [List.forIn_nil]
      refine wpAny_pure ?_
      simp only [if_true]
      refine thnF (pk.run _ s8 σ8 H8 _ I8 q8) fun zk s9 ⟨yk, H9, I9, rk, q9⟩ => ?_
      refine thnF (pe.run _ s9 σ8 H9 _ I9 q9) fun z s10 ⟨yv, H10, I10, rv, kvs, k, b0, ek, hb, hD10, hK10, hz, p10⟩ => ?_
      subst ek
      obtain rfl : zk = Value.ref b0 := rk
      refine dx_set (X := X.blk s3 H3 scope ce fp) hu I10 hD10 hK10 hz hb rv fun s11 I11 => ?_
      have pinned : ∀ b ∈ fp, ∀ o, s7.heap.get? b = some o → s11.heap.get? b = some o ∧ L2.upd H10 D (DX X.prog X.w D (putX kvs k b0 yv)) b = none := fun b hb o e =>
        have z := I11.pin (b, o) (List.mem_append_right _ (List.mem_append_right _ (mem_pinsAt hb e)))
        ⟨z.1, z.2.1⟩
      have hl : (wipe σ (own.map (·.2))).length = σ8.length := by rw [← kp, wipe_length]
      refine ⟨L - (i + 1), by omega, i + 1, _, rfl, hlt, (I11.unpinned (pins := [])).weak hl (fun j v e => ?_), T.keep _ _ _ st7 fun b hb o e => (pinned b hb o e).1, fun b hb => ?_, p10⟩
      · rw [← kp] at e
        exact (wipe_some e).1
      · obtain ⟨o, e, _⟩ := T.obj _ _ st7 b hb
        exact (pinned b hb o e).2
    · have e : i = L := by omega
      subst e
      obtain ⟨stop, hQ⟩ := hstop H5 p5
      refine thnF (T.done (X.blk s3 H3 scope ce fp) rfl rfl rfl hc i [] s5 _ H5 (fun _ _ => False) I5 (foot I5 n5) st5 stop) fun r s6 ⟨hr, I6⟩ => ?_
      subst hr
      have I7 : Inv X pins σ H5 s6 := I3.call' (ch := fp) I6.os I6.base I6.hok I6.bare fun b hb => by
        have z := (ok3 b hb).1.2
        exact ⟨z.2.2.1, z.1, z.2.2.2.1, z.2.2.2.2⟩
      have nC : H5 s3.heap.objs.size = none := by rw [← cL]; exact I6.free
      obtain ⟨m, hn, _⟩ := I6.loc
      have hn' : s6.heap.Ns ce.locals m := hn
      rw [cL] at hn'
      exact hRR D s3.heap.objs.size s6 m H5 I7 hQ hn' (I3.fpOk (Nat.le_refl _) nC)
  exact codeAny_compStart_dict turns (T.self X.A 0 _ _ _ st4 turns)
/-- as a value -/
theorem pe_dcX {kx vx tg iter : Expr} {scope : Scope} {own : List (PySem.Str × Nat)} {pos : Pos} {wi : TI} {g : TG} {tk tv : TE} (hu : X.A.units + 1 < cLine) (hc : X.calm = true) (hN : X.N.Nodup) (hi : PI X tg iter wi) (ok : BlkOk X.N X.env.scope scope own)
    (hg : ∀ (s : Shared) (H : Hp) (C : Addr) (cl : List (PySem.Str × Addr)) (fp : List Addr), PG (X.blk s H scope (compEnvC scope cl C X.env) fp) tg g)
    (hk : ∀ (s : Shared) (H : Hp) (C : Addr) (cl : List (PySem.Str × Addr)) (fp : List Addr), PE (X.blk s H scope (compEnvC scope cl C X.env) fp) kx tk)
    (he : ∀ (s : Shared) (H : Hp) (C : Addr) (cl : List (PySem.Str × Addr)) (fp : List Addr), PE (X.blk s H scope (compEnvC scope cl C X.env) fp) vx tv) (hs : ∀ x, foldedSetIterable iter X.env x = pure x := by intro _; rfl) :
    PE X (.DictComp kx vx [⟨tg, iter, [], 0⟩] scope pos) (tDcX X.prog X.w wi g tk tv (own.map (·.2))) := by
  refine ⟨fun pins s σ H Q I h => ?_⟩
  rw [arm_eval_DictComp]
  refine dcX_core hu hc hN hi ok hg hk he hs I h fun D C s' m H' I' q hn f => ⟨m, hn, fun h'' sb => ?_⟩
  obtain ⟨f0, f1, f2, f3, f4, f5⟩ := f
  exact ⟨.ref D, H', I'.turned (t' := s'.toks) (fun b o hb e => (sb.2 b hb).trans e) f0 f1 f3 f4 f5, rfl, q⟩
/-- as what a name is to hold -/
theorem ps_setDcX {i : Nat} {y : Str} {py spos : Pos} {kx vx tg iter : Expr} {scope : Scope} {own : List (PySem.Str × Nat)} {pos : Pos} {wi : TI} {g : TG} {tk tv : TE} (hy : X.N[i]? = some y) (hyl : X.env.scope.names.lookup y = some .local) (hsw : swapsWith (.DictComp kx vx [⟨tg, iter, [], 0⟩] scope pos) (some (.Name y py)) spos.line X.env = pure true) (hu : X.A.units + 1 < cLine) (hc : X.calm = true) (hN : X.N.Nodup) (hi : PI X tg iter wi) (ok : BlkOk X.N X.env.scope scope own)
    (hg : ∀ (s : Shared) (H : Hp) (C : Addr) (cl : List (PySem.Str × Addr)) (fp : List Addr), PG (X.blk s H scope (compEnvC scope cl C X.env) fp) tg g)
    (hk : ∀ (s : Shared) (H : Hp) (C : Addr) (cl : List (PySem.Str × Addr)) (fp : List Addr), PE (X.blk s H scope (compEnvC scope cl C X.env) fp) kx tk)
    (he : ∀ (s : Shared) (H : Hp) (C : Addr) (cl : List (PySem.Str × Addr)) (fp : List Addr), PE (X.blk s H scope (compEnvC scope cl C X.env) fp) vx tv) (hs : ∀ x, foldedSetIterable iter X.env x = pure x := by intro _; rfl) :
    PS X (.Assign [.Name y py] (.DictComp kx vx [⟨tg, iter, [], 0⟩] scope pos) spos) (tAsg (tDcX X.prog X.w wi g tk tv (own.map (·.2))) (gName i)) := by
  refine ⟨fun pins s σ H D I h => ?_⟩
  rw [exec_Assign_Name_used _ _ _ _ hsw]
  refine wpAny_bind (wpAny_standAt (wpAny_bind ?_))
  show wpAny _ X.A (do let _ ← comprehension (.DictComp kx vx [⟨tg, iter, [], 0⟩] scope pos) scope X.env (firstIterPos [⟨tg, iter, [], 0⟩] pos) newDict false (eval iter X.env) (some (assign (.Name y py) X.env))) _ _ s
  have h : (tDcX X.prog X.w wi g tk tv (own.map (·.2))) σ H (fun x H1 => gName i x σ H1 D.nx) := h
  refine wpAny_bind (thn (dcX_core (Qf := fun _ s' => SP X pins D .next s') hu hc hN hi ok hg hk he hs I h fun L C s' m H' I' q hn f => ?_) fun _ s' hq => wpAny_pure (wpAny_pure hq))
  show wpAny _ _ (assign (.Name y py) X.env (.ref L)) _ _ _
  refine wpAny_assign_Name (store_ok2 (v := V.ref L) I' hN hy (.inl hyl) rfl (fun s2 I2 ⟨a, sb, ha⟩ => ?_) (.inr hyl))
  obtain ⟨f0, f1, f2, f3, f4, f5⟩ := f
  have haC : C ≠ a := by
    rcases ha with z | z
    · rw [z]; exact f1
    · exact fun e => f4 y a z e.symm
  exact ⟨m, hn.sameBut sb haC, fun h3 sb3 => ⟨_, H', I2.turned (t' := s2.toks) (fun b o hb e => (sb3.2 b hb).trans e) f0 f1 f3 f4 f5, q⟩⟩
end
end Gx
end

section
set_option Elab.async false
set_option linter.all false
set_option maxRecDepth 100000
set_option maxHeartbeats 4000000
/-! Such dicts: {}, d[k], d[k] = v, sum(d.values()). -/
namespace Gx
open PySem PySem.Spec PyProof.Rows L2 GxR
def tDNewX (P : Program) (w : World) : TE := fun _ H Q => ∀ p, H p = none → Q (.ref p) (L2.upd H p (DX P w p []))
def tDGetX (P : Program) (w : World) (td ty : TE) : TE := fun σ H Q => td σ H fun x H1 => ty σ H1 fun y H2 => ∃ a ks b k v, x = .ref a ∧ y = .ref b ∧ H2 a = some (DX P w a ks) ∧ KeysAt H2 ks ∧ Rd H2 b (.tup (k.map kV)) ∧ valX ks k = some v ∧ Q v H2
def sDPutX (P : Program) (w : World) (td ty tv : TE) : TS := fun D σ H => tv σ H fun v H1 => td σ H1 fun x H2 => ty σ H2 fun y H3 => ∃ a ks b k, x = .ref a ∧ y = .ref b ∧ H3 a = some (DX P w a ks) ∧ KeysAt H3 ks ∧ ks.length < sizeLine ∧ Rd H3 b (.tup (k.map kV)) ∧ D.nx σ (L2.upd H3 a (DX P w a (putX ks k b v)))
section
variable {X : Cx} {o i e value : Expr} {pos pos' tpos : Pos} {td ty tv : TE}
theorem pe_dnewX : PE X (.Dict [] [] pos) (tDNewX X.prog X.w) := ⟨fun pins s σ H Q I h =>
  wpAny_Dict_empty ⟨.ref s.heap.objs.size, _, I.laid (a := s.heap.objs.size) (o := DX X.prog X.w s.heap.objs.size []) (t' := s.toks) (fun _ _ q => Heap.get?_push_of_some _ q) (Nat.le_refl _) (dx_empty s.heap I.big), rfl, h _ (I.hok.fresh (Nat.le_refl _))⟩⟩
theorem dx_typeIs {pins : List (Addr × Obj)} {σ : L2.St} {H : Hp} {s : Shared} {d : Addr} {ks : List (List Key × Addr × V)} (I : Inv X pins σ H s) (e : H d = some (DX X.prog X.w d ks)) : s.TypeIs (.ref d) "dict" := by
  obtain ⟨_, _, _, _, o, _, _, ho, hx, _⟩ := (show ObjOk X.prog X.w H s.heap d (DX X.prog X.w d ks) from I.hok _ _ e).1
  exact ⟨o, ho, hx.1⟩
theorem pe_dgetX (hu : X.A.units + 1 < cLine) (ho : PE X o td) (hi : PE X i ty) (hs : NoSl i) : PE X (.Subscript o i pos) (tDGetX X.prog X.w td ty) := by
  refine ⟨fun pins s σ H Q I h => ?_⟩
  refine subD_of PySem.F.slot_dict_getitem.lookup hs (thn (ho.run pins s σ H _ I h) fun u s1 ⟨x, H1, I1, rx, q1⟩ => thn (hi.run pins s1 σ H1 _ I1 q1) fun iv s2 ⟨y, H2, I2, ry, a, ks, b, k, v, ex, ey, hd, hk, hb, l, q2⟩ => ?_)
  subst ex ey
  obtain rfl : u = Value.ref a := rx
  obtain rfl : iv = Value.ref b := ry
  exact ⟨dx_typeIs I2 hd, dx_getItem hu I2 hd hk hb l fun w' s3 I3 rw' => ⟨v, H2, I3, rw', q2⟩⟩
theorem ps_dputX (hu : X.A.units + 1 < cLine) (ho : PE X o td) (hi : PE X i ty) (hv : PE X value tv) (hs : swapsWith value (some (.Subscript o i pos')) pos.line X.env = pure false) :
    PS X (.Assign [.Subscript o i pos'] value pos) (sDPutX X.prog X.w td ty tv) := by
  refine ⟨fun pins s σ H D I h => ?_⟩
  refine wpAny_Assign_Subscript (thn (hv.run pins s σ H _ I h) fun r s1 ⟨v, H1, I1, rv, q1⟩ => thn (ho.run pins s1 σ H1 _ I1 q1) fun u s2 ⟨x, H2, I2, rx, q2⟩ => thn (hi.run pins s2 σ H2 _ I2 q2) fun iv s3 ⟨y, H3, I3, ry, a, ks, b, k, ex, ey, hd, hk, hz, hb, q3⟩ => ?_) hs
  subst ex ey
  obtain rfl : u = Value.ref a := rx
  obtain rfl : iv = Value.ref b := ry
  exact dx_setItem hu I3 hd hk hz hb rv fun s4 I4 => ⟨σ, _, I4, q3⟩
end
end Gx
end

section
set_option Elab.async false
set_option linter.all false
set_option maxRecDepth 100000
set_option maxHeartbeats 4000000
/-! sum(d.values()) of such a dict, the values ints -/
namespace Gx
open PySem PySem.Spec PyProof.Rows L2 GxR
section
variable {X : Cx}
def rValsX (P : Program) (w : World) : V → List V → Hp → VK → Prop := fun x xs H Q => ∃ (a : Addr) (kvs : List (List Key × Addr × V)), x = .ref a ∧ xs = [] ∧ H a = some (DX P w a kvs) ∧ ∀ p, H p = none → Q (.ref p) (L2.upd H p (valsO p a))
theorem mt_valuesX : MtR X "dict.values" (rValsX X.prog X.w) := by
  intro pins s σ H x xs v us Q I rx rxs h
  obtain ⟨a, kvs, rfl, rfl, ha, q⟩ := h
  cases rx
  cases rxs
  obtain ⟨hd, z, xs', rel, o, es, ep, ho, hx, hdat, _⟩ := (show ObjOk X.prog X.w H s.heap a (DX X.prog X.w a kvs) from I.hok _ _ ha).1
  have raw : s.heap.DictRaw a es ep := ⟨o, ho, hx, hdat⟩
  refine call_meetsIn PySem.F.slot_dict_values raw.typeIs PySem.F.entry_dict_values (PySem.F.args_dict_values_1 _) (PySem.meets_dict_values_raw a hd) ⟨⟨es, ep, raw⟩, ?_⟩
  have hf : H s.heap.objs.size = none := I.hok.fresh (Nat.le_refl _)
  exact ⟨.ref s.heap.objs.size, L2.upd H s.heap.objs.size (valsO s.heap.objs.size a), I.laid (t' := s.toks) (fun b u e => Heap.get?_push_of_some _ e) (Nat.le_refl _) (valsO_ok (Heap.get?_push_size _ rfl)), rfl, q _ hf⟩
def rSumX (P : Program) (w : World) : List V → Hp → VK → Prop := fun vs H Q => ∃ (p a : Addr) (kvs : List (List Key × Addr × V)) (ns : List Int), vs = [.ref p] ∧ H p = some (valsO p a) ∧ H a = some (DX P w a kvs) ∧ kvs.map (·.2.2) = ns.map V.int ∧ Q (.int ns.sum) H
theorem cr_sumX (hc : X.calm = true) : CallR X (.builtin "sum") (rSumX X.prog X.w) := by
  intro pins s σ H vs us Q I r h
  obtain ⟨p, a, kvs, ns, rfl, hp, ha, hns, q⟩ := h
  rw [Vals.ref1 r]
  have view : s.heap.IsValuesView p a := (show ObjOk X.prog X.w H s.heap p (valsO p a) from I.hok p _ hp).1
  obtain ⟨hd, z, xs', rel, o, es, ep, ho, hx, hdat, hes, _⟩ := (show ObjOk X.prog X.w H s.heap a (DX X.prog X.w a kvs) from I.hok _ _ ha).1
  have raw : s.heap.DictRaw a es ep := ⟨o, ho, hx, hdat⟩
  have hh : X.A.handled = none := I.ok.hd hc
  have hsz : es.size = kvs.length := by
    have l1 : es.size = xs'.length := size_of_entries hes
    have l2 : kvs.length = xs'.length := Paired.length rel
    omega
  have hlen : kvs.length = ns.length := by have := congrArg List.length hns; simpa using this
  have hval : ∀ i v, (∃ hi : i < es.size, v = es[i].val) → ∃ t, v = Value.int ((fun j => ns.getD j 0) i) t := fun i v ⟨hi, e⟩ => by
    have hik : i < kvs.length := by omega
    obtain ⟨b, hb, _, _, rv⟩ := paired_get rel (List.getElem?_eq_getElem hik)
    have en := entry_at hes i
    rw [hb, Array.getElem?_eq_getElem hi] at en
    have en := Option.some.inj en
    have hk : kvs[i].2.2 = V.int (ns.getD i 0) := by
      have h1 : (kvs.map (·.2.2))[i]? = some kvs[i].2.2 := by rw [List.getElem?_map, List.getElem?_eq_getElem hik]; rfl
      rw [hns, List.getElem?_map, List.getElem?_eq_getElem (show i < ns.length by omega)] at h1
      have h2 := Option.some.inj h1
      rw [← h2, List.getD_eq_getElem?_getD, List.getElem?_eq_getElem (show i < ns.length by omega)]
      rfl
    have rv : RelV kvs[i].2.2 b.2.2 := rv
    rw [hk] at rv
    obtain ⟨t, e2⟩ := rv
    exact ⟨t, by rw [e, en]; exact e2⟩
  refine call_function_tree F.kind_sum F.plain_sum F.entry_sum (F.args_sum1 _) ?_
  unfold Builtin.«sum»
  simp only [List.length_cons, List.length_nil]
  rw [if_neg (by decide)]
  refine wpAny_bind (wpAny_of_eq (show Builtin.Builtins.bindParams "sum" ["start"] 0 { } = pure [none] from rfl) ?_)
  refine wpAny_bind (PySem.wpAny_pyIter_values_raw view raw ?_)
  refine wpAny_bind (wpAny_mkInt ?_)
  refine wpAny_bind (wpAny_pure ?_)
  simp only [List.forIn_cons, List.forIn_nil]
  refine wpAny_bind (wpAny_bind (wpAny_bind (wpAny_isInstance (T := "int") (b := false) (typeIs_int _ _ _) PySem.sub_int_str ?_)))
  simp only [Bool.false_eq_true, if_false]
  refine wpAny_pure (wpAny_bind (wpAny_bind (wpAny_isInstance (T := "int") (b := false) (typeIs_int _ _ _) PySem.sub_int_bytes ?_)))
  simp only [Bool.false_eq_true, if_false]
  refine wpAny_pure (wpAny_bind (wpAny_bind (wpAny_isInstance (T := "int") (b := false) (typeIs_int _ _ _) PySem.sub_int_bytearray ?_)))
  simp only [Bool.false_eq_true, if_false]
  refine wpAny_pure (wpAny_pure ?_)
  refine wpAny_bind (wpAny_newObj_type ?_)
  refine wpAny_pure ⟨plainId_quiet F.plain_sum_loop _, ?_⟩
  have hai : a ≠ s.heap.objs.size := Nat.ne_of_lt (Heap.lt_size ho)
  have W := PySem.Walks.rawValues (prog := X.prog) (w := X.w) (A := X.A.in1) hh s.heap.objs.size a hai es ep
  have hsum : PySem.preSum (fun j => ns.getD j 0) es.size = ns.sum := by
    rw [hsz, hlen]
    have go : ∀ (m : List Int), PySem.preSum (fun j => m.getD j 0) m.length = m.sum := fun m => by
      have h2 : ∀ k, k ≤ m.length → PySem.preSum (fun j => m.getD j 0) k = (m.take k).sum := fun k => by
        induction k with
        | zero => intro _; simp [PySem.preSum]
        | succ k ih =>
          intro hk
          have e1 : PySem.preSum (fun j => m.getD j 0) (k + 1) = PySem.preSum (fun j => m.getD j 0) k + m.getD k 0 := rfl
          rw [e1, ih (by omega), List.take_add_one, List.sum_append, List.getElem?_eq_getElem hk, List.getD_eq_getElem?_getD, List.getElem?_eq_getElem hk]
          simp
      rw [h2 m.length (Nat.le_refl _), List.take_length]
    exact go ns
  refine PySem.codeAny_sum_loopG W (fun j => ns.getD j 0) hval _ ?_ es.size 0 _ s.toks 0 0 (Or.inl rfl) rfl (Nat.zero_le _) ⟨?_, ?_⟩ ?_ fun h' tk t' hk => ?_
  rotate_left 3
  · exact Heap.get?_push_size _ rfl
  · rw [hsum]
    refine ⟨.int ns.sum, H, I.kept (t' := tk) (fun b o e => hk b o (fun m => ?_) (fun z => ?_) (Heap.get?_push_of_some _ (Heap.get?_push_of_some _ e))), ⟨t', rfl⟩, q⟩
    · rw [List.mem_singleton.mp m] at e
      exact absurd (Heap.lt_size e) (Nat.lt_irrefl _)
    · have h1 := Heap.lt_size e
      have h2 : b = (s.heap.push { cls := .type "dict_valueiterator", data := .fields #[.ref a, .int 0 0, .int es.size 0, .int ep 0] }).objs.size := z
      rw [Heap.size_push] at h2
      rw [h2] at h1
      exact Nat.lt_irrefl _ (Nat.lt_of_succ_lt h1)
  · intro m
    have h1 := Heap.lt_size ho
    have m' : (s.heap.push { cls := .type "dict_valueiterator", data := .fields #[.ref a, .int 0 0, .int es.size 0, .int ep 0] }).objs.size ∈ [s.heap.objs.size, a] := m
    rw [Heap.size_push] at m'
    rcases List.mem_cons.mp m' with e | e
    · exact absurd e (Nat.succ_ne_self _)
    · have e2 := List.mem_singleton.mp e
      rw [← e2] at h1
      exact Nat.lt_irrefl _ (Nat.lt_of_succ_lt h1)
  · exact ⟨_, Heap.get?_push_of_some _ (Heap.get?_push_size _ rfl), rfl, rfl⟩
  · exact raw.at fun o e => Heap.get?_push_of_some _ (Heap.get?_push_of_some _ e)
end
end Gx
end

section
set_option Elab.async false
set_option linter.all false
set_option maxRecDepth 100000
set_option maxHeartbeats 4000000
/-! list(d) of such a dict: its keys. -/
namespace Gx
open PySem PySem.Spec PyProof.Rows L2 GxR
theorem vals_at : ∀ {xs : List V} {us : List Value}, xs.length = us.length → (∀ (i : Nat) (x : V) (u : Value), xs[i]? = some x → us[i]? = some u → RelV x u) → Vals xs us
  | [], [], _, _ => .nil
  | x :: xs, u :: us, hl, h => .cons (h 0 x u rfl rfl) (vals_at (by simpa using hl) fun i y w h1 h2 => h (i + 1) y w h1 h2)
section
variable {X : Cx}
def rListX (P : Program) (w : World) : List V → Hp → VK → Prop := fun vs H Q => ∃ (d : Addr) (ks : List (List Key × Addr × V)), vs = [V.ref d] ∧ H d = some (DX P w d ks) ∧ ∀ l, H l = none → Q (.ref l) (L2.upd H l (.lst (ks.map fun p => V.ref p.2.1)))
theorem cr_listX (hc : X.calm = true) : CallR X (.type "list") (rListX X.prog X.w) := by
  intro pins s σ H vs us Q I r h
  obtain ⟨d, ks, rfl, hd, q⟩ := h
  rw [Vals.ref1 r]
  obtain ⟨hs, z, xs, rel, o, es, ep, ho, hx, hdat, hes, hn⟩ := (show ObjOk X.prog X.w H s.heap d (DX X.prog X.w d ks) from I.hok _ _ hd).1
  have hsz : es.size = ks.length := by
    have l1 : es.size = xs.length := size_of_entries hes
    have l2 : ks.length = xs.length := Paired.length rel
    omega
  refine PySem.W.kdl_call (kdl_raw hs hx hdat) (I.ok.hd hc) ho (by omega) fun h' tk acc' c' kp e2 it => ?_
  refine ⟨.ref s.heap.objs.size, _, I.laid (t' := tk) kp (Nat.le_refl _) (o := .lst (ks.map fun p => V.ref p.2.1)) ⟨by rw [List.length_map]; exact z, acc'.toList, c', vals_at ?_ ?_, by simpa using e2⟩, rfl, q _ (I.hok.fresh (Nat.le_refl _))⟩
  · have e1 : acc'.size = es.size := it.1
    have e2 : acc'.toList.length = acc'.size := Array.length_toList
    rw [List.length_map, e2, e1, hsz]
  · intro i x u h1 h2
    rw [List.getElem?_map] at h1
    cases e : ks[i]? with
    | none => rw [e] at h1; cases h1
    | some p =>
      rw [e] at h1
      cases h1
      obtain ⟨b, hb, _, e4, _⟩ := paired_get rel e
      have h3 : acc'[i]? = some u := by rw [← Array.getElem?_toList]; exact h2
      obtain ⟨en, hen, eu⟩ := it.2 i u h3
      have q2 := entry_at hes i
      rw [hb, hen] at q2
      have q3 := Option.some.inj q2
      show u = Value.ref p.2.1
      rw [eu, q3, e4]
      rfl
def rListK : List V → Hp → VK → Prop := fun vs H Q => ∃ (d : Addr) (kvs : List (Key × V)), vs = [V.ref d] ∧ H d = some (.dK kvs) ∧ ∀ l, H l = none → Q (.ref l) (L2.upd H l (.lst (kvs.map fun p => kV p.1)))
/-- list(d), the keys ints or texts -/
theorem cr_listK (hc : X.calm = true) : CallR X (.type "list") rListK := by
  intro pins s σ H vs us Q I r h
  obtain ⟨d, kvs, rfl, hd, q⟩ := h
  rw [Vals.ref1 r]
  obtain ⟨z, hs, vs, rel, dd⟩ := dk_of I.hok hd
  obtain ⟨es, ep, ⟨o, ho, hx, hdat⟩, hsz, hkey⟩ := dd.raw
  have hl : kvs.length = vs.length := Paired.length rel
  refine PySem.W.kdl_call (kdl_raw hs hx hdat) (I.ok.hd hc) ho (by omega) fun h' tk acc' c' kp e2 it => ?_
  refine ⟨.ref s.heap.objs.size, _, I.laid (t' := tk) kp (Nat.le_refl _) (o := .lst (kvs.map fun p => kV p.1)) ⟨by rw [List.length_map]; exact z, acc'.toList, c', vals_at ?_ ?_, by simpa using e2⟩, rfl, q _ (I.hok.fresh (Nat.le_refl _))⟩
  · have e1 : acc'.size = es.size := it.1
    have e2 : acc'.toList.length = acc'.size := Array.length_toList
    rw [List.length_map, e2, e1, hsz, hl]
  · intro i x u h1 h2
    rw [List.getElem?_map] at h1
    cases e : kvs[i]? with
    | none => rw [e] at h1; cases h1
    | some p =>
      rw [e] at h1
      cases h1
      obtain ⟨b, hb, e4⟩ := paired_get rel e
      have h3 : acc'[i]? = some u := by rw [← Array.getElem?_toList]; exact h2
      obtain ⟨en, hen, eu⟩ := it.2 i u h3
      obtain ⟨hi, e5⟩ := Array.getElem?_eq_some_iff.mp hen
      have hk := (hkey i hi b.1 b.2 hb).1
      rw [e5, ← eu] at hk
      show RelV (kV p.1) u
      rw [show p.1 = b.1 from e4.1]
      exact relV_key hk
end
end Gx
end

section
set_option Elab.async false
set_option linter.all false
set_option maxRecDepth 100000
set_option maxHeartbeats 4000000
/-! The same rules over given programs, worlds, fragments: for what stands within a comprehension. -/
namespace Gx
open PySem PySem.Spec PyProof.Rows L2 GxR
section
variable {X : Cx} {P : Program} {w : World} {K : PySem.W.Frag} {tg o i e l : Expr} {es : List Expr} {pos p : Pos} {td ty tl ta : TE} {t : TA} {k j : Nat} {C : Addr} {m x y : Str} {sp : Sp} {ps : List Str}
theorem pi_listK (eK : X.K = K) (hl : PE X l tl) : PI X tg l (iList K tl) := eK ▸ pi_list hl
theorem pe_dgetXK (eP : X.prog = P) (ew : X.w = w) (hu : X.A.units + 1 < cLine) (ho : PE X o td) (hi : PE X i ty) (hs : NoSl i) : PE X (.Subscript o i pos) (tDGetX P w td ty) := by
  subst eP ew
  exact pe_dgetX hu ho hi hs
theorem call_len_seqK (eK : X.K = K) : CallR X (.builtin "len") (fun xs H Q => ∃ p ys, xs = [V.ref p] ∧ (SqL K H p ys ∨ SqT K H p ys) ∧ Q (V.int (ys.length : Nat)) H) := eK ▸ call_len_seq
theorem pe_callMK (eK : X.K = K) (M : Mt X.prog X.w X.K X.mg X.base k C m ps sp) (B : Bd X.K C m) (hr : Room k X.A) (hN : X.N[j]? = some x) (hv : Vis X.env.scope x) (ha : PA X (e :: es) t)
    (hdb : (x == ("__debug__" : Str)) = false := by decide) (hcd : (x == ("__classdict__" : Str)) = false := by decide)
    (he : starEach (e :: es) X.env = (false, eval e X.env) :: starEach es X.env := by rfl) (hpl : (backTo pos (starEach es X.env)).any (·.1) = false := by rfl) : PE X (.Call (.Name x p) (e :: es) [] pos) (tCallM K j C m sp t) := by
  subst eK
  exact pe_callM M B hr hN hv ha hdb hcd he hpl
theorem pe_callFK {mg : Str → Option Value} (em : X.mg = mg) (M : Cal X.prog X.w X.K X.mg X.base k y ps sp) (hr : Room k X.A) (hN : X.N[j]? = some x) (hv : Vis X.env.scope x) (ha : PA X (e :: es) t)
    (hdb : (x == ("__debug__" : Str)) = false := by decide) (hcd : (x == ("__classdict__" : Str)) = false := by decide)
    (he : starEach (e :: es) X.env = (false, eval e X.env) :: starEach es X.env := by rfl) (hpl : (backTo pos (starEach es X.env)).any (·.1) = false := by rfl) : PE X (.Call (.Name x p) (e :: es) [] pos) (tCallF mg j y sp t) := by
  subst em
  exact pe_callF M hr hN hv ha hdb hcd he hpl
end
end Gx
end

section
set_option Elab.async false
set_option linter.all false
set_option maxRecDepth 100000
set_option maxHeartbeats 4000000
/-! A block within a block: no name of it is free. -/
namespace Gx
open PySem PySem.Spec PyProof.Rows L2 GxR
def noScope (sc : Scope) : Scope := { sc with names := [] }
theorem blkOk_nf {N : List Str} {sc0 sc scope : Scope} {own : List (Str × Nat)} (h : blkC N (noScope sc0) scope own = true) : BlkOk N sc scope own := by
  obtain ⟨a, b, c, d, e⟩ := blkOk_by h
  refine ⟨a, b, c, fun y hy q => ?_, e⟩
  rcases d y hy q with z | z <;> cases z
end Gx
end

section
set_option Elab.async false
set_option linter.all false
set_option maxRecDepth 100000
set_option maxHeartbeats 4000000
/-! sorted(xs) where xs is a list of tuples (an int, a list of pairs of ints). -/
namespace SrtO
open PySem PySem.Spec PyProof.Rows PySem.W
def prD (p : Int × Int) : PyData := .tuple [.int p.1, .int p.2]
def rowP (x : Int) (ns : List (Int × Int)) : PyData := .tuple [.int x, .list (ns.map prD)]
inductive PrsAre (h : Heap) : List Value → List (Int × Int) → Prop
  | nil : PrsAre h [] []
  | cons {a o t u n p vs ps} (ho : h.get? a = some o) (hc : o.cls = .type "tuple") (hd : o.data = .seq #[.int p.1 t, .int p.2 u] n) (r : PrsAre h vs ps) : PrsAre h (.ref a :: vs) (p :: ps)
theorem PrsAre.keeps {h h' : Heap} {vs : List Value} {ps : List (Int × Int)} (r : PrsAre h vs ps) (k : ∀ b o, h.get? b = some o → h'.get? b = some o) : PrsAre h' vs ps := by
  induction r with
  | nil => exact .nil
  | cons ho hc hd r ih => exact .cons (k _ _ ho) hc hd ih
def IsTP (h : Heap) (v : Value) (x : Int) (ns : List (Int × Int)) : Prop := ∃ a o t l n o2 its n2, v = .ref a ∧ h.get? a = some o ∧ o.cls = .type "tuple" ∧ o.data = .seq #[.int x t, .ref l] n ∧ h.get? l = some o2 ∧ o2.cls = .type "list" ∧ o2.data = .seq its n2 ∧ PrsAre h its.toList ns
theorem IsTP.hd {h : Heap} {v : Value} {x : Int} {ns : List (Int × Int)} (p : IsTP h v x ns) : IsHd h v x := by
  obtain ⟨a, o, t, l, n, o2, its, n2, e, ho, hc, hd, _⟩ := p
  exact ⟨a, o, t, _, n, e, ho, hc, hd⟩
theorem IsTP.keeps {h h' : Heap} {v : Value} {x : Int} {ns : List (Int × Int)} (p : IsTP h v x ns) (k : ∀ b o, h.get? b = some o → h'.get? b = some o) : IsTP h' v x ns := by
  obtain ⟨a, o, t, l, n, o2, its, n2, e, ho, hc, hd, h2, r⟩ := p
  exact ⟨a, o, t, l, n, o2, its, n2, e, k _ _ ho, hc, hd, k _ _ h2, r.1, r.2.1, r.2.2.keeps k⟩
theorem prs_reads {h : Heap} {vs : List Value} {ns : List (Int × Int)} (r : PrsAre h vs ns) : ∃ as, ReadsAll h vs (ns.map prD) as := by
  induction r with
  | nil => exact ⟨_, .nil⟩
  | cons ho hc hd r ih =>
    obtain ⟨as, q⟩ := ih
    exact ⟨_, .cons (.tuple ho hc hd (.cons (.int _ _) (.cons (.int _ _) .nil))) q⟩
theorem alike_prs : ∀ xs ys : List (Int × Int), alikeAll (xs.map prD) (ys.map prD) = true
  | [], _ => by cases ‹List (Int × Int)› <;> rfl
  | _ :: _, [] => rfl
  | x :: xs, y :: ys => by
    rw [List.map_cons, List.map_cons, alikeAll, alike_prs xs ys]
    rfl
theorem depth_prs : ∀ xs : List (Int × Int), PyData.depthAll (xs.map prD) ≤ 2
  | [] => by simp [PyData.depthAll]
  | x :: xs => by
    have := depth_prs xs
    rw [List.map_cons, PyData.depthAll]
    simp [prD, PyData.depth, PyData.depthAll]
    omega
section
variable {prog : Program} {w : World} {A : Around} {s : Shared} {E : Value → Shared → Prop}
theorem depth_rowP (x : Int) (ns : List (Int × Int)) : PyData.depthAll [.int x, .list (ns.map prD)] ≤ 3 := by
  have := depth_prs ns
  simp only [PyData.depthAll, PyData.depth]
  omega
theorem tp_cmp {vs : List Value} {k : Value → Int × List (Int × Int)} (hu : A.units + 3 < cLine) (hp : ∀ v ∈ vs, IsTP s.heap v (k v).1 (k v).2) :
    Cmp prog w A s (tuples' true) (fun p => p.1 ∈ vs) (lt2 fun v u => dataLt (rowP (k v).1 (k v).2) (rowP (k u).1 (k u).2)) := by
  intro p q hm hm'
  have h1 := hp _ hm
  have h2 := hp _ hm'
  show wpAny (model prog w) A (keyLt' (tuples' true) p.1 q.1) (fun r s' => s' = s ∧ r = dataLt (rowP (k p.1).1 (k p.1).2) (rowP (k q.1).1 (k q.1).2)) (fun _ _ => False) s
  generalize k p.1 = x at h1 ⊢
  generalize k q.1 = y at h2 ⊢
  obtain ⟨a, o, t, l, n, o2, its, n2, e, ho, hc, hd, ho2, hc2, hd2, r⟩ := h1
  obtain ⟨a', o', t', l', n', o2', its', n2', e', ho', hc', hd', ho2', hc2', hd2', r'⟩ := h2
  rw [e, e']
  refine PySem.W.kat_lt ho hd ho' hd' ?_
  obtain ⟨as, ra⟩ := prs_reads (h := s.heap) r
  obtain ⟨as', ra'⟩ := prs_reads (h := s.heap) r'
  have d1 := depth_rowP x.1 x.2
  refine katLex_alike [.int x.1, .list (x.2.map prD)] [.int y.1, .list (y.2.map prD)] 0 _ _ _ _ (.cons (.int _ _) (.cons (.list ho2 hc2 hd2 ra) .nil)) (.cons (.int _ _) (.cons (.list ho2' hc2' hd2' ra') .nil)) ?_ ?_ (fun _ _ z zs zt e1 e2 => ?_) rfl ⟨rfl, ?_⟩
  · rw [alikeAll, alikeAll, alikeAll, alike, alike, alike_prs]
    rfl
  · omega
  · injection e1 with e3 _
    rw [← e3] at e2
    cases e2
  · rfl
theorem tp_sortableO {a : Addr} {vs : List Value} {k : Value → Int × List (Int × Int)} (hu : A.units + 3 < cLine) (h0 : 0 < vs.length) {h0' : Heap} (hp : ∀ v ∈ vs, IsTP h0' v (k v).1 (k v).2) (hk : ∀ b o, h0'.get? b = some o → b ≠ a ∧ s.heap.get? b = some o) :
    SortableO prog w A s a vs fun v u => dataLt (rowP (k v).1 (k v).2) (rowP (k u).1 (k u).2) := by
  intro h' keep
  have hp' : ∀ v ∈ vs, IsTP h' v (k v).1 (k v).2 := fun v hm => (hp v hm).keeps fun b o e => keep b o (hk b o e).1 (hk b o e).2
  obtain ⟨fs, h1, h2, h3⟩ := hd_firsts fun v hm => ⟨_, (hp' v hm).hd⟩
  refine ⟨tuples' true, fun Q E hq => ?_, tp_cmp hu hp'⟩
  refine PySem.W.kat_kind (T := .type "int") h1 (by omega) (fun f hm => ?_) (by rfl) ?_
  · obtain ⟨x, t, rfl⟩ := h3 f hm
    exact PySem.W.Looks.now
  · have e : (Value.type "int" != Value.type "tuple") = true := by first | decide +kernel | rfl | decide
    rw [e]
    exact hq
theorem sorted_tp {l : Addr} {vs : List Value} {k : Value → Int × List (Int × Int)} {Q : Value → Shared → Prop} (hu : A.in1.in1.units + 3 < cLine) (hl : s.heap.IsList l vs.toArray) (hz : vs.length ≤ sizeLine) (hp : ∀ v ∈ vs, IsTP s.heap v (k v).1 (k v).2)
    (h : ∀ (h' : Heap) (d : Addr) (out : List Value), Srtd (fun v u => dataLt (rowP (k v).1 (k v).2) (rowP (k u).1 (k u).2)) out → Stb (fun v u => dataLt (rowP (k v).1 (k v).2) (rowP (k u).1 (k u).2)) out vs → (∀ b o, s.heap.get? b = some o → h'.get? b = some o) → s.heap.objs.size ≤ d → (∃ n, h'.get? d = some (seqObj "list" out.toArray n)) → Q (.ref d) { s with heap := h' }) :
    wpAny (model prog w) A (call (.builtin "sorted") [.ref l]) Q E s := by
  refine sorted_ord (lex_swo fun v => rowP (k v).1 (k v).2) hl hz (fun h2 h₁ a ha kk => ?_) fun out hs hb => ?_
  · exact tp_sortableO (s := { s with heap := h₁ }) hu (by omega) hp kk
  · exact h _ _ out hs hb (fun b o e => sortedAll_old e) (Nat.le_succ _) (sortedAll_at s.heap vs out.toArray)
end
end SrtO
namespace L2
open PySem PySem.Spec PyProof.Rows PySem.W
inductive PrsV (H : Hp) : List V → List (Int × Int) → Prop
  | nil : PrsV H [] []
  | cons {a p vs ps} (h : H a = some (.tup [.int p.1, .int p.2])) (r : PrsV H vs ps) : PrsV H (.ref a :: vs) (p :: ps)
theorem prs_of {P : Program} {w : World} {H : Hp} {h : Heap} (ok : HOk P w H h) {vs : List V} {ps : List (Int × Int)} (r : PrsV H vs ps) : ∀ {us : List Value}, Vals vs us → SrtO.PrsAre h us ps := by
  induction r with
  | nil => intro us rv; cases rv; exact .nil
  | cons ha r ih =>
    intro us rv
    cases rv with
    | cons r1 r2 =>
      obtain rfl := (show _ = Value.ref _ from r1)
      obtain ⟨_, its2, r3, o, ho, hc, n, hd⟩ := ok _ _ ha
      obtain ⟨u1, u2, rfl, ri, rj⟩ := vals2 r3
      obtain ⟨t1, rfl⟩ := ri
      obtain ⟨t2, rfl⟩ := rj
      exact .cons ho hc hd (ih r2)
def rSortedTP (K : PySem.W.Frag) : List V → Hp → VK → Prop := fun vs H Q => ∃ (a : Addr) (xs : List V) (k : V → Int × List (Int × Int)), vs = [V.ref a] ∧ SqL K H a xs ∧ (∀ x ∈ xs, ∃ t l, x = V.ref t ∧ H t = some (.tup [.int (k x).1, .ref l]) ∧ ∃ zs : List V, H l = some (.lst zs) ∧ PrsV H zs (k x).2) ∧
  ∀ ys p, SrtO.Srtd (fun x y => dataLt (SrtO.rowP (k x).1 (k x).2) (SrtO.rowP (k y).1 (k y).2)) ys → SrtO.Stb (fun x y => dataLt (SrtO.rowP (k x).1 (k x).2) (SrtO.rowP (k y).1 (k y).2)) ys xs → H p = none → Q (.ref p) (upd H p (.lst ys))
section
variable {X : Cx}
theorem cr_sortedTP (hu : X.A.in1.in1.units + 3 < cLine) : CallR X (.builtin "sorted") (rSortedTP X.K) := by
  intro pins s σ H vs us Q I r h
  obtain ⟨a, xs, k, rfl, hs, hx, q⟩ := h
  obtain ⟨its, rv, hl, hz⟩ := I.list hs
  obtain ⟨u, rfl, ru⟩ := vals1 r
  obtain rfl : u = Value.ref a := ru
  obtain ⟨e1, e2⟩ := refs_back rv fun x m => by
    obtain ⟨t, _, e, _⟩ := hx x m
    exact ⟨t, e⟩
  refine SrtO.sorted_tp (k := fun u => k (backV u)) hu hl.isList (by rw [← rv.length]; exact hz) (fun v hv => ?_) fun h' d out h1 h2 kp hd hn => ?_
  · obtain ⟨t, rfl⟩ := e2 v hv
    have hm : V.ref t ∈ xs := by rw [e1]; exact List.mem_map.mpr ⟨_, hv, rfl⟩
    obtain ⟨t', l, e, ht, zs, hlst, hpr⟩ := hx _ hm
    cases e
    obtain ⟨_, its2, r2, o, ho, hc, n, hd⟩ := I.hok _ _ ht
    obtain ⟨u1, u2, rfl, ri, rj⟩ := vals2 r2
    obtain ⟨t1, rfl⟩ := ri
    obtain rfl : u2 = Value.ref l := rj
    obtain ⟨_, its3, n3, r3, ho3⟩ := I.hok _ _ hlst
    refine ⟨t, o, t1, l, n, _, its3.toArray, n3, rfl, ho, hc, hd, ho3, rfl, rfl, ?_⟩
    exact prs_of I.hok hpr r3
  · have h3 : ∀ u ∈ out, ∃ a, u = Value.ref a := fun u hu => e2 u (h2.perm.mem_iff.mp hu)
    obtain ⟨n, hn⟩ := hn
    have hb : SrtO.Stb (fun x y => dataLt (SrtO.rowP (k x).1 (k x).2) (SrtO.rowP (k y).1 (k y).2)) (out.map backV) xs := by
      rw [e1]
      exact SrtO.Stb.map (SrtO.lex_swo fun v => SrtO.rowP (k v).1 (k v).2) backV h2
    refine ⟨.ref d, upd H d (.lst (out.map backV)), I.laid (t' := s.toks) kp hd ⟨?_, out, n, vals_back h3, hn⟩, rfl, q _ d (SrtO.srtd_map h1) hb (I.hok.fresh hd)⟩
    rw [hb.len]
    exact hz
end
end L2
end

section
set_option Elab.async false
set_option linter.all false
set_option maxRecDepth 100000
set_option maxHeartbeats 4000000
/-! d.values() of a dict with any tuples as keys, as a value. -/
namespace Gx
open PySem PySem.Spec PyProof.Rows L2 GxR
def tDValsX (P : Program) (w : World) (to : TE) : TE := fun σ H Q => to σ H fun x H1 => rValsX P w x [] H1 Q
theorem pe_dvalsX {X : Cx} {o : Expr} {to : TE} {apos cpos : Pos} (ho : PE X o to) (hbase : attributeBase o "values" X.env (eval o X.env) = eval o X.env := by rfl) (hline : (apos.endLine == cpos.line) = true := by rfl) : PE X (.Call (.Attribute o "values" apos) [] [] cpos) (tDValsX X.prog X.w to) := by
  refine ⟨fun pins s σ H Q I h => ?_⟩
  refine wpAny_Call_method0_late hbase hline (thn (ho.run pins s σ H _ I h) fun v s1 ⟨x, H1, I1, r1, q1⟩ => ?_)
  have q1' := q1
  obtain ⟨a, kvs, rfl, _, ha, _⟩ := q1
  cases r1
  obtain ⟨_, _, _, _, o', _, _, ho', hx, hdat, _⟩ := (show ObjOk X.prog X.w H1 s1.heap a (DX X.prog X.w a kvs) from I1.hok _ _ ha).1
  refine ⟨"dict", "dict.values", PySem.F.plainAttrs_dict, PySem.F.slot_dict_values, PySem.F.type_dict_values, ⟨o', ho', hx.1⟩, fun b e2 => ?_, Calls.callWith_builtin rfl (PySem.evalArgs_none (mt_valuesX pins s1 σ H1 (.ref a) [] (.ref a) [] Q I1 rfl .nil q1'))⟩
  cases e2
  exact ⟨o', ho', hx.2.1⟩
end Gx
end

section
set_option Elab.async false
set_option linter.all false
set_option maxRecDepth 100000
set_option maxHeartbeats 4000000
/-! Ways in Python's order: sorted once and for all. -/
namespace Gx
open PySem PySem.Spec PyProof.Rows L2 GxR PySem.W
abbrev Way := Nat × List (Nat × Nat)
def stI (s : Nat × Nat) : Int × Int := ((s.1 : Nat), (s.2 : Nat))
def wD (v : Way) : PyData := SrtO.rowP (v.1 : Nat) (v.2.map stI)
def wLt (a b : Way) : Bool := dataLt (wD a) (wD b)
theorem stI_inj {a b : Nat × Nat} (h : stI a = stI b) : a = b := by
  obtain ⟨x, y⟩ := a
  obtain ⟨u, v⟩ := b
  injection h with h1 h2
  have h1 : (x : Int) = u := h1
  have h2 : (y : Int) = v := h2
  rw [show x = u by omega, show y = v by omega]
theorem toksP_inj : ∀ {l m : List (Int × Int)} {s t : List (Int ⊕ List Nat)}, keyToksAll (l.map SrtO.prD) ++ s = keyToksAll (m.map SrtO.prD) ++ t → l = m ∧ s = t
  | [], [], s, t, h => ⟨rfl, by simpa [keyToksAll] using h⟩
  | [], m :: ms, s, t, h => by simp [keyToksAll] at h
  | l :: ls, [], s, t, h => by simp [keyToksAll] at h
  | l :: ls, m :: ms, s, t, h => by
    rw [List.map_cons, List.map_cons, keyToksAll, keyToksAll] at h
    simp only [SrtO.prD, keyToks, keyToksAll, List.cons_append, List.nil_append, List.append_assoc, List.cons.injEq, true_and, Sum.inl.injEq] at h
    obtain ⟨h1, h2, h3⟩ := h
    obtain ⟨e1, e2⟩ := toksP_inj h3
    rw [e1, e2]
    refine ⟨?_, rfl⟩
    obtain ⟨a, b⟩ := l
    obtain ⟨c, d⟩ := m
    have h1 : a = c := h1
    have h2 : b = d := h2
    rw [h1, h2]
theorem wLt_tot {a b : Way} (h1 : wLt a b = false) (h2 : wLt b a = false) : a = b := by
  have := lex_total (O := itemOrd) _ _ h1 h2
  obtain ⟨x, xs⟩ := a
  obtain ⟨y, ys⟩ := b
  simp only [wD, SrtO.rowP, keyToks, keyToksAll, List.cons_append, List.nil_append, List.cons.injEq, true_and, Sum.inl.injEq] at this
  obtain ⟨e1, e2⟩ := this
  have e1 : (x : Int) = y := e1
  obtain ⟨e3, _⟩ := toksP_inj e2
  rw [show x = y by omega, (List.map_inj_right fun _ _ => stI_inj).mp e3]
theorem wLt_swo : SrtO.Swo wLt := SrtO.lex_swo wD
def srtW (ws : List Way) : List Way := ws.mergeSort fun a b => !wLt b a
theorem srtW_perm (ws : List Way) : (srtW ws).Perm ws := List.mergeSort_perm _ _
theorem srtW_eq {ws ys : List Way} (hp : ys.Perm ws) (hs : SrtO.Srtd wLt ys) : ys = srtW ws := by
  refine List.Perm.eq_of_pairwise (le := fun x y => wLt y x = false) (fun a b _ _ h1 h2 => wLt_tot h2 h1) hs ?_ (hp.trans (srtW_perm ws).symm)
  have := List.pairwise_mergeSort (le := fun a b => !wLt b a) (fun a b c h1 h2 => ?_) (fun a b => ?_) ws
  · exact this.imp fun h => by simpa using h
  · simp only [Bool.not_eq_true'] at h1 h2 ⊢
    exact wLt_swo.tr _ _ _ h1 h2
  · cases e : wLt b a with
    | false => rfl
    | true => rw [wLt_swo.asym _ _ e]; rfl
end Gx
end

section
set_option Elab.async false
set_option linter.all false
set_option maxHeartbeats 1000000
/-! The layers of the search backwards. -/
namespace Ma
abbrev Mnu := List (Int × Int)
abbrev Prs := List ((Nat × Nat) × List Int)
def ddA : List (List Int) → List (List Int) → List (List Int)
  | acc, [] => acc
  | acc, x :: l => ddA (if x ∈ acc then acc else acc ++ [x]) l
theorem mem_ddA : ∀ {l acc : List (List Int)} {x : List Int}, x ∈ ddA acc l ↔ x ∈ acc ∨ x ∈ l
  | [], acc, x => by unfold ddA; simp
  | y :: l, acc, x => by
    unfold ddA
    rw [mem_ddA]
    split
    · rename_i h
      constructor
      · rintro (a | a)
        · exact .inl a
        · exact .inr (List.mem_cons_of_mem _ a)
      · rintro (a | a)
        · exact .inl a
        · rcases List.mem_cons.mp a with e | e
          · exact .inl (e ▸ h)
          · exact .inr e
    · rw [List.mem_append, List.mem_singleton, List.mem_cons, or_assoc]
theorem nodup_ddA : ∀ {l acc : List (List Int)}, acc.Nodup → (ddA acc l).Nodup
  | [], acc, h => by unfold ddA; exact h
  | y :: l, acc, h => by
    unfold ddA
    refine nodup_ddA ?_
    split
    · exact h
    · rename_i hn
      exact List.nodup_append.mpr ⟨h, List.nodup_cons.mpr ⟨List.not_mem_nil, List.nodup_nil⟩, fun a ha b hb e => hn (by rw [List.mem_singleton] at hb; rw [← hb, ← e]; exact ha)⟩
theorem len_ddA : ∀ {l acc : List (List Int)}, (ddA acc l).length ≤ acc.length + l.length
  | [], acc => by unfold ddA; simp
  | y :: l, acc => by
    unfold ddA
    refine Nat.le_trans len_ddA ?_
    split
    · rw [List.length_cons]; omega
    · rw [List.length_cons, List.length_append]; simp only [List.length_cons, List.length_nil]; omega
theorem ddA_app : ∀ (l m acc : List (List Int)), ddA acc (l ++ m) = ddA (ddA acc l) m
  | [], m, acc => rfl
  | y :: l, m, acc => by
    show ddA (if y ∈ acc then acc else acc ++ [y]) (l ++ m) = _
    rw [ddA_app]
    rfl
/-- all that was before, each once -/
def nxt (ly : List (List Int × Prs)) : List (List Int) := ddA [] (ly.flatMap fun e => e.2.map (·.2))
theorem nxt_nodup (ly : List (List Int × Prs)) : (nxt ly).Nodup := nodup_ddA List.nodup_nil
theorem mem_nxt {ly : List (List Int × Prs)} {x : List Int} : x ∈ nxt ly ↔ ∃ e ∈ ly, ∃ p ∈ e.2, p.2 = x := by
  unfold nxt
  rw [mem_ddA, List.mem_flatMap]
  constructor
  · rintro (h | ⟨e, he, h⟩)
    · exact nomatch h
    · obtain ⟨p, hp, e2⟩ := List.mem_map.mp h
      exact ⟨e, he, p, hp, e2⟩
  · rintro ⟨e, he, p, hp, h⟩
    exact .inr ⟨e, he, List.mem_map.mpr ⟨p, hp, h⟩⟩
def backM (cs : List Mnu) (m : Nat) : List Mnu := (cs.take m).reverse
theorem backM_succ {cs : List Mnu} {m : Nat} (h : m < cs.length) : backM cs (m + 1) = cs.getD m [] :: backM cs m := by
  unfold backM
  rw [List.take_add_one, List.getElem?_eq_getElem h, List.getD_eq_getElem?_getD, List.getElem?_eq_getElem h, List.reverse_append]
  rfl
/-- the contents after so many steps back, with what was before each -/
def ends (cs : List Mnu) (x : List Int) : Nat → List (List Int)
  | 0 => [x]
  | d + 1 => nxt ((ends cs x d).map fun e => (e, undL (cs.getD (cs.length - 1 - d) []) (backM cs (cs.length - 1 - d)) e))
def lay (cs : List Mnu) (x : List Int) (d : Nat) : List (List Int × Prs) := (ends cs x d).map fun e => (e, undL (cs.getD (cs.length - 1 - d) []) (backM cs (cs.length - 1 - d)) e)
theorem ends_succ (cs : List Mnu) (x : List Int) (d : Nat) : ends cs x (d + 1) = nxt (lay cs x d) := rfl
theorem ends_nodup (cs : List Mnu) (x : List Int) : ∀ d, (ends cs x d).Nodup
  | 0 => List.nodup_cons.mpr ⟨List.not_mem_nil, List.nodup_nil⟩
  | d + 1 => nxt_nodup _
theorem lay_fst (cs : List Mnu) (x : List Int) (d : Nat) : (lay cs x d).map (·.1) = ends cs x d := by
  unfold lay
  rw [List.map_map]
  exact List.map_id' _
theorem ends_in {cs : List Mnu} {x e : List Int} {d : Nat} {p : (Nat × Nat) × List Int} (he : e ∈ ends cs x d) (hp : p ∈ undL (cs.getD (cs.length - 1 - d) []) (backM cs (cs.length - 1 - d)) e) : p.2 ∈ ends cs x (d + 1) := by
  rw [ends_succ, mem_nxt]
  exact ⟨_, List.mem_map.mpr ⟨e, he, rfl⟩, p, hp, rfl⟩
/-- what is at the layers is a content -/
theorem ends_con {cs : List Mnu} {x : List Int} (hk : ∀ c ∈ cs, ∀ q ∈ c, Kep q.1 q.2) (hx : Con x) : ∀ d, d ≤ cs.length → ∀ e ∈ ends cs x d, Con e ∧ e.length = x.length
  | 0, _, e, he => by rw [List.mem_singleton.mp he]; exact ⟨hx, rfl⟩
  | d + 1, hd, e, he => by
    rw [ends_succ, mem_nxt] at he
    obtain ⟨f, hf, p, hp, rfl⟩ := he
    obtain ⟨g, hg, rfl⟩ := List.mem_map.mp hf
    obtain ⟨i1, i2⟩ := ends_con hk hx d (by omega) g hg
    obtain ⟨h1, h2, h3, h4, h5⟩ := mem_undL.mp hp
    have kp : Kep (shAt (cs.getD (cs.length - 1 - d) []) p.1.2).1 (shAt (cs.getD (cs.length - 1 - d) []) p.1.2).2 := by
      refine hk (cs.getD (cs.length - 1 - d) []) ?_ _ ?_
      · rw [List.getD_eq_getElem?_getD, List.getElem?_eq_getElem (by omega)]
        exact List.getElem_mem _
      · unfold shAt
        rw [List.getD_eq_getElem?_getD (l := cs.getD _ _), List.getElem?_eq_getElem h1]
        exact List.getElem_mem h1
    rw [h5]
    exact ⟨befo_con i1 kp h2 h3, by rw [befo_len, i2]⟩
def startsOf (e : List Int) : List Nat := if e.sum = 1 then [startOf e] else []
/-- the ways at each layer -/
def wayL (cs : List Mnu) (x : List Int) (d : Nat) : List (List Int × List (Nat × List (Nat × Nat))) := (ends cs x d).map fun e => (e, ways (backM cs (cs.length - d)) e)
theorem wayL_fst (cs : List Mnu) (x : List Int) (d : Nat) : (wayL cs x d).map (·.1) = ends cs x d := by
  unfold wayL
  rw [List.map_map]
  exact List.map_id' _
theorem ways_zero (cs : List Mnu) (e : List Int) : ways (backM cs 0) e = (startsOf e).map fun s => (s, []) := by
  show (if e.sum = 1 then [(startOf e, [])] else []) = _
  unfold startsOf
  split <;> rfl
theorem ways_step {cs : List Mnu} {d : Nat} (hd : d < cs.length) (e : List Int) : ways (backM cs (cs.length - d)) e = (undL (cs.getD (cs.length - 1 - d) []) (backM cs (cs.length - 1 - d)) e).flatMap fun p => (ways (backM cs (cs.length - (d + 1))) p.2).map fun w => (w.1, w.2 ++ [p.1]) := by
  have e1 : cs.length - d = (cs.length - 1 - d) + 1 := by omega
  have e2 : cs.length - (d + 1) = cs.length - 1 - d := by omega
  rw [e1, backM_succ (by omega), e2]
  rfl
theorem ways_le {cs : List Mnu} {x : List Int} : ∀ {d : Nat}, d ≤ cs.length → ∀ e ∈ ends cs x d, (ways (backM cs (cs.length - d)) e).length ≤ (ways (backM cs cs.length) x).length
  | 0, _, e, he => by rw [List.mem_singleton.mp he]; exact Nat.le_refl _
  | d + 1, hd, e, he => by
    rw [ends_succ, mem_nxt] at he
    obtain ⟨f, hf, p, hp, rfl⟩ := he
    obtain ⟨g, hg, rfl⟩ := List.mem_map.mp hf
    refine Nat.le_trans ?_ (ways_le (d := d) (by omega) g hg)
    rw [ways_step (d := d) (by omega) g]
    obtain ⟨s, t, e⟩ := List.append_of_mem hp
    dsimp only at e
    rw [e, List.flatMap_append, List.flatMap_cons]
    simp only [List.length_append, List.length_map]
    omega
theorem ways_step_len {cs : List Mnu} {d : Nat} (hd : d < cs.length) (e : List Int) : ((ways (backM cs (cs.length - d)) e).length : Int) = ((undL (cs.getD (cs.length - 1 - d) []) (backM cs (cs.length - 1 - d)) e).map fun p => ((ways (backM cs (cs.length - (d + 1))) p.2).length : Int)).sum := by
  rw [ways_step hd]
  generalize undL _ _ e = ps
  induction ps with
  | nil => rfl
  | cons p ps ih =>
    rw [List.flatMap_cons, List.length_append, List.length_map, List.map_cons, List.sum_cons, ← ih]
    omega
theorem ways_sts : ∀ {r : List Mnu} {e : List Int} {v : Nat × List (Nat × Nat)}, v ∈ ways r e → v.2.length = r.length
  | [], e, v, h => by
    unfold ways at h
    split at h
    · rw [List.mem_singleton.mp h]; rfl
    · cases h
  | c :: r, e, v, h => by
    unfold ways at h
    obtain ⟨p, hp, hm⟩ := List.mem_flatMap.mp h
    obtain ⟨u, hu, rfl⟩ := List.mem_map.mp hm
    rw [List.length_append, ways_sts hu]
    rfl
/-- how often something is asked at each step back -/
def tot (cs : List Mnu) (x : List Int) : Nat → Nat
  | 0 => 0
  | d + 1 => tot cs x d + (ends cs x d).length * (x.length * (cs.getD (cs.length - 1 - d) []).length)
theorem tot_mono (cs : List Mnu) (x : List Int) {d e : Nat} (h : d ≤ e) : tot cs x d ≤ tot cs x e := by
  induction h with
  | refl => exact Nat.le_refl _
  | step _ ih => exact Nat.le_trans ih (Nat.le_add_right _ _)
theorem undL_len (c : Mnu) (r : List Mnu) (x : List Int) : (undL c r x).length ≤ x.length * c.length := by
  unfold undL
  generalize hn : c.length = n
  have go : ∀ (l : List Nat) (f : Nat → Prs), (∀ i, (f i).length ≤ x.length) → (l.flatMap f).length ≤ x.length * l.length := fun l f hf => by
    induction l with
    | nil => simp
    | cons a l ih =>
      rw [List.flatMap_cons, List.length_append, List.length_cons, Nat.mul_succ]
      have := hf a
      omega
  refine Nat.le_trans (go (List.range n) _ fun i => ?_) ?_
  · refine Nat.le_trans (List.length_filterMap_le _ _) ?_
    rw [List.length_range]
    exact Nat.le_refl _
  · rw [List.length_range]
    exact Nat.le_refl _
end Ma
end

section
set_option Elab.async false
set_option linter.all false
set_option maxRecDepth 100000
set_option maxHeartbeats 4000000
namespace K34
open PySem PySem.Spec PyProof.Rows L2 GxR Gx Ma Mc
section
variable {P : Program} {w : World} {K : PySem.W.Frag} {mg : Str → Option Value} {base : Heap}

/-- no dict -/
def NoX : HO → Prop
  | .ext _ => False
  | .dK _ => False
  | .frz _ (.ext _) => False
  | .frz _ (.dK _) => False
  | _ => True
/-- the same but for dicts -/
def SameL (H H' : Hp) : Prop := ∀ x o, H x = some o → NoX o → H' x = some o
theorem SameL.of {H H' : Hp} (h : Same H H') : SameL H H' := fun x o e _ => h x o e
theorem SameL.tr {H H' H'' : Hp} (h : SameL H H') (h' : SameL H' H'') : SameL H H'' := fun x o e n => h' x o (h x o e n) n
theorem SameL.up {H : Hp} {D : Addr} {u o : HO} (h : H D = some u) (n : ¬ NoX u) : SameL H (upd H D o) := fun x v e m => by
  by_cases hx : x = D
  · subst hx
    rw [h] at e
    cases e
    exact absurd m n
  · rw [upd_ne hx]; exact e
theorem SameL.un {H : Hp} {D : Addr} {o : HO} (h : H D = none) : SameL H (upd H D o) := .of (sameN h)
abbrev Mo {α : Type} (R : Hp → V → α → Prop) : Prop := ∀ (H H' : Hp) (v : V) (a : α), SameL H H' → R H v a → R H' v a
abbrev MoA {α : Type} (f : Hp → Addr → α → Prop) : Prop := ∀ (H H' : Hp) (q : Addr) (a : α), SameL H H' → f H q a → f H' q a
def AtN (f : Hp → Addr → α → Prop) : Hp → V → α → Prop := fun H v a => ∃ q, v = .ref q ∧ f H q a
theorem AtN.mo {α : Type} {f : Hp → Addr → α → Prop} (m : MoA f) : Mo (AtN f) := fun _ _ _ _ s ⟨q, e, h⟩ => ⟨q, e, m _ _ _ _ s h⟩
theorem tupN_mo {H H' : Hp} {q : Addr} {xs : List V} (s : SameL H H') (h : TupN H q xs) : TupN H' q xs := let ⟨o, a, b, c⟩ := h; ⟨o, a, b, s _ _ c trivial⟩
theorem stpO_mo : MoA StpO := fun _ _ _ _ s h => s _ _ h trivial
/-- lists of things that are told of one by one -/
def LO {α : Type} (f : Hp → Addr → α → Prop) (H : Hp) (q : Addr) (xs : List α) : Prop := ∃ as : List Addr, H q = some (.lst (as.map V.ref)) ∧ Paired (f H) as xs
theorem LO.mo {α : Type} {f : Hp → Addr → α → Prop} (m : MoA f) {H H' : Hp} {q : Addr} {xs : List α} (s : SameL H H') (h : LO f H q xs) : LO f H' q xs := let ⟨as, a, b⟩ := h; ⟨as, s _ _ a trivial, b.mono fun _ _ z => m _ _ _ _ s z⟩
theorem LO.len {α : Type} {f : Hp → Addr → α → Prop} {H : Hp} {q : Addr} {xs : List α} (h : LO f H q xs) : ∃ ys : List V, H q = some (.lst ys) ∧ ys.length = xs.length := let ⟨as, a, b⟩ := h; ⟨_, a, by rw [List.length_map, b.length]⟩
/-- a step, and what was before it -/
def PrO (H : Hp) (a : Addr) (p : (Nat × Nat) × List Int) : Prop := ∃ s b, H a = some (.tup [.ref s, .ref b]) ∧ StpO H s p.1 ∧ TupN H b (p.2.map V.int)
theorem prO_mo : MoA PrO := fun _ _ _ _ s ⟨x, b, e, h1, h2⟩ => ⟨x, b, s _ _ e trivial, stpO_mo _ _ _ _ s h1, tupN_mo s h2⟩
abbrev PL := LO PrO
/-- a way: the start, the steps -/
def WyO (H : Hp) (a : Addr) (p : Nat × List (Nat × Nat)) : Prop := ∃ q, H a = some (.tup [.int (p.1 : Nat), .ref q]) ∧ LO StpO H q p.2
theorem wyO_mo : MoA WyO := fun _ _ _ _ s ⟨q, e, h1⟩ => ⟨q, s _ _ e trivial, LO.mo stpO_mo s h1⟩
abbrev WL := LO WyO
theorem wl_mo : MoA WL := fun _ _ _ _ s h => LO.mo wyO_mo s h
theorem pl_mo : MoA PL := fun _ _ _ _ s h => LO.mo prO_mo s h
def StL (H : Hp) (q : Addr) (ss : List Nat) : Prop := LI H q (rowI ss)
theorem stL_mo : MoA StL := fun _ _ _ _ s h => s _ _ h trivial
def kyL (x : List Int) : List Key := x.map Sum.inl
theorem kyL_kV (x : List Int) : (kyL x).map kV = x.map V.int := by
  unfold kyL
  rw [List.map_map]
  rfl
theorem kyL_inj {x y : List Int} (h : kyL x = kyL y) : x = y := by
  unfold kyL at h
  exact List.map_inj_right (fun a b e => Sum.inl.inj e) |>.mp h
/-- a dict of contents: the tuples of its keys, what it tells of each -/
def DKs {α : Type} (R : Hp → V → α → Prop) (H : Hp) (ks : List (List Key × Addr × V)) (es : List (List Int × α)) : Prop := Paired (fun (p : List Key × Addr × V) (e : List Int × α) => p.1 = kyL e.1 ∧ TupN H p.2.1 (e.1.map V.int) ∧ R H p.2.2 e.2) ks es
def DL (P : Program) (w : World) {α : Type} (R : Hp → V → α → Prop) (H : Hp) (d : Addr) (es : List (List Int × α)) : Prop := ∃ ks, H d = some (DX P w d ks) ∧ DKs R H ks es
theorem DKs.mo {α : Type} {R : Hp → V → α → Prop} (m : Mo R) {H H' : Hp} {ks : List (List Key × Addr × V)} {es : List (List Int × α)} (s : SameL H H') (h : DKs R H ks es) : DKs R H' ks es := h.mono fun _ _ ⟨a, b, c⟩ => ⟨a, tupN_mo s b, m _ _ _ _ s c⟩
theorem tupN_rd {H : Hp} {q : Addr} {xs : List V} (h : TupN H q xs) : Rd H q (.tup xs) := let ⟨o, _, _, e⟩ := h; .inr ⟨o, e⟩
theorem DKs.at_ {α : Type} {R : Hp → V → α → Prop} {H : Hp} {ks : List (List Key × Addr × V)} {es : List (List Int × α)} (h : DKs R H ks es) : KeysAt H ks := by
  induction h with
  | nil => intro p hp; exact nomatch hp
  | @cons p e ps es h t ih =>
    intro x hx
    rcases List.mem_cons.mp hx with z | z
    · subst z
      rw [h.1, kyL_kV]
      exact tupN_rd h.2.1
    · exact ih x z
theorem DKs.val {α : Type} {R : Hp → V → α → Prop} {H : Hp} {ks : List (List Key × Addr × V)} {es : List (List Int × α)} (h : DKs R H ks es) (nd : (es.map (·.1)).Nodup) {x : List Int} {a : α} (m : (x, a) ∈ es) : ∃ v, valX ks (kyL x) = some v ∧ R H v a := by
  induction h with
  | nil => exact nomatch m
  | @cons p e ps es h t ih =>
    rw [List.map_cons, List.nodup_cons] at nd
    unfold valX at ih ⊢
    rw [List.find?_cons]
    rcases List.mem_cons.mp m with z | z
    · subst z
      rw [decide_eq_true h.1]
      exact ⟨_, rfl, h.2.2⟩
    · have hne : ¬ p.1 = kyL x := fun e2 => nd.1 (by
        have := kyL_inj (h.1.symm.trans e2)
        rw [this]
        exact List.mem_map.mpr ⟨_, z, rfl⟩)
      rw [decide_eq_false hne]
      exact ih nd.2 z
theorem DKs.new {α : Type} {R : Hp → V → α → Prop} {H : Hp} {ks : List (List Key × Addr × V)} {es : List (List Int × α)} (h : DKs R H ks es) {x : List Int} (n : x ∉ es.map (·.1)) (b : Addr) (v : V) : putX ks (kyL x) b v = ks ++ [(kyL x, b, v)] := by
  have : (ks.find? fun p => decide (p.1 = kyL x)) = none := by
    rw [List.find?_eq_none]
    intro p hp e
    have e := of_decide_eq_true e
    have go : ∀ {ks : List (List Key × Addr × V)} {es : List (List Int × α)}, DKs R H ks es → p ∈ ks → ∃ q ∈ es, p.1 = kyL q.1 := by
      intro ks es h
      induction h with
      | nil => intro z; exact nomatch z
      | @cons p' e' ps es h t ih =>
        intro z
        rcases List.mem_cons.mp z with z | z
        · subst z; exact ⟨e', List.mem_cons_self, h.1⟩
        · obtain ⟨q, hq, e⟩ := ih z; exact ⟨q, List.mem_cons_of_mem _ hq, e⟩
    obtain ⟨q, hq, e2⟩ := go h hp
    exact n (List.mem_map.mpr ⟨q, hq, kyL_inj (e2.symm.trans e)⟩)
  unfold putX
  rw [this]
  rfl
theorem DKs.snoc {α : Type} {R : Hp → V → α → Prop} {H : Hp} {ks : List (List Key × Addr × V)} {es : List (List Int × α)} (h : DKs R H ks es) {x : List Int} {a : α} {b : Addr} {v : V} (hb : TupN H b (x.map V.int)) (hv : R H v a) : DKs R H (ks ++ [(kyL x, b, v)]) (es ++ [(x, a)]) := Paired.snoc h ⟨rfl, hb, hv⟩
theorem DKs.len {α : Type} {R : Hp → V → α → Prop} {H : Hp} {ks : List (List Key × Addr × V)} {es : List (List Int × α)} (h : DKs R H ks es) : ks.length = es.length := Paired.length h
theorem dx_nox {P : Program} {w : World} {d : Addr} {ks : List (List Key × Addr × V)} : ¬ NoX (DX P w d ks) := fun h => h
theorem DL.mo {α : Type} {R : Hp → V → α → Prop} (m : Mo R) {H H' : Hp} {d : Addr} {es : List (List Int × α)} (s : Same H H') (h : DL P w R H d es) : DL P w R H' d es := let ⟨ks, a, b⟩ := h; ⟨ks, s _ _ a, b.mo m (.of s)⟩
/-- the turns of a dict's making: the new dict at D -/
structure PvD (P : Program) (w : World) {α : Type} (R : Hp → V → α → Prop) (es : List (List Int × α)) (H1 : Hp) (D : Addr) (i : Nat) (H : Hp) : Prop where
  s : Same H1 H
  d : DL P w R H D (es.take i)
theorem PvD.zero {α : Type} {R : Hp → V → α → Prop} {es : List (List Int × α)} {H1 : Hp} {D : Addr} (h : H1 D = none) : PvD P w R es H1 D 0 (upd H1 D (DX P w D [])) := ⟨sameN h, [], upd_same, .nil⟩
theorem PvD.put {α : Type} {R : Hp → V → α → Prop} (m : Mo R) {es : List (List Int × α)} (nd : (es.map (·.1)).Nodup) (hz : es.length ≤ 16777216) {H1 : Hp} {D : Addr} {i : Nat} {H H5 : Hp} (p : PvD P w R es H1 D i H) (hD : H1 D = none) (hi : i < es.length) (s : Same H H5) {b : Addr} {z : V} (hb : TupN H5 b (es[i].1.map V.int)) (hv : R H5 z es[i].2) :
    ∃ kvs k b', V.ref b = .ref b' ∧ Rd H5 b' (.tup (k.map kV)) ∧ H5 D = some (DX P w D kvs) ∧ KeysAt H5 kvs ∧ kvs.length < sizeLine ∧ PvD P w R es H1 D (i + 1) (upd H5 D (DX P w D (putX kvs k b' z))) := by
  obtain ⟨ks, hd, hk⟩ := p.d.mo m s
  have hlen : ks.length = i := by rw [hk.len, List.length_take]; omega
  have sl : SameL H5 (upd H5 D (DX P w D (putX ks (kyL es[i].1) b z))) := .up hd dx_nox
  have nw : es[i].1 ∉ (es.take i).map (·.1) := fun hm => by
    rw [List.map_take] at hm
    obtain ⟨j, hj, e⟩ := List.mem_iff_getElem.mp hm
    rw [List.length_take, List.length_map] at hj
    rw [List.getElem_take, List.getElem_map] at e
    have := (List.getElem_inj (h₀ := by rw [List.length_map]; omega) (h₁ := by rw [List.length_map]; omega) nd (i := j) (j := i)).mp (by rw [List.getElem_map, List.getElem_map]; exact e)
    omega
  refine ⟨ks, kyL es[i].1, b, rfl, by rw [kyL_kV]; exact tupN_rd hb, hd, hk.at_, by show ks.length < 16777216; omega, fun x o e => ?_, _, upd_same, ?_⟩
  · rw [upd_ne (ne_of_none e hD)]
    exact s _ _ (p.s _ _ e)
  · rw [hk.new nw, List.take_add_one, List.getElem?_eq_getElem hi]
    exact (hk.snoc hb hv).mo m (by rw [← hk.new nw]; exact sl)
theorem same_unlock {H H' : Hp} {d : Addr} {u : HO} {od : Obj} (h : H d = some u) (s : Same (upd H d (.frz od u)) H') : Same H (upd H' d u) := fun x o e => by
  by_cases hx : x = d
  · subst hx
    rw [h] at e
    rw [upd_same]
    exact e
  · rw [upd_ne hx]
    exact s _ _ (by rw [upd_ne hx]; exact e)
theorem sameL_unlock {H' : Hp} {d : Addr} {od : Obj} {ks : List (List Key × Addr × V)} (h : H' d = some (.frz od (DX P w d ks))) : SameL H' (upd H' d (DX P w d ks)) := .up h fun h => h

/-- the address D hidden -/
def hid (D : Addr) (H : Hp) : Hp := fun x => if x = D then none else H x
theorem hid_ne {D x : Addr} {H : Hp} (h : x ≠ D) : hid D H x = H x := if_neg h
theorem hid_some {D x : Addr} {H : Hp} {o : HO} (h : hid D H x = some o) : x ≠ D ∧ H x = some o := by
  unfold hid at h
  split at h
  · cases h
  · exact ⟨by assumption, h⟩
theorem hid_same {D : Addr} {H H' : Hp} (s : Same H H') : Same (hid D H) (hid D H') := fun x o e => by
  obtain ⟨a, b⟩ := hid_some e
  rw [hid_ne a]
  exact s _ _ b
theorem hid_upd {D : Addr} {H : Hp} {o : HO} : Same (hid D H) (hid D (upd H D o)) := fun x u e => by
  obtain ⟨a, b⟩ := hid_some e
  rw [hid_ne a, upd_ne a]
  exact b
theorem hid_of {D : Addr} {H : Hp} : Same (hid D H) H := fun x u e => (hid_some e).2
theorem hid_in {D : Addr} {H H1 : Hp} (hD : H1 D = none) (s : Same H1 H) : Same H1 (hid D H) := fun x u e => by
  rw [hid_ne (ne_of_none e hD)]
  exact s _ _ e
/-- a list that grows at D -/
structure PvA {α : Type} (f : Hp → Addr → α → Prop) (H1 : Hp) (D : Addr) (done : List α) (H : Hp) : Prop where
  s : Same H1 H
  d : ∃ as : List Addr, H D = some (.lst (as.map V.ref)) ∧ Paired (f (hid D H)) as done
theorem PvA.zero {α : Type} {f : Hp → Addr → α → Prop} {H1 : Hp} {D : Addr} (h : H1 D = none) : PvA f H1 D [] (upd H1 D (.lst [])) := ⟨sameN h, [], upd_same, .nil⟩
theorem PvA.keep {α : Type} {f : Hp → Addr → α → Prop} (m : MoA f) {H1 H H' : Hp} {D : Addr} {done : List α} (p : PvA f H1 D done H) (s : Same H H') : PvA f H1 D done H' := by
  obtain ⟨as, e, q⟩ := p.d
  exact ⟨p.s.trans s, as, s _ _ e, q.mono fun _ _ z => m _ _ _ _ (.of (hid_same s)) z⟩
theorem PvA.ext {α : Type} {f : Hp → Addr → α → Prop} (m : MoA f) {H1 H H4 : Hp} {D : Addr} {done : List α} (p : PvA f H1 D done H) (hD : H1 D = none) (s : Same H H4) (hz : done.length < 16777216) {q : Addr} {b : α} (hq : f (hid D H4) q b) :
    ∃ acc, H4 D = some (.lst acc) ∧ acc.length < sizeLine ∧ PvA f H1 D (done ++ [b]) (upd H4 D (.lst (acc ++ [V.ref q]))) := by
  obtain ⟨as, e, r⟩ := p.d
  refine ⟨_, s _ _ e, ?_, fun x o hx => ?_, as ++ [q], ?_, ?_⟩
  · rw [List.length_map, r.length]; exact hz
  · rw [upd_ne (ne_of_none hx hD)]
    exact s _ _ (p.s _ _ hx)
  · rw [upd_same, List.map_append]; rfl
  · refine Paired.snoc (r.mono fun _ _ z => m _ _ _ _ (.of ((hid_same s).trans hid_upd)) z) (m _ _ _ _ (.of hid_upd) hq)
theorem PvA.fin {α : Type} {f : Hp → Addr → α → Prop} (m : MoA f) {H1 H : Hp} {D : Addr} {done : List α} (p : PvA f H1 D done H) : LO f H D done := by
  obtain ⟨as, e, q⟩ := p.d
  exact ⟨as, e, q.mono fun _ _ z => m _ _ _ _ (.of hid_of) z⟩
theorem LO.at_ {α : Type} {f : Hp → Addr → α → Prop} {H : Hp} {as : List Addr} {xs : List α} (h : Paired (f H) as xs) {i : Nat} {v : V} (e : (as.map V.ref)[i]? = some v) : ∃ (a : Addr) (hi : i < xs.length), v = .ref a ∧ f H a xs[i] := by
  rw [List.getElem?_map] at e
  obtain ⟨a, e1, e2⟩ := Option.map_eq_some_iff.mp e
  obtain ⟨y, hy, r⟩ := paired_get h e1
  obtain ⟨hi, e3⟩ := List.getElem?_eq_some_iff.mp hy
  exact ⟨a, hi, e2.symm, by rw [e3]; exact r⟩
def IntV (_ : Hp) (v : V) (n : Int) : Prop := v = .int n
theorem intV_mo : Mo IntV := fun _ _ _ _ _ h => h
def sp_count_of (P : Program) (w : World) (T : Addr) : Sp := fun vs H Q _ => ∃ (q c : Addr) (ps : Prs) (es : List (List Int × Int)) (f : List Int → Int), vs = [V.ref q, V.ref c] ∧ PL H q ps ∧ DL P w IntV H c es ∧ (es.map (·.1)).Nodup ∧ (∀ p ∈ ps, (p.2, f p.2) ∈ es) ∧ H T = some (TabO T) ∧ ∀ H', Same H H' → Q (.int (ps.map fun p => f p.2).sum) H'
def sp_told_of (P : Program) (w : World) : Sp := fun vs H Q _ => ∃ (q c : Addr) (ps : Prs) (es : List (List Int × List (Nat × List (Nat × Nat)))) (f : List Int → List (Nat × List (Nat × Nat))), vs = [V.ref q, V.ref c] ∧ PL H q ps ∧ DL P w (AtN WL) H c es ∧ (es.map (·.1)).Nodup ∧ (∀ p ∈ ps, (p.2, f p.2) ∈ es) ∧ (ps.flatMap fun p => f p.2).length ≤ 1000 ∧ (∀ p ∈ ps, ∀ v ∈ f p.2, v.2.length ≤ 1000) ∧ ∀ p H', Same H H' → H p = none → WL H' p (ps.flatMap fun p => (f p.2).map fun v => (v.1, v.2 ++ [p.1])) → Q (.ref p) H'
def sp_all_before (P : Program) (w : World) : Sp := fun vs H Q _ => ∃ (d : Addr) (es : List (List Int × Prs)), vs = [V.ref d] ∧ DL P w (AtN PL) H d es ∧ (es.flatMap fun e => e.2.map (·.2)).length ≤ 16777215 ∧ ∀ p H', Same H H' → H p = none → LO (fun H q x => TupN H q (x.map V.int)) H' p (nxt es) → Q (.ref p) H'

theorem ok_count_of {f : Addr} {fd : FuncData} {c : Addr} (F : FunC K "count_of" "count_of" s_count_of f fd c) (B : Bl mg) {T : Addr} (TB_count_of : TabB base mg c T) : FnOk P w K mg base CX0 4 f fd ["pairs", "counts"] (sp_count_of P w T) := by
  refine F.ok sc_count_of (fun vs H Q E h => ?_) (fun A outer s H vs Q E hr h => ?_)
  · obtain ⟨q0, c0, ps, es, fV, rfl, _⟩ := h; rfl
  · obtain ⟨q0, c0, ps, es, fV, rfl, ⟨as, ha, hps⟩, hc, hnd, hin, hT, q⟩ := h
    have hcode : (cxOf CX0 P w K mg base ["pairs", "counts"] "count_of" (defScope s_count_of) f (.ref c) A outer s H E).nox.env.code = .ref c := rfl
    have nd := sc_count_of.nd
    refine ⟨_, (pss_one (ps_ret (pe_sumG (ns := [("counts", 1)]) (xs := ["_", "before"]) (g := gTup K 2 (gCons (gName 0) (gCons (gName 1) gNil))) (k' := 0) (hr.mono (by decide)) (by rfl) B.sum TB_count_of hcode (gokV_by (N := ["pairs", "counts"]) (sc := defScope s_count_of) (by decide +kernel)) (pi_list (pv 0)) (fun s H C code fp A => (pg_tup (by rfl) (pgs_cons (pg_name (i := 0) (show (["_", "before", "counts"] : List Str).Nodup by decide) rfl (Or.inl rfl)) (pgs_cons (pg_name (i := 1) (show (["_", "before", "counts"] : List Str).Nodup by decide) rfl (Or.inl rfl)) pgs_nil)))) (fun s H C code fp A hq => (pe_dgetXK (P := P) (w := w) rfl rfl (u1 hq) (pv 2) (pv 1) (fun _ _ => rfl)))))), ?_⟩
    have hl : as.length = ps.length := hps.length
    refine ⟨.ref q0, rfl, q0, rfl, ⟨_, SqL.of ha⟩, hT, (ps.map fun p => fV p.2).length, fun i => (ps.map fun p => fV p.2).getD i 0, fun S hS => ⟨fun i H' => Same H H' ∧ H' S = some (.lst [.int (preSum (fun i => (ps.map fun p => fV p.2).getD i 0) i)]), ⟨same_new hS, upd_same⟩, fun H' ⟨e1, e2⟩ => ⟨⟨_, SqL.of (e1 _ _ ha), by rw [List.length_map, List.length_map, hl]; exact Nat.le_refl _⟩, ?_⟩, fun i H' hi ⟨e1, e2⟩ => ?_⟩⟩
    · rw [preSum_list]
      exact q H' e1
    · rw [List.length_map] at hi
      have hia : i < (as.map V.ref).length := by rw [List.length_map]; omega
      refine ⟨⟨_, _, SqL.of (e1 _ _ ha), List.getElem?_eq_getElem hia⟩, fun y H2 hy => ?_⟩
      obtain ⟨rfl, hy⟩ := hy
      obtain ⟨a, hi', rfl, x, b, hpa, hst, hb⟩ := LO.at_ hps (hy _ (SqL.of (e1 _ _ ha)))
      refine ⟨a, _, rfl, SqT.of (e1 _ _ hpa), rfl, _, _, rfl, _, _, rfl, rfl, keep2_2, ?_⟩
      obtain ⟨ks, hd, hk⟩ := DL.mo intV_mo e1 hc
      obtain ⟨v, hv, rfl⟩ := hk.val hnd (hin _ (List.getElem_mem hi'))
      have hb' := tupN_mo (.of e1) hb
      refine ⟨.ref c0, rfl, .ref b, rfl, c0, ks, b, kyL ps[i].2, _, rfl, rfl, hd, hk.at_, by rw [kyL_kV]; exact tupN_rd hb', hv, ?_, e2, fun z u hz => ?_, upd_same⟩
      · show V.int (fV ps[i].2) = V.int ((ps.map fun p => fV p.2).getD i 0)
        rw [List.getD_eq_getElem?_getD, List.getElem?_eq_getElem (by rw [List.length_map]; exact hi'), List.getElem_map]
        rfl
      · rw [upd_ne (ne_of_none hz hS)]
        exact e1 _ _ hz

theorem take_flat {α β : Type} (g : α → List β) (l : List α) {i : Nat} (h : i < l.length) : (l.take (i + 1)).flatMap g = (l.take i).flatMap g ++ g l[i] := by
  rw [List.take_add_one, List.getElem?_eq_getElem h, List.flatMap_append]
  show _ ++ [l[i]].flatMap g = _
  rw [List.flatMap_cons, List.flatMap_nil, List.append_nil]
theorem flat_pre {α β : Type} (g : α → List β) (l : List α) {i : Nat} (h : i < l.length) : ((l.take i).flatMap g).length + (g l[i]).length ≤ (l.flatMap g).length := by
  conv => rhs; rw [← List.take_append_drop (i + 1) l, List.flatMap_append, take_flat g l h]
  simp only [List.length_append]
  omega

theorem ok_told_of {f : Addr} {fd : FuncData}  (F : Fun K "told_of" "told_of" s_told_of f fd) (B : Bl mg)  : FnOk P w K mg base CX0 1 f fd ["pairs", "told"] (sp_told_of P w) := by
  refine F.ok sc_told_of (fun vs H Q E h => ?_) (fun cdv A outer s H vs Q E hr h => ?_)
  · obtain ⟨q0, c0, ps, es, fV, rfl, _⟩ := h; rfl
  · obtain ⟨q0, c0, ps, es, fV, rfl, ⟨as, ha, hps⟩, hc, hnd, hin, hz, hzs, q⟩ := h
    have nd := sc_told_of.nd
    refine ⟨_, (pss_one (ps_ret (pe_lc2 (own := [("step", 2), ("before", 3), ("start", 4), ("steps", 5)]) (g := (gTup K 2 (gCons (gName 2) (gCons (gName 3) gNil)))) (vs1 := [4, 5]) (g1 := (gTup K 2 (gCons (gName 4) (gCons (gName 5) gNil)))) rfl nd (pi_list (pv 0)) (blkOk_by (own := [("step", 2), ("before", 3), ("start", 4), ("steps", 5)]) (N := ["pairs", "told", "step", "before", "start", "steps"]) (sc := defScope s_told_of) (by decide +kernel)) (by decide) (fun _ _ _ _ _ => (pg_tup (by rfl) (pgs_cons (pg_name (i := 2) nd rfl (Or.inl rfl)) (pgs_cons (pg_name (i := 3) nd rfl (Or.inl rfl)) pgs_nil)))) (fun _ _ _ _ _ => pts_nil) (fun _ _ _ _ _ => (pi_listK (K := K) rfl (pe_dgetXK (P := P) (w := w) rfl rfl (u1 hr) (pv 1) (pv 3) (fun _ _ => rfl)))) (fun _ _ _ _ _ => (pg_tup (by rfl) (pgs_cons (pg_name (i := 4) nd rfl (Or.inl rfl)) (pgs_cons (pg_name (i := 5) nd rfl (Or.inl rfl)) pgs_nil)))) (fun _ _ _ _ _ => pts_nil) (fun _ _ _ _ _ => (pe_tup (pa_cons (pv 4) (pa_cons (pe_op op_cat (pv 5) (pe_lst (pa_cons (pv 2) pa_nil))) pa_nil))))))), ?_⟩
    have hl : as.length = ps.length := hps.length
    refine ⟨.ref q0, rfl, q0, rfl, ⟨_, SqL.of ha⟩, fun D hD => ⟨fun i m H' => m = ps.length - i ∧ i ≤ ps.length ∧ PvA WyO H D ((ps.take i).flatMap fun p => (fV p.2).map fun v => (v.1, v.2 ++ [p.1])) H', ⟨_, rfl, Nat.zero_le _, PvA.zero hD⟩, fun i m H' ⟨hm, hi, pv⟩ => ?_⟩⟩
    by_cases hlt : i < ps.length
    · refine .inr ⟨⟨_, _, SqL.of (pv.s _ _ ha), List.getElem?_eq_getElem (by rw [List.length_map]; omega)⟩, fun H' => PvA WyO H D ((ps.take (i + 1)).flatMap fun p => (fV p.2).map fun v => (v.1, v.2 ++ [p.1])) H', fun H2 p2 => ⟨ps.length - (i + 1), by omega, rfl, hlt, p2⟩, fun y H2 hy => ?_⟩
      obtain ⟨rfl, hy⟩ := hy
      obtain ⟨a, hi', rfl, x, b, hpa, hst, hb⟩ := LO.at_ hps (hy _ (SqL.of (pv.s _ _ ha)))
      obtain ⟨ks, hd, hk⟩ := hc
      obtain ⟨v, hv, q1, rfl, as1, ha1, hws⟩ := hk.val hnd (hin _ (List.getElem_mem hi'))
      have hb' := tupN_mo (.of pv.s) hb
      have hl1 : as1.length = (fV ps[i].2).length := hws.length
      refine ⟨a, _, rfl, SqT.of (pv.s _ _ hpa), rfl, _, _, rfl, _, _, rfl, rfl, rfl, ?_⟩
      refine ⟨.ref c0, rfl, .ref b, rfl, c0, ks, b, kyL ps[i].2, _, rfl, rfl, pv.s _ _ hd, (hk.mo (AtN.mo wl_mo) (.of pv.s)).at_, by rw [kyL_kV]; exact tupN_rd hb', hv, q1, rfl, ⟨_, SqL.of (pv.s _ _ ha1)⟩, ?_⟩
      have pre := flat_pre (fun p => fV p.2) ps hi'
      have plen : ((ps.take i).flatMap fun p => (fV p.2).map fun v => (v.1, v.2 ++ [p.1])).length = ((ps.take i).flatMap fun p => fV p.2).length := by
        rw [List.length_flatMap, List.length_flatMap]
        congr 1
        exact List.map_congr_left fun p _ => by rw [List.length_map]
      refine ⟨fun j k H' => k = (fV ps[i].2).length - j ∧ j ≤ (fV ps[i].2).length ∧ PvA WyO H D (((ps.take i).flatMap fun p => (fV p.2).map fun v => (v.1, v.2 ++ [p.1])) ++ (((fV ps[i].2).take j).map fun v => (v.1, v.2 ++ [ps[i].1]))) H', ⟨_, rfl, Nat.zero_le _, by rw [List.take_zero, List.map_nil, List.append_nil]; exact pv⟩, fun j k H3 ⟨hk3, hj, p3⟩ => ?_⟩
      by_cases hjl : j < (fV ps[i].2).length
      · refine .inr ⟨⟨_, _, SqL.of (p3.s _ _ ha1), List.getElem?_eq_getElem (by rw [List.length_map]; omega)⟩, fun H' => PvA WyO H D (((ps.take i).flatMap fun p => (fV p.2).map fun v => (v.1, v.2 ++ [p.1])) ++ (((fV ps[i].2).take (j + 1)).map fun v => (v.1, v.2 ++ [ps[i].1]))) H', fun H4 p4 => ⟨(fV ps[i].2).length - (j + 1), by omega, rfl, hjl, p4⟩, fun y H4 hy => ?_⟩
        obtain ⟨rfl, hy⟩ := hy
        obtain ⟨a2, hj', rfl, q2, h2, as2, ha2, hst2⟩ := LO.at_ hws (hy _ (SqL.of (p3.s _ _ ha1)))
        have z2 := hzs _ (List.getElem_mem hi') _ (List.getElem_mem hj')
        have hl2 : as2.length = (fV ps[i].2)[j].2.length := hst2.length
        refine ⟨a2, _, rfl, SqT.of (p3.s _ _ h2), rfl, _, _, rfl, _, _, rfl, rfl, rfl, ?_⟩
        refine ⟨.int ((fV ps[i].2)[j].1 : Nat), rfl, .ref q2, rfl, .ref x, rfl, by show 1 ≤ 16777216; decide, fun p1 np1 => ?_⟩
        refine ⟨q2, p1, _, _, rfl, rfl, sameN np1 _ _ (p3.s _ _ ha2), upd_same, by rw [List.length_map]; show as2.length + 1 ≤ 16777216; omega, fun p2 np2 => ?_⟩
        refine ⟨by show 2 ≤ 16777216; decide, fun p3' np3 => ?_⟩
        have s5 : Same H4 (upd H4 p1 (HO.lst [V.ref x])) := sameN np1
        generalize upd H4 p1 (HO.lst [V.ref x]) = H5 at np2 np3 s5
        have s6 : Same H5 (upd H5 p2 (HO.lst (as2.map V.ref ++ [V.ref x]))) := sameN np2
        have at6 : upd H5 p2 (HO.lst (as2.map V.ref ++ [V.ref x])) p2 = some (.lst (as2.map V.ref ++ [V.ref x])) := upd_same
        generalize upd H5 p2 (HO.lst (as2.map V.ref ++ [V.ref x])) = H6 at np3 s6 at6
        obtain ⟨acD, hD4, _⟩ := p3.d
        have hD5 := s5 _ _ hD4
        have n2 : p2 ≠ D := fun e => by rw [e, hD5] at np2; cases np2
        have n3 : p3' ≠ D := fun e => by rw [e, s6 _ _ hD5] at np3; cases np3
        have s7 : Same H6 (upd H6 p3' (.tup [V.int ((fV ps[i].2)[j].1 : Nat), .ref p2])) := sameN np3
        have s47 := (s5.trans s6).trans s7
        have at7 : upd H6 p3' (.tup [V.int ((fV ps[i].2)[j].1 : Nat), .ref p2]) p3' = some (.tup [V.int ((fV ps[i].2)[j].1 : Nat), .ref p2]) := upd_same
        generalize upd H6 p3' (.tup [V.int ((fV ps[i].2)[j].1 : Nat), .ref p2]) = H7 at s7 s47 at7
        have sD : Same H (hid D H7) := hid_in hD (p3.s.trans s47)
        obtain ⟨acc, e1, e2, e3⟩ := p3.ext wyO_mo hD s47 (q := p3') (b := ((fV ps[i].2)[j].1, (fV ps[i].2)[j].2 ++ [ps[i].1])) (by rw [List.length_append, plen, List.length_map, List.length_take]; omega) ⟨p2, by rw [hid_ne n3]; exact at7, as2 ++ [x], by rw [hid_ne n2, List.map_append]; exact s7 _ _ at6, Paired.snoc (hst2.mono fun a s h => sD _ _ h) (sD _ _ hst)⟩
        refine ⟨acc, e1, e2, ?_⟩
        rw [List.take_add_one, List.getElem?_eq_getElem hj', List.map_append, ← List.append_assoc]
        exact e3
      · have ej : j = (fV ps[i].2).length := by omega
        subst ej
        refine .inl ⟨⟨_, SqL.of (p3.s _ _ ha1), by rw [List.length_map, hl1]; exact Nat.le_refl _⟩, ?_⟩
        rw [List.take_length] at p3
        rw [take_flat _ ps hi']
        exact p3
    · have ei : i = ps.length := by omega
      subst ei
      refine .inl ⟨⟨_, SqL.of (pv.s _ _ ha), by rw [List.length_map, hl]; exact Nat.le_refl _⟩, ?_⟩
      rw [List.take_length] at pv
      exact q D H' pv.s hD (pv.fin wyO_mo)

def TruV (_ : Hp) (v : V) (_ : Unit) : Prop := v = .bl true
theorem truV_mo : Mo TruV := fun _ _ _ _ _ h => h
theorem paired_mapL {α β : Type} {F : α → β → Prop} {g : α → α} (hg : ∀ a b, F a b → F (g a) b) : ∀ {l : List α} {m : List β}, Paired F l m → Paired F (l.map g) m
  | _, _, .nil => .nil
  | _, _, .cons h t => .cons (hg _ _ h) (paired_mapL hg t)
theorem paired_mapR {α β γ δ : Type} {F : α → β → Prop} {G : γ → δ → Prop} {f : α → γ} {g : β → δ} (hg : ∀ a b, F a b → G (f a) (g b)) : ∀ {l : List α} {m : List β}, Paired F l m → Paired G (l.map f) (m.map g)
  | _, _, .nil => .nil
  | _, _, .cons h t => .cons (hg _ _ h) (paired_mapR hg t)
abbrev onesU (xs : List (List Int)) : List (List Int × Unit) := xs.map fun x => (x, ())
theorem DKs.putU {H : Hp} {ks : List (List Key × Addr × V)} {done : List (List Int)} (h : DKs TruV H ks (onesU done)) {x : List Int} {b : Addr} (hb : TupN H b (x.map V.int)) : DKs TruV H (putX ks (kyL x) b (.bl true)) (onesU (ddA done [x])) := by
  have e0 : ddA done [x] = if x ∈ done then done else done ++ [x] := rfl
  rw [e0]
  by_cases hx : x ∈ done
  · rw [if_pos hx]
    unfold putX
    split
    · refine paired_mapL (fun a e he => ?_) h
      split
      · exact ⟨he.1, he.2.1, rfl⟩
      · exact he
    · rename_i hn
      refine absurd ?_ hn
      have go : ∀ {ks : List (List Key × Addr × V)} {es : List (List Int × Unit)}, DKs TruV H ks es → (x, ()) ∈ es → (ks.find? fun p => decide (p.1 = kyL x)).isSome = true := by
        intro ks es h
        induction h with
        | nil => intro z; exact nomatch z
        | @cons p' e' ps es h t ih =>
          intro z
          rw [List.find?_cons]
          by_cases hp : p'.1 = kyL x
          · rw [decide_eq_true hp]; rfl
          · rw [decide_eq_false hp]
            rcases List.mem_cons.mp z with z | z
            · exact absurd (h.1.trans (by rw [← z])) hp
            · exact ih z
      exact go h (List.mem_map.mpr ⟨x, hx, rfl⟩)
  · rw [if_neg hx, h.new (by rw [List.map_map]; intro hm; obtain ⟨y, hy, e⟩ := List.mem_map.mp hm; exact hx (e ▸ hy))]
    have := h.snoc (x := x) (a := ()) (v := .bl true) hb rfl
    unfold onesU at this ⊢
    rw [List.map_append]
    exact this
abbrev CtO : Hp → Addr → List Int → Prop := fun H q x => TupN H q (x.map V.int)
theorem ctO_mo : MoA CtO := fun _ _ _ _ s h => tupN_mo s h
theorem dd_len_le {done l : List (List Int)} : (ddA done l).length ≤ done.length + l.length := len_ddA
/-- what was found so far -/
structure PvU (P : Program) (w : World) (H1 : Hp) (D : Addr) (done : List (List Int)) (H : Hp) : Prop where
  s : Same H1 H
  d : DL P w TruV H D (onesU done)

theorem ok_all_before {f : Addr} {fd : FuncData}  (F : Fun K "all_before" "all_before" s_all_before f fd) (B : Bl mg)  : FnOk P w K mg base CX0 1 f fd ["layer"] (sp_all_before P w) := by
  refine F.ok sc_all_before (fun vs H Q E h => ?_) (fun cdv A outer s H vs Q E hr h => ?_)
  · obtain ⟨d, es, rfl, _⟩ := h; rfl
  · obtain ⟨d, es, rfl, ⟨ks, hd, hk⟩, hz, q⟩ := h
    have nd := sc_all_before.nd
    refine ⟨_, (pss_cons (ps_set (i := 1) nd rfl (Or.inl rfl) pe_dnewX)
      (pss_cons (ps_lock (ps_for PassesOwn.never rfl (pi_valuesX (pv 0)) (pg_name (i := 2) nd rfl (Or.inl rfl)) (pss_one (ps_for PassesOwn.never rfl (pi_list (pv 2)) (pg_tup (by rfl) (pgs_cons (pg_name (i := 3) nd rfl (Or.inl rfl)) (pgs_cons (pg_name (i := 4) nd rfl (Or.inl rfl)) pgs_nil))) (pss_one (ps_dputX (u1 hr) (pv 1) (pv 4) pe_bl rfl))))))
      (pss_one (ps_ret (pe_callTy (cr_listX rfl) (by rfl) B.list (by decide +kernel) (pa_cons (pv 1) pa_nil)))))), ?_⟩
    refine fun p1 np1 => ?_
    have hdp : d ≠ p1 := fun e => by rw [e, np1] at hd; cases hd
    refine ⟨d, DX P w d ks, (upd_ne hdp).trans hd, trivial, fun od => ?_⟩
    have nB : upd H d (.frz od (DX P w d ks)) p1 = none := by rw [upd_ne (Ne.symm hdp)]; exact np1
    have sB : Same (upd H d (.frz od (DX P w d ks))) (upd (upd H p1 (DX P w p1 [])) d (.frz od (DX P w d ks))) := fun x o e => by
      by_cases hx : x = d
      · subst hx
        rw [upd_same] at e ⊢
        exact e
      · rw [upd_ne hx] at e ⊢
        rw [upd_ne (ne_of_none e np1)]
        exact e
    have lk : Same (upd H d (.frz od (DX P w d ks))) (upd H d (.frz od (DX P w d ks))) := sameR _
    have sl : SameL H (upd H d (.frz od (DX P w d ks))) := .up hd dx_nox
    have hkB := hk.mo (AtN.mo pl_mo) sl
    have hdB : upd H d (.frz od (DX P w d ks)) d = some (.frz od (DX P w d ks)) := upd_same
    have p1B : (upd (upd H p1 (DX P w p1 [])) d (.frz od (DX P w d ks))) p1 = some (DX P w p1 []) := by rw [upd_ne (Ne.symm hdp), upd_same]
    generalize hHB : upd H d (.frz od (DX P w d ks)) = HB at nB sB hkB hdB
    have hlen : ks.length = es.length := hk.len
    refine ⟨.ref d, rfl, d, od, ks, rfl, sB _ _ hdB, fun i m σ H' => m = es.length - i ∧ i ≤ es.length ∧ (∃ u v x, σ = [some (.ref d), some (.ref p1), u, v, x]) ∧ PvU P w HB p1 (ddA [] ((es.take i).flatMap fun e => e.2.map (·.2))) H', ⟨_, rfl, Nat.zero_le _, ⟨_, _, _, rfl⟩, sB, [], p1B, .nil⟩, fun i m σ H' hw => ?_⟩
    obtain ⟨hm, hi, ⟨u, v, x, rfl⟩, pv⟩ := hw
    by_cases hlt : i < es.length
    · refine .inr ⟨⟨pv.s _ _ hdB, by omega⟩, fun σ' H' => (∃ u v x, σ' = [some (.ref d), some (.ref p1), u, v, x]) ∧ PvU P w HB p1 (ddA [] ((es.take (i + 1)).flatMap fun e => e.2.map (·.2))) H', fun σ' H2 ⟨e2, p2⟩ => ⟨_, by omega, rfl, hlt, e2, p2⟩, fun y H2 hy => ?_⟩
      obtain ⟨rfl, pp, hpp, rfl⟩ := hy
      obtain ⟨ee, he, hke, htp, q1, hq1, as, ha, hps⟩ := paired_get hkB hpp
      obtain ⟨hi', rfl⟩ := List.getElem?_eq_some_iff.mp he
      have hl : as.length = es[i].2.length := hps.length
      have pre := flat_pre (fun e : List Int × Prs => e.2.map (·.2)) es hi'
      rw [List.length_map] at pre
      rw [hq1]
      refine ⟨.ref q1, rfl, q1, rfl, ⟨_, SqL.of (pv.s _ _ ha)⟩, fun j m σ H' => m = es[i].2.length - j ∧ j ≤ es[i].2.length ∧ (∃ v x, σ = [some (.ref d), some (.ref p1), some (.ref q1), v, x]) ∧ PvU P w HB p1 (ddA [] (((es.take i).flatMap fun e => e.2.map (·.2)) ++ (es[i].2.take j).map (·.2))) H', ⟨_, rfl, Nat.zero_le _, ⟨_, _, rfl⟩, by rw [List.take_zero, List.map_nil, List.append_nil]; exact pv⟩, fun j m σ H3 hw => ?_⟩
      obtain ⟨hm3, hj, ⟨v3, x3, rfl⟩, p3⟩ := hw
      by_cases hjl : j < es[i].2.length
      · refine .inr ⟨⟨_, _, SqL.of (p3.s _ _ ha), List.getElem?_eq_getElem (by rw [List.length_map]; omega)⟩, fun σ' H' => (∃ v x, σ' = [some (.ref d), some (.ref p1), some (.ref q1), v, x]) ∧ PvU P w HB p1 (ddA [] (((es.take i).flatMap fun e => e.2.map (·.2)) ++ (es[i].2.take (j + 1)).map (·.2))) H', fun σ' H4 ⟨e4, p4⟩ => ⟨_, by omega, rfl, hjl, e4, p4⟩, fun y H4 hy => ?_⟩
        obtain ⟨rfl, hy⟩ := hy
        obtain ⟨a2, hj', rfl, x2, b2, h2, hst, hb2⟩ := LO.at_ hps (hy _ (SqL.of (p3.s _ _ ha)))
        refine ⟨a2, _, rfl, SqT.of (p3.s _ _ h2), rfl, _, _, rfl, _, _, rfl, rfl, ?_⟩
        obtain ⟨kf, hf, hkf⟩ := p3.d
        have hlf := hkf.len
        have hb3 := tupN_mo (.of p3.s) hb2
        have dl := dd_len_le (done := []) (l := ((es.take i).flatMap fun e => e.2.map (·.2)) ++ (es[i].2.take j).map (·.2))
        refine ⟨.ref p1, rfl, .ref b2, rfl, p1, kf, b2, kyL es[i].2[j].2, rfl, rfl, hf, hkf.at_, ?_, by rw [kyL_kV]; exact tupN_rd hb3, ⟨_, _, rfl⟩, fun x o e => ?_, _, upd_same, ?_⟩
        · show kf.length < 16777216
          rw [hlf, List.length_map]
          rw [List.length_append, List.length_map, List.length_take] at dl
          simp only [List.length_nil] at dl
          omega
        · rw [upd_ne (ne_of_none e nB)]
          exact p3.s _ _ e
        · rw [List.take_add_one, List.getElem?_eq_getElem hj', List.map_append, ← List.append_assoc, ddA_app]
          exact (hkf.putU hb3).mo truV_mo (.up hf dx_nox)
      · have ej : j = es[i].2.length := by omega
        subst ej
        refine .inl ⟨⟨_, SqL.of (p3.s _ _ ha), by rw [List.length_map, hl]; exact Nat.le_refl _⟩, ⟨_, _, _, rfl⟩, ?_⟩
        rw [List.take_length] at p3
        rw [take_flat _ es hi']
        exact p3
    · have ei : i = es.length := by omega
      subst ei
      have hdH := pv.s _ _ hdB
      refine .inl ⟨⟨hdH, by omega⟩, hdH, ?_⟩
      rw [List.take_length] at pv
      obtain ⟨kf, hf, hkf⟩ := pv.d
      have sU : SameL H' (upd H' d (DX P w d ks)) := sameL_unlock hdH
      have sH : Same H (upd H' d (DX P w d ks)) := same_unlock hd (by rw [hHB]; exact pv.s)
      have hf2 : upd H' d (DX P w d ks) p1 = some (DX P w p1 kf) := by rw [upd_ne (Ne.symm hdp)]; exact hf
      have hk2 := hkf.mo truV_mo sU
      generalize upd H' d (DX P w d ks) = H9 at sH hf2 hk2
      refine ⟨.ref p1, rfl, p1, kf, rfl, hf2, fun l nl => ?_⟩
      have sn := sameN (o := HO.lst (kf.map fun p => V.ref p.2.1)) nl
      refine q l _ (sH.trans sn) (sH.free nl) ⟨kf.map (·.2.1), by rw [upd_same, List.map_map]; rfl, ?_⟩
      have := paired_mapR (F := fun (p : List Key × Addr × V) (e : List Int × Unit) => p.1 = kyL e.1 ∧ TupN H9 p.2.1 (e.1.map V.int) ∧ TruV H9 p.2.2 e.2) (G := CtO (upd H9 l (HO.lst (kf.map fun p => V.ref p.2.1)))) (f := fun p => p.2.1) (g := fun e => e.1) (fun a e h => tupN_mo (.of sn) h.2.1) hk2
      rw [List.map_map] at this
      have e9 : List.map ((fun e : List Int × Unit => e.1) ∘ fun x => (x, ())) (nxt es) = nxt es := List.map_id' _
      unfold nxt at e9 ⊢
      rw [e9] at this
      exact this

end
end K34
end

section
set_option Elab.async false
set_option linter.all false
set_option maxRecDepth 100000
set_option maxHeartbeats 4000000
namespace K34
open PySem PySem.Spec PyProof.Rows L2 GxR Gx Ma Mc
section
variable {P : Program} {w : World} {K : PySem.W.Frag} {mg : Str → Option Value} {base : Heap}

theorem cut_tail (xs : List V) : cutV xs (some 1) none = xs.drop 1 := by
  unfold cutV
  rw [show (1 : Int) = ((1 : Nat) : Int) from rfl, HT.sIx_nat, HT.sIx_none]
  by_cases h : 1 ≤ xs.length
  · rw [Nat.min_eq_left h, List.take_of_length_le (by rw [List.length_drop]; omega)]
  · rw [Nat.min_eq_right (by omega), List.drop_length, Nat.sub_self, List.drop_of_length_le (by omega)]
    rfl

/-- a dict made of the items of a locked one -/
theorem dc_items {α β : Type} {R : Hp → V → α → Prop} {R' : Hp → V → β → Prop} (mR : Mo R) (mR' : Mo R') {ks : List (List Key × Addr × V)} {es : List (List Int × α)} {es' : List (List Int × β)} (hf : es'.map (·.1) = es.map (·.1)) (nd : (es.map (·.1)).Nodup) (hz : es.length ≤ 16777216) {H : Hp} {d : Addr} {od : Obj} (hd : H d = some (.frz od (DX P w d ks))) (hk : DKs R H ks es)
    {g : TG} {tk tv : TE} {vs : List Nat} {σ : L2.St} {Q : VK}
    (step : ∀ (i : Nat) (hi : i < es.length) (hi' : i < es'.length) (T b : Addr) (v : V) (H2 : Hp) (Po : V → V → Hp → Prop), Same H H2 → H2 T = some (.tup [.ref b, v]) → R H2 v es[i].2 → (∀ z H5, Same H2 H5 → R' H5 z es'[i].2 → Po (.ref b) z H5) → g (.ref T) (wipe σ vs) H2 fun σ1 H3 => wipe σ1 vs = wipe σ vs ∧ tk σ1 H3 fun yk H4 => tv σ1 H4 fun z H5 => Po yk z H5)
    (fin : ∀ D H', Same H H' → H D = none → DL P w R' H' D es' → Q (.ref D) H') : rDcX P w g tk tv vs σ Q (Itix P w d od ks) H := by
  have hl : es'.length = es.length := by have := congrArg List.length hf; simpa using this
  have hks : ks.length = es.length := hk.len
  refine ⟨es.length, fun D hD => ⟨PvD P w R' es' H D, PvD.zero hD, fun H' pv => ⟨⟨pv.s _ _ hd, by omega⟩, ?_⟩, fun i H' hi pv => ⟨⟨pv.s _ _ hd, by omega⟩, fun y H2 hy => ?_⟩⟩⟩
  · have := pv.d
    rw [← hl, List.take_length] at this
    exact fin D H' pv.s hD this
  · obtain ⟨T, p, hp, rfl, nT, rfl⟩ := hy
    obtain ⟨e, he, hke, htp, hr⟩ := paired_get hk hp
    obtain ⟨hi1, rfl⟩ := List.getElem?_eq_some_iff.mp he
    have sT := sameN (o := HO.tup [V.ref p.2.1, p.2.2]) nT
    have s2 := pv.s.trans sT
    have hi2 : i < es'.length := by omega
    have e1 : es'[i].1 = es[i].1 := by
      have := List.getElem_of_eq hf (i := i) (by rw [List.length_map]; exact hi2)
      rw [List.getElem_map, List.getElem_map] at this
      exact this
    have nd' : (es'.map (·.1)).Nodup := by rw [hf]; exact nd
    refine step i hi1 hi2 T p.2.1 p.2.2 _ _ s2 upd_same (mR _ _ _ _ (.of s2) hr) fun z H5 s5 hz5 => ?_
    exact pv.put mR' nd' (by omega) hD hi2 (sT.trans s5) (by rw [e1]; exact tupN_mo (.of (s2.trans s5)) htp) hz5
/-- the layers: a list of dicts -/
structure LyA (P : Program) (w : World) (cs : List Mnu) (x : List Int) (T : Addr) (H : Hp) (l : Addr) (ds : List Addr) : Prop where
  at_ : H l = some (.lst (ds.map V.ref))
  len : ds.length = cs.length + 1
  bot : ∀ d, ds[0]? = some d → DL P w (AtN StL) H d ((ends cs x cs.length).map fun e => (e, startsOf e))
  lay : ∀ j d, j < cs.length → ds[j + 1]? = some d → DL P w (AtN PL) H d (lay cs x (cs.length - 1 - j))
  ne : ∀ d ∈ ds, d ≠ T
theorem LyA.keep {cs : List Mnu} {x : List Int} {T : Addr} {H H' : Hp} {l : Addr} {ds : List Addr} (h : LyA P w cs x T H l ds) (s : Same H H') : LyA P w cs x T H' l ds := ⟨s _ _ h.at_, h.len, fun d e => (h.bot d e).mo (AtN.mo stL_mo) s, fun j d hj e => (h.lay j d hj e).mo (AtN.mo pl_mo) s, h.ne⟩
def Szs (cs : List Mnu) (x : List Int) : Prop := ∀ d, d ≤ cs.length → (ends cs x d).length ≤ 16777215
def cntL (cs : List Mnu) (x : List Int) (d : Nat) : List (List Int × Int) := (ends cs x d).map fun e => (e, ((ways (backM cs (cs.length - d)) e).length : Int))
theorem pair_at {α : Type} {es : List (List Int)} {f : List Int → α} {l : List (List Int × α)} (h : l = es.map fun e => (e, f e)) {i : Nat} (hi : i < l.length) (he : i < es.length) : l[i].2 = f es[i] := by
  subst h
  rw [List.getElem_map]
theorem fst_map {α : Type} (es : List (List Int)) (f : List Int → α) : (es.map fun e => (e, f e)).map (·.1) = es := by
  rw [List.map_map]
  exact List.map_id' _
theorem at_z {ds : List Addr} {d : Addr} (h : ds[0]? = some d) : atI (ds.map V.ref) ((0 : Nat) : Int) = some (V.ref d) := atI_nat (by rw [List.getElem?_map, h]; rfl)
def sp_count_by (P : Program) (w : World) (T : Addr) : Sp := fun vs H Q _ => ∃ (l : Addr) (ds : List Addr) (cs : List Mnu) (x : List Int), vs = [V.ref l] ∧ LyA P w cs x T H l ds ∧ Szs cs x ∧ cs.length ≤ 1000 ∧ H T = some (TabO T) ∧ ∀ H', Same H H' → Q (.int ((ways (backM cs cs.length) x).length : Nat)) H'
theorem dx_ne {P : Program} {w : World} {H : Hp} {d : Addr} {α : Type} {R : Hp → V → α → Prop} {es : List (List Int × α)} (h : DL P w R H d es) : H d ≠ none := by
  obtain ⟨ks, e, _⟩ := h
  rw [e]
  exact fun z => nomatch z
theorem list_ne {P : Program} {w : World} {cs : List Mnu} {x : List Int} {T : Addr} {H : Hp} {l : Addr} {ds : List Addr} (h : LyA P w cs x T H l ds) {d : Addr} (hd : d ∈ ds) : H d ≠ none := by
  obtain ⟨j, hj, rfl⟩ := List.mem_iff_getElem.mp hd
  have hl := h.len
  cases j with
  | zero => exact dx_ne (h.bot _ (List.getElem?_eq_getElem hj))
  | succ j => exact dx_ne (h.lay j _ (by omega) (List.getElem?_eq_getElem hj))
/-- the turns over the layers: what c tells of the contents at a layer -/
structure PvL (P : Program) (w : World) {α : Type} (R : Hp → V → α → Prop) (es : List (List Int × α)) (H0 : Hp) (c : Addr) (ds : List Addr) (H : Hp) : Prop where
  s : Same H0 H
  d : DL P w R H c es
  ne : ∀ d ∈ ds, c ≠ d

theorem ok_count_by {f : Addr} {fd : FuncData}  (F : Fun K "count_by" "count_by" s_count_by f fd) (B : Bl mg) {T : Addr} (C_count_of : Cal P w K mg base 4 "count_of" ["pairs", "counts"] (sp_count_of P w T)) : FnOk P w K mg base CX0 5 f fd ["layers"] (sp_count_by P w T) := by
  refine F.ok sc_count_by (fun vs H Q E h => ?_) (fun cdv A outer s H vs Q E hr h => ?_)
  · obtain ⟨l, ds, cs, x, rfl, _⟩ := h; rfl
  · obtain ⟨l, ds, cs, x, rfl, LY, SZ, hn, hT, q⟩ := h
    have nd := sc_count_by.nd
    refine ⟨_, (pss_cons (ps_lock (ps_set (i := 1) nd rfl (Or.inr rfl) (pe_dcX (own := [("end", 3), ("starts", 4)]) (g := (gTup K 2 (gCons (gName 3) (gCons (gName 4) gNil)))) (u1 hr) rfl nd (pi_itemsX (pe_ix ix_list (pv 0) pe_int (fun _ _ => rfl))) (blkOk_by (own := [("end", 3), ("starts", 4)]) (N := ["layers", "counts", "layer", "end", "starts", "pairs"]) (sc := defScope s_count_by) (by decide +kernel)) (fun _ _ _ _ _ => (pg_tup (by rfl) (pgs_cons (pg_name (i := 3) nd rfl (Or.inl rfl)) (pgs_cons (pg_name (i := 4) nd rfl (Or.inl rfl)) pgs_nil)))) (fun _ _ _ _ _ => (pv 3)) (fun _ _ _ _ _ => (pe_callB (call_len_seqK (K := K) rfl) (by rfl) B.len PySem.boot_len (pa_cons (pv 4) pa_nil))))))
      (pss_cons (ps_for PassesOwn.never rfl (pi_list (pe_slice sl_list (pv 0) (po_some pe_int) po_none)) (pg_name (i := 2) nd rfl (Or.inl rfl)) (pss_one (ps_lock (ps_set (i := 1) nd rfl (Or.inr rfl) (pe_dcX (own := [("end", 3), ("pairs", 5)]) (g := (gTup K 2 (gCons (gName 3) (gCons (gName 5) gNil)))) (u1 hr) rfl nd (pi_itemsX (pv 2)) (blkOk_by (own := [("end", 3), ("pairs", 5)]) (N := ["layers", "counts", "layer", "end", "starts", "pairs"]) (sc := defScope s_count_by) (by decide +kernel)) (fun _ _ _ _ _ => (pg_tup (by rfl) (pgs_cons (pg_name (i := 3) nd rfl (Or.inl rfl)) (pgs_cons (pg_name (i := 5) nd rfl (Or.inl rfl)) pgs_nil)))) (fun _ _ _ _ _ => (pv 3)) (fun _ _ _ _ _ => (pe_cal C_count_of (hr.mono (by decide)) (pa_cons (pv 5) (pa_cons (pv 1) pa_nil)))))))))
      (pss_one (ps_ret (pe_callB (cr_sumX rfl) (by rfl) B.sum (by decide +kernel) (pa_cons (pe_dvalsX (pv 1)) pa_nil)))))), ?_⟩
    have hl := LY.len
    have hl0' : 0 < ds.length := by omega
    obtain ⟨ks, hd, hk⟩ := LY.bot ds[0] (List.getElem?_eq_getElem hl0')
    have m0 : ds[0] ∈ ds := List.getElem_mem _
    have eC : (ends cs x cs.length).map (fun e => (e, ((startsOf e).length : Int))) = cntL cs x cs.length := by
      unfold cntL
      refine List.map_congr_left fun e _ => ?_
      rw [Nat.sub_self, ways_zero, List.length_map]
    have ln : l ≠ ds[0] := fun e => by
      have := LY.at_
      rw [e, hd] at this
      cases this
    refine ⟨ds[0], DX P w ds[0] ks, hd, trivial, fun od => ?_⟩
    have sl : SameL H (upd H ds[0] (.frz od (DX P w ds[0] ks))) := .up hd dx_nox
    have hl0 : upd H ds[0] (.frz od (DX P w ds[0] ks)) l = some (.lst (ds.map V.ref)) := by rw [upd_ne ln]; exact LY.at_
    refine ⟨.ref l, rfl, l, _, (0 : Int), .ref ds[0], rfl, rfl, SqL.of hl0, at_z (List.getElem?_eq_getElem hl0'), ds[0], od, ks, rfl, upd_same, ?_⟩
    refine dc_items (R' := IntV) (es' := (ends cs x cs.length).map fun e => (e, ((startsOf e).length : Int))) (AtN.mo stL_mo) intV_mo (by rw [fst_map, fst_map]) (by rw [fst_map]; exact ends_nodup _ _ _) (by rw [List.length_map]; exact Nat.le_succ_of_le (SZ _ (Nat.le_refl _))) upd_same (hk.mo (AtN.mo stL_mo) sl) (fun i hi hi' Tt b v H2 Po s2 hTt hR po => ?_) (fun D H' sH hD hDL => ?_)
    · obtain ⟨qs, rfl, hqs⟩ := hR
      refine ⟨Tt, _, rfl, SqT.of hTt, rfl, _, _, rfl, _, _, rfl, rfl, rfl, ?_⟩
      refine ⟨.ref b, rfl, .ref qs, rfl, qs, _, rfl, .inl (SqL.of hqs), ?_⟩
      refine po _ _ (sameR _) ?_
      show V.int _ = V.int _
      rw [List.getElem_map, List.getElem_map, List.length_map]
      unfold rowI
      rw [List.length_map]
    · refine ⟨sH _ _ upd_same, ?_⟩
      have sU : Same H (upd H' ds[0] (DX P w ds[0] ks)) := same_unlock hd sH
      have Dn : ds[0] ≠ D := fun e => by rw [← e, upd_same] at hD; cases hD
      obtain ⟨kD, hD2, hkD⟩ := hDL
      have sUl : SameL H' (upd H' ds[0] (DX P w ds[0] ks)) := sameL_unlock (sH _ _ upd_same)
      have hD3 : upd H' ds[0] (DX P w ds[0] ks) D = some (DX P w D kD) := by rw [upd_ne (Ne.symm Dn)]; exact hD2
      have hDH : H D = none := by rw [upd_ne (Ne.symm Dn)] at hD; exact hD
      have hkD2 := hkD.mo intV_mo sUl
      rw [eC] at hkD2
      generalize upd H' ds[0] (DX P w ds[0] ks) = H1 at sU hD3 hkD2
      have pv1 : PvL P w IntV (cntL cs x cs.length) H D ds H1 := ⟨sU, ⟨kD, hD3, hkD2⟩, fun d hd e => list_ne LY hd (e ▸ hDH)⟩
      refine ⟨.ref l, rfl, 1, rfl, l, _, rfl, SqL.of (sU _ _ LY.at_), fun p np => ?_⟩
      rw [cut_tail]
      have sp := sameN (o := HO.lst ((ds.map V.ref).drop 1)) np
      have hpl : upd H1 p (HO.lst ((ds.map V.ref).drop 1)) p = some (.lst ((ds.map V.ref).drop 1)) := upd_same
      have pv2 : PvL P w IntV (cntL cs x cs.length) (upd H1 p (HO.lst ((ds.map V.ref).drop 1))) D ds (upd H1 p (HO.lst ((ds.map V.ref).drop 1))) := ⟨sameR _, DL.mo intV_mo sp pv1.d, pv1.ne⟩
      have LY2 := LY.keep (sU.trans sp)
      have hT2 := (sU.trans sp) _ _ hT
      have sH2 := sU.trans sp
      generalize upd H1 p (HO.lst ((ds.map V.ref).drop 1)) = H2 at hpl pv2 LY2 hT2 sH2
      have dl : ((ds.map V.ref).drop 1).length = cs.length := by rw [List.length_drop, List.length_map]; omega
      refine ⟨p, rfl, ⟨_, SqL.of hpl⟩, for_list (xs := (ds.map V.ref).drop 1) (fun j σ G => ∃ c a b e f, σ = [some (.ref l), some (.ref c), a, b, e, f] ∧ PvL P w IntV (cntL cs x (cs.length - j)) H2 c ds G) ⟨D, _, _, _, _, rfl, pv2⟩ (fun j σ G _ ⟨_, _, _, _, _, _, e⟩ => SqL.of (e.s _ _ hpl)) (fun j y σ G hx hw => ?_) (fun σ G hw => ?_)⟩
      · obtain ⟨c, a0, b0, e0, f0, rfl, pv⟩ := hw
        rw [List.getElem?_drop, List.getElem?_map] at hx
        obtain ⟨d, hdj, rfl⟩ := Option.map_eq_some_iff.mp hx
        rw [show 1 + j = j + 1 by omega] at hdj
        have jlt : j < cs.length := by have := (List.getElem?_eq_some_iff.mp hdj).1; omega
        have dm : d ∈ ds := List.mem_of_getElem? hdj
        obtain ⟨kd, hd3, hkd⟩ := (LY2.keep pv.s).lay j d jlt hdj
        refine ⟨d, DX P w d kd, hd3, trivial, fun od2 => ?_⟩
        obtain ⟨kc, hc3, hkc⟩ := pv.d
        have cd := pv.ne d dm
        have sl3 : SameL G (upd G d (.frz od2 (DX P w d kd))) := .up hd3 dx_nox
        have hcL : DL P w IntV (upd G d (.frz od2 (DX P w d kd))) c (cntL cs x (cs.length - j)) := ⟨kc, by rw [upd_ne cd]; exact hc3, hkc.mo intV_mo sl3⟩
        have hTL : upd G d (.frz od2 (DX P w d kd)) T = some (TabO T) := by rw [upd_ne (Ne.symm (LY.ne d dm))]; exact pv.s _ _ hT2
        have e1 : cs.length - j = (cs.length - 1 - j) + 1 := by omega
        have e2 : cs.length - (j + 1) = cs.length - 1 - j := by omega
        refine ⟨.ref d, rfl, d, od2, kd, rfl, upd_same, ?_⟩
        refine dc_items (R' := IntV) (es' := cntL cs x (cs.length - 1 - j)) (AtN.mo pl_mo) intV_mo (by unfold cntL; rw [fst_map, lay_fst]) (by rw [lay_fst]; exact ends_nodup _ _ _) (by unfold lay; rw [List.length_map]; exact Nat.le_succ_of_le (SZ _ (by omega))) upd_same (hkd.mo (AtN.mo pl_mo) sl3) (fun i hi hi' Tt b v H3 Po s3 hTt hR po => ?_) (fun D2 H' sH' hD2 hDL2 => ?_)
        · obtain ⟨qs, rfl, hqs⟩ := hR
          refine ⟨Tt, _, rfl, SqT.of hTt, rfl, _, _, rfl, _, _, rfl, rfl, rfl, ?_⟩
          refine ⟨.ref b, rfl, .ref qs, rfl, .ref c, rfl, qs, c, (lay cs x (cs.length - 1 - j))[i].2, cntL cs x (cs.length - j), fun e => ((ways (backM cs (cs.length - (cs.length - j))) e).length : Int), rfl, hqs, hcL.mo intV_mo s3, by unfold cntL; rw [fst_map]; exact ends_nodup _ _ _, fun pr hpr => ?_, s3 _ _ hTL, fun H6 s6 => po _ _ s6 ?_⟩
          · unfold cntL
            refine List.mem_map.mpr ⟨pr.2, ?_, rfl⟩
            rw [e1]
            have hlm := List.getElem_mem hi
            obtain ⟨en, hen, eq⟩ := List.mem_map.mp (show (lay cs x (cs.length - 1 - j))[i] ∈ (ends cs x (cs.length - 1 - j)).map _ from hlm)
            rw [← eq] at hpr
            exact ends_in hen hpr
          · show V.int _ = V.int _
            have he : i < (ends cs x (cs.length - 1 - j)).length := by unfold cntL at hi'; rw [List.length_map] at hi'; exact hi'
            have g1 := pair_at (l := cntL cs x (cs.length - 1 - j)) rfl hi' he
            have g2 := pair_at (l := lay cs x (cs.length - 1 - j)) rfl hi he
            rw [g1, g2, ways_step_len (by omega), show cs.length - (cs.length - 1 - j + 1) = cs.length - (cs.length - j) by omega]
        · refine ⟨sH' _ _ upd_same, D2, _, _, _, _, rfl, ?_⟩
          have Dn2 : d ≠ D2 := fun e => by rw [← e, upd_same] at hD2; cases hD2
          rw [e2]
          have sU2 : Same G (upd H' d (DX P w d kd)) := same_unlock hd3 sH'
          obtain ⟨k5, h5, hk5⟩ := hDL2
          have hDG : G D2 = none := by rw [upd_ne (Ne.symm Dn2)] at hD2; exact hD2
          refine ⟨pv.s.trans sU2, ⟨k5, by rw [upd_ne (Ne.symm Dn2)]; exact h5, hk5.mo intV_mo (sameL_unlock (sH' _ _ upd_same))⟩, fun d' hd' e => list_ne (LY2.keep pv.s) hd' (e ▸ hDG)⟩
      · obtain ⟨c, a0, b0, e0, f0, rfl, pv⟩ := hw
        rw [dl, Nat.sub_self] at pv
        obtain ⟨kc, hc3, hkc⟩ := pv.d
        refine ⟨.ref c, rfl, c, kc, rfl, rfl, hc3, fun pz nz => ?_⟩
        have sz := sameN (o := valsO pz c) nz
        refine ⟨pz, c, kc, [((ways (backM cs cs.length) x).length : Int)], rfl, upd_same, sz _ _ hc3, ?_, ?_⟩
        · have : (cntL cs x 0) = [(x, ((ways (backM cs cs.length) x).length : Int))] := rfl
          rw [this] at hkc
          cases hkc with
          | cons h t =>
            cases t
            exact congrArg (fun v => [v]) h.2.2
        · rw [List.sum_cons, List.sum_nil, Int.add_zero]
          exact q _ ((sH2.trans pv.s).trans sz)

end
end K34
end

section
set_option Elab.async false
set_option linter.all false
set_option maxRecDepth 100000
set_option maxHeartbeats 4000000
namespace K34
open PySem PySem.Spec PyProof.Rows L2 GxR Gx Ma Mc
section
variable {P : Program} {w : World} {K : PySem.W.Frag} {mg : Str → Option Value} {base : Heap}

theorem paired_unique {α β : Type} {F : α → β → Prop} (hF : ∀ a b c, F a b → F a c → b = c) : ∀ {l : List α} {m n : List β}, Paired F l m → Paired F l n → m = n
  | _, _, _, .nil, h => by cases h; rfl
  | _, _, _, .cons h t, h' => by
    cases h' with
    | cons h2 t2 => rw [hF _ _ _ h h2, paired_unique hF t t2]
theorem ref_inj {as bs : List Addr} (h : as.map V.ref = bs.map V.ref) : as = bs := (List.map_inj_right fun _ _ e => V.ref.inj e).mp h
theorem stpO_one {H : Hp} (a : Addr) (b c : Nat × Nat) (h : StpO H a b) (h' : StpO H a c) : b = c := by
  unfold StpO at h h'
  rw [h] at h'
  have e := HO.tup.inj (Option.some.inj h')
  injection e with e1 e2
  injection e2 with e2 _
  have e1 := V.int.inj e1
  have e2 := V.int.inj e2
  exact Prod.ext (by omega) (by omega)
theorem wyO_one {H : Hp} (a : Addr) (b c : Way) (h : WyO H a b) (h' : WyO H a c) : b = c := by
  obtain ⟨q, e, as, ha, hs⟩ := h
  obtain ⟨q', e', as', ha', hs'⟩ := h'
  rw [e] at e'
  have e := HO.tup.inj (Option.some.inj e')
  injection e with e1 e2
  injection e2 with e2 _
  have e1 := V.int.inj e1
  cases V.ref.inj e2
  rw [ha] at ha'
  have := ref_inj (HO.lst.inj (Option.some.inj ha'))
  subst this
  exact Prod.ext (by omega) (paired_unique stpO_one hs hs')
noncomputable def wayAt (H : Hp) (a : Addr) : Way := Classical.epsilon (WyO H a)
theorem wayAt_is {H : Hp} {a : Addr} {v : Way} (h : WyO H a v) : wayAt H a = v := wyO_one a _ _ (Classical.epsilon_spec (p := WyO H a) ⟨v, h⟩) h
noncomputable def keyAt (H : Hp) : V → Int × List (Int × Int)
  | .ref a => ((wayAt H a).1, (wayAt H a).2.map stI)
  | _ => (0, [])
theorem prsV_of {H : Hp} : ∀ {as : List Addr} {ss : List (Nat × Nat)}, Paired (StpO H) as ss → PrsV H (as.map V.ref) (ss.map stI)
  | _, _, .nil => .nil
  | _, _, .cons h t => .cons h (prsV_of t)
theorem paired_wayAt {H : Hp} : ∀ {as : List Addr} {ws : List Way}, Paired (WyO H) as ws → as.map (wayAt H) = ws
  | _, _, .nil => rfl
  | _, _, .cons h t => by rw [List.map_cons, wayAt_is h, paired_wayAt t]
theorem paired_self {H : Hp} : ∀ {as : List Addr}, (∀ a ∈ as, WyO H a (wayAt H a)) → Paired (WyO H) as (as.map (wayAt H))
  | [], _ => .nil
  | a :: as, h => .cons (h a List.mem_cons_self) (paired_self fun b hb => h b (List.mem_cons_of_mem _ hb))
theorem paired_mem {α β : Type} {F : α → β → Prop} : ∀ {l : List α} {m : List β}, Paired F l m → ∀ a ∈ l, ∃ b ∈ m, F a b
  | _, _, .nil, _, h => nomatch h
  | _, _, .cons h t, a, hm => by
    rcases List.mem_cons.mp hm with e | e
    · subst e; exact ⟨_, List.mem_cons_self, h⟩
    · obtain ⟨b, hb, hf⟩ := paired_mem t a e
      exact ⟨b, List.mem_cons_of_mem _ hb, hf⟩
/-- sorted(list of ways) -/
theorem sort_ways {H : Hp} {D : Addr} {ws : List Way} {Q : VK} (h : WL H D ws) (q : ∀ p H', Same H H' → H p = none → WL H' p (srtW ws) → Q (.ref p) H') : rSortedTP K [.ref D] H Q := by
  obtain ⟨as, ha, hp⟩ := h
  refine ⟨D, as.map V.ref, keyAt H, rfl, SqL.of ha, fun x hx => ?_, fun ys p hs hb np => ?_⟩
  · obtain ⟨a, hm, rfl⟩ := List.mem_map.mp hx
    obtain ⟨v, _, hv⟩ := paired_mem hp a hm
    have hv2 := hv
    obtain ⟨qv, e, bs, hq, hbs⟩ := hv
    refine ⟨a, qv, rfl, ?_, bs.map V.ref, hq, ?_⟩
    · show H a = some (.tup [.int ((wayAt H a).1 : Nat), .ref qv])
      rw [wayAt_is hv2]
      exact e
    · show PrsV H (bs.map V.ref) ((wayAt H a).2.map stI)
      rw [wayAt_is hv2]
      exact prsV_of hbs
  · have pm := hb.perm
    have ex : ∃ bs : List Addr, ys = bs.map V.ref ∧ bs.Perm as := by
      have hall : ∀ y ∈ ys, ∃ a, y = V.ref a := fun y hy => by
        obtain ⟨a, _, rfl⟩ := List.mem_map.mp (pm.mem_iff.mp hy)
        exact ⟨a, rfl⟩
      have e : ys = (ys.map fun v => match v with | .ref a => a | _ => 0).map V.ref := by
        rw [List.map_map]
        conv => lhs; rw [← List.map_id ys]
        refine List.map_congr_left fun y hy => ?_
        obtain ⟨a, rfl⟩ := hall y hy
        rfl
      refine ⟨_, e, ?_⟩
      have := pm.map (fun v => match v with | V.ref a => a | _ => 0)
      rw [List.map_map] at this
      exact (List.map_id' as) ▸ this
    obtain ⟨bs, rfl, pb⟩ := ex
    have sn := sameN (o := HO.lst (bs.map V.ref)) np
    have hall : ∀ a ∈ bs, WyO H a (wayAt H a) := fun a hm => by
      obtain ⟨v, _, hv⟩ := paired_mem hp a (pb.mem_iff.mp hm)
      rw [wayAt_is hv]
      exact hv
    have eW : bs.map (wayAt H) = srtW ws := by
      refine srtW_eq ?_ ?_
      · rw [← paired_wayAt hp]
        exact pb.map _
      · have h2 := List.pairwise_map.mp hs
        exact List.pairwise_map.mpr h2
    refine q p _ sn np ⟨bs, upd_same, ?_⟩
    rw [← eW]
    exact (paired_self hall).mono fun _ _ z => wyO_mo _ _ _ _ (.of sn) z
def sp_told_by (P : Program) (w : World) (T C : Addr) : Sp := fun vs H Q E => ∃ (l : Addr) (ds : List Addr) (cs : List Mnu) (x : List Int), vs = [V.ref l] ∧ LyA P w cs x T H l ds ∧ Szs cs x ∧ cs.length ≤ 900 ∧ H T = some (TabO T) ∧ ((ways (backM cs cs.length) x).length ≤ 500 → ∀ p H', Same H H' → H p = none → WL H' p (srtW (ways (backM cs cs.length) x)) → Q (.ref p) H') ∧ (500 < (ways (backM cs cs.length) x).length → ∀ H', Same H H' → E (.ref C) none H')
theorem backM_len (cs : List Mnu) (m : Nat) (h : m ≤ cs.length) : (backM cs m).length = m := by
  unfold backM
  rw [List.length_reverse, List.length_take]
  omega

theorem ok_told_by {f : Addr} {fd : FuncData}  (F : Fun K "told_by" "told_by" s_told_by f fd) (B : Bl mg) {T C : Addr} (C_count_by : Cal P w K mg base 5 "count_by" ["layers"] (sp_count_by P w T)) (C_told_of : Cal P w K mg base 1 "told_of" ["pairs", "told"] (sp_told_of P w)) (ER_TooMany : Er K mg "TooMany" C) : FnOk P w K mg base (L2.CX P w) 6 f fd ["layers"] (sp_told_by P w T C) := by
  refine F.okX sc_told_by (fun vs H Q E h => ?_) (fun cdv A outer s H vs Q E hr h => ?_)
  · obtain ⟨l, ds, cs, x, rfl, _⟩ := h; rfl
  · obtain ⟨l, ds, cs, x, rfl, LY, SZ, hn, hT, q, e⟩ := h
    have nd := sc_told_by.nd
    refine ⟨_, (pss_cons (ps_if (pt_cmpR op_gt (pe_cal C_count_by (hr.mono (by decide)) (pa_cons (pv 0) pa_nil)) (pe_gi B.MOST_TOLD) (nomark _))
      (pss_one (ps_err rfl (takes_of rfl rfl rfl rfl) ER_TooMany)) pss_nil)
      (pss_cons (ps_lock (ps_set (i := 1) nd rfl (Or.inr rfl) (pe_dcX (own := [("end", 3), ("starts", 4)]) (g := (gTup K 2 (gCons (gName 3) (gCons (gName 4) gNil)))) (u1 hr) rfl nd (pi_itemsX (pe_ix ix_list (pv 0) pe_int (fun _ _ => rfl))) (blkOk_by (own := [("end", 3), ("starts", 4)]) (N := ["layers", "told", "layer", "end", "starts", "start", "pairs", "ways", "way"]) (sc := defScope s_told_by) (by decide +kernel)) (fun _ _ _ _ _ => (pg_tup (by rfl) (pgs_cons (pg_name (i := 3) nd rfl (Or.inl rfl)) (pgs_cons (pg_name (i := 4) nd rfl (Or.inl rfl)) pgs_nil)))) (fun _ _ _ _ _ => (pv 3)) (fun _ _ _ _ _ => (pe_lc (own := [("start", 5)]) (g := gName 5) rfl nd (pi_listK (K := K) rfl (pv 4)) (blkOk_nf (own := [("start", 5)]) (N := ["layers", "told", "layer", "end", "starts", "start", "pairs", "ways", "way"]) (sc0 := defScope s_told_by) (by decide +kernel)) (fun _ _ _ _ _ => (pg_name (i := 5) nd rfl (Or.inl rfl))) (fun _ _ _ _ _ => pts_nil) (fun _ _ _ _ _ => (pe_tup (pa_cons (pv 5) (pa_cons (pe_lst pa_nil) pa_nil)))))))))
      (pss_cons (ps_for (passes_of rfl) rfl (pi_list (pe_slice sl_list (pv 0) (po_some pe_int) po_none)) (pg_name (i := 2) nd rfl (Or.inl rfl)) (pss_one (ps_lock (ps_set (i := 1) nd rfl (Or.inr rfl) (pe_dcX (own := [("end", 3), ("pairs", 6)]) (g := (gTup K 2 (gCons (gName 3) (gCons (gName 6) gNil)))) (u1 hr) rfl nd (pi_itemsX (pv 2)) (blkOk_by (own := [("end", 3), ("pairs", 6)]) (N := ["layers", "told", "layer", "end", "starts", "start", "pairs", "ways", "way"]) (sc := defScope s_told_by) (by decide +kernel)) (fun _ _ _ _ _ => (pg_tup (by rfl) (pgs_cons (pg_name (i := 3) nd rfl (Or.inl rfl)) (pgs_cons (pg_name (i := 6) nd rfl (Or.inl rfl)) pgs_nil)))) (fun _ _ _ _ _ => (pv 3)) (fun _ _ _ _ _ => (pe_cal C_told_of (hr.mono (by decide)) (pa_cons (pv 6) (pa_cons (pv 1) pa_nil)))))))))
      (pss_one (ps_lock (ps_ret (pe_callB (cr_sortedTP (u3 hr)) (by rfl) B.sorted (by decide +kernel) (pa_cons (pe_lc2 (own := [("ways", 7), ("way", 8)]) (g := (gName 7)) (vs1 := [8]) (g1 := (gName 8)) rfl nd (pi_valuesX (pv 1)) (blkOk_by (own := [("ways", 7), ("way", 8)]) (N := ["layers", "told", "layer", "end", "starts", "start", "pairs", "ways", "way"]) (sc := defScope s_told_by) (by decide +kernel)) (by decide) (fun _ _ _ _ _ => (pg_name (i := 7) nd rfl (Or.inl rfl))) (fun _ _ _ _ _ => pts_nil) (fun _ _ _ _ _ => (pi_listK (K := K) rfl (pv 7))) (fun _ _ _ _ _ => (pg_name (i := 8) nd rfl (Or.inl rfl))) (fun _ _ _ _ _ => pts_nil) (fun _ _ _ _ _ => (pv 8))) pa_nil)))))))), ?_⟩
    refine ⟨.ref l, rfl, l, ds, cs, x, rfl, LY, SZ, by omega, hT, fun H0 s0 => ?_⟩
    have LY := LY.keep s0
    have hT := s0 _ _ hT
    have q' : (ways (backM cs cs.length) x).length ≤ 500 → ∀ p H', Same H0 H' → H0 p = none → WL H' p (srtW (ways (backM cs cs.length) x)) → Q (.ref p) H' := fun h p H' s n => q h p H' (s0.trans s) (s0.free n)
    refine ⟨_, 500, rfl, rfl, _, rfl, ?_⟩
    by_cases h5 : 500 < (ways (backM cs cs.length) x).length
    · rw [decide_eq_true (show (500 : Int) < ((ways (backM cs cs.length) x).length : Nat) by omega)]
      exact iteT (e h5 _ s0)
    rw [decide_eq_false (show ¬ (500 : Int) < ((ways (backM cs cs.length) x).length : Nat) by omega)]
    refine iteF ?_
    have q := q' (by omega)
    clear q' e
    have w5 : ∀ d, d ≤ cs.length → ∀ e ∈ ends cs x d, (ways (backM cs (cs.length - d)) e).length ≤ 500 := fun d hd e he => Nat.le_trans (ways_le hd e he) (by omega)
    clear s0
    generalize hHx : H = Hx at *
    clear hHx
    generalize H0 = H at *
    have hl := LY.len
    have hl0' : 0 < ds.length := by omega
    obtain ⟨ks, hd, hk⟩ := LY.bot ds[0] (List.getElem?_eq_getElem hl0')
    have m0 : ds[0] ∈ ds := List.getElem_mem _
    have eC : (ends cs x cs.length).map (fun e => (e, (startsOf e).map fun s => ((s, []) : Way))) = wayL cs x cs.length := by
      unfold wayL
      refine List.map_congr_left fun e _ => ?_
      rw [Nat.sub_self, ways_zero]
    have ln : l ≠ ds[0] := fun e => by
      have := LY.at_
      rw [e, hd] at this
      cases this
    refine ⟨ds[0], DX P w ds[0] ks, hd, trivial, fun od => ?_⟩
    have sl : SameL H (upd H ds[0] (.frz od (DX P w ds[0] ks))) := .up hd dx_nox
    have hl0 : upd H ds[0] (.frz od (DX P w ds[0] ks)) l = some (.lst (ds.map V.ref)) := by rw [upd_ne ln]; exact LY.at_
    refine ⟨.ref l, rfl, l, _, (0 : Int), .ref ds[0], rfl, rfl, SqL.of hl0, at_z (List.getElem?_eq_getElem hl0'), ds[0], od, ks, rfl, upd_same, ?_⟩
    refine dc_items (R' := AtN WL) (es' := (ends cs x cs.length).map fun e => (e, (startsOf e).map fun s => ((s, []) : Way))) (AtN.mo stL_mo) (AtN.mo wl_mo) (by rw [fst_map, fst_map]) (by rw [fst_map]; exact ends_nodup _ _ _) (by rw [List.length_map]; exact Nat.le_succ_of_le (SZ _ (Nat.le_refl _))) upd_same (hk.mo (AtN.mo stL_mo) sl) (fun i hi hi' Tt b v H2 Po s2 hTt hR po => ?_) (fun D H' sH hD hDL => ?_)
    · obtain ⟨qs, rfl, hqs⟩ := hR
      refine ⟨Tt, _, rfl, SqT.of hTt, rfl, _, _, rfl, _, _, rfl, rfl, rfl, ?_⟩
      have he : i < (ends cs x cs.length).length := by rw [List.length_map] at hi; exact hi
      have g1 := pair_at (l := (ends cs x cs.length).map fun e => (e, startsOf e)) rfl hi he
      have g2 := pair_at (l := (ends cs x cs.length).map fun e => (e, (startsOf e).map fun s => ((s, []) : Way))) rfl hi' he
      rw [g1] at hqs
      rw [g2] at po
      have lz : (startsOf (ends cs x cs.length)[i]).length ≤ 1 := by unfold startsOf; split <;> simp
      generalize startsOf (ends cs x cs.length)[i] = ss at hqs po lz
      have lS : ((rowI ss).map V.int).length = ss.length := by unfold rowI; rw [List.length_map, List.length_map]
      have at_S : ∀ j (hj : j < ss.length), ((rowI ss).map V.int)[j]? = some (.int (ss[j] : Nat)) := fun j hj => by
        unfold rowI
        rw [List.getElem?_map, List.getElem?_map, List.getElem?_eq_getElem hj]
        rfl
      have hqs' : H2 qs = some (.lst ((rowI ss).map V.int)) := hqs
      refine ⟨.ref b, rfl, .ref qs, rfl, qs, rfl, ⟨_, SqL.of hqs'⟩, fun D hD => ⟨fun j k H' => k = ss.length - j ∧ j ≤ ss.length ∧ PvA WyO H2 D ((ss.take j).map fun s => ((s, []) : Way)) H', ⟨_, rfl, Nat.zero_le _, PvA.zero hD⟩, fun j k H3 ⟨hk3, hj, p3⟩ => ?_⟩⟩
      by_cases hjl : j < ss.length
      · refine .inr ⟨⟨_, _, SqL.of (p3.s _ _ hqs'), at_S j hjl⟩, fun H' => PvA WyO H2 D ((ss.take (j + 1)).map fun s => ((s, []) : Way)) H', fun H4 p4 => ⟨ss.length - (j + 1), by omega, rfl, hjl, p4⟩, fun y H4 hy => ?_⟩
        obtain ⟨rfl, hy⟩ := hy
        have hy := (hy _ (SqL.of (p3.s _ _ hqs'))).symm.trans (at_S j hjl)
        cases Option.some.inj hy
        refine ⟨rfl, .int (ss[j] : Nat), rfl, by show 0 ≤ 16777216; decide, fun p1 np1 => ⟨by show 2 ≤ 16777216; decide, fun p2 np2 => ?_⟩⟩
        have s5 : Same H4 (upd H4 p1 (HO.lst [])) := sameN np1
        have at5 : upd H4 p1 (HO.lst []) p1 = some (.lst []) := upd_same
        generalize upd H4 p1 (HO.lst []) = H5 at np2 s5 at5
        have s6 : Same H5 (upd H5 p2 (.tup [V.int (ss[j] : Nat), .ref p1])) := sameN np2
        have at6 : upd H5 p2 (.tup [V.int (ss[j] : Nat), .ref p1]) p2 = some (.tup [V.int (ss[j] : Nat), .ref p1]) := upd_same
        generalize upd H5 p2 (.tup [V.int (ss[j] : Nat), .ref p1]) = H6 at s6 at6
        obtain ⟨acD, hD4, _⟩ := p3.d
        have n1 : p1 ≠ D := fun e => by rw [e, hD4] at np1; cases np1
        have n2 : p2 ≠ D := fun e => by rw [e, s5 _ _ hD4] at np2; cases np2
        obtain ⟨acc, e1, e2, e3⟩ := p3.ext wyO_mo hD (s5.trans s6) (q := p2) (b := ((ss[j], []) : Way)) (by rw [List.length_map, List.length_take]; omega) ⟨p1, by rw [hid_ne n2]; exact at6, [], by rw [hid_ne n1]; exact s6 _ _ at5, .nil⟩
        refine ⟨acc, e1, e2, ?_⟩
        rw [List.take_add_one, List.getElem?_eq_getElem hjl, List.map_append]
        exact e3
      · have ej : j = ss.length := by omega
        subst ej
        refine .inl ⟨⟨_, SqL.of (p3.s _ _ hqs'), by rw [lS]; exact Nat.le_refl _⟩, ?_⟩
        rw [List.take_length] at p3
        exact po _ _ (p3.s) ⟨D, rfl, p3.fin wyO_mo⟩
    · refine ⟨sH _ _ upd_same, ?_⟩
      have sU : Same H (upd H' ds[0] (DX P w ds[0] ks)) := same_unlock hd sH
      have Dn : ds[0] ≠ D := fun e => by rw [← e, upd_same] at hD; cases hD
      obtain ⟨kD, hD2, hkD⟩ := hDL
      have sUl : SameL H' (upd H' ds[0] (DX P w ds[0] ks)) := sameL_unlock (sH _ _ upd_same)
      have hD3 : upd H' ds[0] (DX P w ds[0] ks) D = some (DX P w D kD) := by rw [upd_ne (Ne.symm Dn)]; exact hD2
      have hDH : H D = none := by rw [upd_ne (Ne.symm Dn)] at hD; exact hD
      have hkD2 := hkD.mo (AtN.mo wl_mo) sUl
      rw [eC] at hkD2
      generalize upd H' ds[0] (DX P w ds[0] ks) = H1 at sU hD3 hkD2
      have pv1 : PvL P w (AtN WL) (wayL cs x cs.length) H D ds H1 := ⟨sU, ⟨kD, hD3, hkD2⟩, fun d hd e => list_ne LY hd (e ▸ hDH)⟩
      refine ⟨.ref l, rfl, 1, rfl, l, _, rfl, SqL.of (sU _ _ LY.at_), fun p np => ?_⟩
      rw [cut_tail]
      have sp := sameN (o := HO.lst ((ds.map V.ref).drop 1)) np
      have hpl : upd H1 p (HO.lst ((ds.map V.ref).drop 1)) p = some (.lst ((ds.map V.ref).drop 1)) := upd_same
      have pv2 : PvL P w (AtN WL) (wayL cs x cs.length) (upd H1 p (HO.lst ((ds.map V.ref).drop 1))) D ds (upd H1 p (HO.lst ((ds.map V.ref).drop 1))) := ⟨sameR _, DL.mo (AtN.mo wl_mo) sp pv1.d, pv1.ne⟩
      have LY2 := LY.keep (sU.trans sp)
      have hT2 := (sU.trans sp) _ _ hT
      have sH2 := sU.trans sp
      generalize upd H1 p (HO.lst ((ds.map V.ref).drop 1)) = H2 at hpl pv2 LY2 hT2 sH2
      have dl : ((ds.map V.ref).drop 1).length = cs.length := by rw [List.length_drop, List.length_map]; omega
      refine ⟨p, rfl, ⟨_, SqL.of hpl⟩, for_list (xs := (ds.map V.ref).drop 1) (fun j σ G => ∃ c a0 a1 a2 a3 a4 a5 a6, σ = [some (.ref l), some (.ref c), a0, a1, a2, a3, a4, a5, a6] ∧ PvL P w (AtN WL) (wayL cs x (cs.length - j)) H2 c ds G) ⟨D, _, _, _, _, _, _, _, rfl, pv2⟩ (fun j σ G _ ⟨_, _, _, _, _, _, _, _, _, e⟩ => SqL.of (e.s _ _ hpl)) (fun j y σ G hx hw => ?_) (fun σ G hw => ?_)⟩
      · obtain ⟨c, a0, a1, a2, a3, a4, a5, a6, rfl, pv⟩ := hw
        rw [List.getElem?_drop, List.getElem?_map] at hx
        obtain ⟨d, hdj, rfl⟩ := Option.map_eq_some_iff.mp hx
        rw [show 1 + j = j + 1 by omega] at hdj
        have jlt : j < cs.length := by have := (List.getElem?_eq_some_iff.mp hdj).1; omega
        have dm : d ∈ ds := List.mem_of_getElem? hdj
        obtain ⟨kd, hd3, hkd⟩ := (LY2.keep pv.s).lay j d jlt hdj
        refine ⟨d, DX P w d kd, hd3, trivial, fun od2 => ?_⟩
        obtain ⟨kc, hc3, hkc⟩ := pv.d
        have cd := pv.ne d dm
        have sl3 : SameL G (upd G d (.frz od2 (DX P w d kd))) := .up hd3 dx_nox
        have hcL : DL P w (AtN WL) (upd G d (.frz od2 (DX P w d kd))) c (wayL cs x (cs.length - j)) := ⟨kc, by rw [upd_ne cd]; exact hc3, hkc.mo (AtN.mo wl_mo) sl3⟩
        have e1 : cs.length - j = (cs.length - 1 - j) + 1 := by omega
        have e2 : cs.length - (j + 1) = cs.length - 1 - j := by omega
        refine ⟨.ref d, rfl, d, od2, kd, rfl, upd_same, ?_⟩
        refine dc_items (R' := AtN WL) (es' := wayL cs x (cs.length - 1 - j)) (AtN.mo pl_mo) (AtN.mo wl_mo) (by rw [wayL_fst, lay_fst]) (by rw [lay_fst]; exact ends_nodup _ _ _) (by unfold lay; rw [List.length_map]; exact Nat.le_succ_of_le (SZ _ (by omega))) upd_same (hkd.mo (AtN.mo pl_mo) sl3) (fun i hi hi' Tt b v H3 Po s3 hTt hR po => ?_) (fun D2 H' sH' hD2 hDL2 => ?_)
        · obtain ⟨qs, rfl, hqs⟩ := hR
          have he : i < (ends cs x (cs.length - 1 - j)).length := by unfold wayL at hi'; rw [List.length_map] at hi'; exact hi'
          have g1 := pair_at (l := wayL cs x (cs.length - 1 - j)) rfl hi' he
          have g2 := pair_at (l := lay cs x (cs.length - 1 - j)) rfl hi he
          have hen := List.getElem_mem he
          rw [g1] at po
          rw [g2] at hqs
          have st := ways_step (cs := cs) (d := cs.length - 1 - j) (by omega) (ends cs x (cs.length - 1 - j))[i]
          have w9 := w5 _ (by omega) _ hen
          rw [st] at po w9
          refine ⟨Tt, _, rfl, SqT.of hTt, rfl, _, _, rfl, _, _, rfl, rfl, rfl, ?_⟩
          refine ⟨.ref b, rfl, .ref qs, rfl, .ref c, rfl, qs, c, _, wayL cs x (cs.length - j), fun e => ways (backM cs (cs.length - ((cs.length - 1 - j) + 1))) e, rfl, hqs, hcL.mo (AtN.mo wl_mo) s3, by rw [wayL_fst]; exact ends_nodup _ _ _, fun pr hpr => ?_, ?_, fun pr hpr v hv => ?_, fun pz H6 s6 nz hz => po _ _ s6 ⟨pz, rfl, hz⟩⟩
          · rw [e1]
            exact List.mem_map.mpr ⟨pr.2, ends_in hen hpr, rfl⟩
          · have lf : ∀ (ps : Prs) (f : List Int → List Way), (ps.flatMap fun p => (f p.2).map fun w => (w.1, w.2 ++ [p.1])).length = (ps.flatMap fun p => f p.2).length := fun ps f => by
              rw [List.length_flatMap, List.length_flatMap]
              congr 1
              exact List.map_congr_left fun p _ => by rw [List.length_map]
            rw [lf _ fun e => ways (backM cs (cs.length - (cs.length - 1 - j + 1))) e] at w9
            exact Nat.le_trans w9 (by decide)
          · rw [ways_sts hv, backM_len _ _ (by omega)]
            omega
        · refine ⟨sH' _ _ upd_same, D2, _, _, _, _, _, _, _, rfl, ?_⟩
          have Dn2 : d ≠ D2 := fun e => by rw [← e, upd_same] at hD2; cases hD2
          rw [e2]
          have sU2 : Same G (upd H' d (DX P w d kd)) := same_unlock hd3 sH'
          obtain ⟨k5, h5, hk5⟩ := hDL2
          have hDG : G D2 = none := by rw [upd_ne (Ne.symm Dn2)] at hD2; exact hD2
          refine ⟨pv.s.trans sU2, ⟨k5, by rw [upd_ne (Ne.symm Dn2)]; exact h5, hk5.mo (AtN.mo wl_mo) (sameL_unlock (sH' _ _ upd_same))⟩, fun d' hd' e => list_ne (LY2.keep pv.s) hd' (e ▸ hDG)⟩
      · obtain ⟨c, a0, a1, a2, a3, a4, a5, a6, rfl, pv⟩ := hw
        rw [dl, Nat.sub_self] at pv
        obtain ⟨kc, hc3, hkc⟩ := pv.d
        have sHG := sH2.trans pv.s
        have eW : wayL cs x 0 = [(x, ways (backM cs cs.length) x)] := rfl
        rw [eW] at hkc
        have w0 := w5 0 (Nat.zero_le _) x (List.mem_singleton.mpr rfl)
        rw [Nat.sub_zero] at w0
        generalize hWW : ways (backM cs cs.length) x = WW at hkc q w0
        refine ⟨c, DX P w c kc, hc3, trivial, fun od3 => ?_⟩
        have slc : SameL G (upd G c (.frz od3 (DX P w c kc))) := .up hc3 dx_nox
        refine ⟨.ref c, rfl, c, od3, kc, rfl, upd_same, fun D hD => ?_⟩
        have hkc' := hkc.mo (AtN.mo wl_mo) slc
        have hcl : upd G c (.frz od3 (DX P w c kc)) c = some (.frz od3 (DX P w c kc)) := upd_same
        have kl : kc.length = 1 := hkc.len
        generalize hGL : upd G c (.frz od3 (DX P w c kc)) = GL at hD hkc' hcl
        refine ⟨fun i m H' => m = 1 - i ∧ i ≤ 1 ∧ PvA WyO GL D (if i = 0 then [] else WW) H', ⟨1, rfl, by omega, PvA.zero hD⟩, fun i m H' ⟨hm, hi, pw⟩ => ?_⟩
        by_cases hi0 : i = 0
        · subst hi0
          refine .inr ⟨⟨pw.s _ _ hcl, by omega⟩, fun H' => PvA WyO GL D WW H', fun H2' p2 => ⟨0, by omega, rfl, by omega, p2⟩, fun y H2' hy => ?_⟩
          obtain ⟨rfl, pp, hpp, rfl⟩ := hy
          obtain ⟨ee, he, _, _, q1, hq1, as, ha, hws⟩ := paired_get hkc' hpp
          cases Option.some.inj he
          have lw : as.length = WW.length := hws.length
          rw [hq1]
          refine ⟨rfl, .ref q1, rfl, q1, rfl, ⟨_, SqL.of (pw.s _ _ ha)⟩, fun j k H' => k = WW.length - j ∧ j ≤ WW.length ∧ PvA WyO GL D (WW.take j) H', ⟨_, rfl, Nat.zero_le _, pw⟩, fun j k H3 ⟨hk3, hj, p3⟩ => ?_⟩
          by_cases hjl : j < WW.length
          · refine .inr ⟨⟨_, _, SqL.of (p3.s _ _ ha), List.getElem?_eq_getElem (by rw [List.length_map]; omega)⟩, fun H' => PvA WyO GL D (WW.take (j + 1)) H', fun H4 p4 => ⟨_, by omega, rfl, hjl, p4⟩, fun y H4 hy => ?_⟩
            obtain ⟨rfl, hy⟩ := hy
            obtain ⟨a9, hj', rfl, hwy⟩ := LO.at_ hws (hy _ (SqL.of (p3.s _ _ ha)))
            refine ⟨rfl, .ref a9, rfl, ?_⟩
            obtain ⟨acc, f1, f2, f3⟩ := p3.ext wyO_mo hD (sameR _) (q := a9) (b := WW[j]) (by rw [List.length_take]; omega) (wyO_mo _ _ _ _ (.of (hid_in hD p3.s)) hwy)
            refine ⟨acc, f1, f2, ?_⟩
            rw [List.take_add_one, List.getElem?_eq_getElem hj']
            exact f3
          · have ej : j = WW.length := by omega
            subst ej
            refine .inl ⟨⟨_, SqL.of (p3.s _ _ ha), by rw [List.length_map, lw]; exact Nat.le_refl _⟩, ?_⟩
            rw [List.take_length] at p3
            exact p3
        · have ei : i = 1 := by omega
          subst ei
          refine .inl ⟨⟨pw.s _ _ hcl, by omega⟩, ?_⟩
          have fin := pw.fin wyO_mo
          refine sort_ways fin fun p9 H9 s9 n9 h9 => ?_
          have sF := pw.s.trans s9
          refine ⟨sF _ _ hcl, ?_⟩
          have sG9 : Same G (upd H9 c (DX P w c kc)) := same_unlock hc3 (by rw [hGL]; exact sF)
          have hn9 : p9 ≠ c := fun e => by
            have := pw.s _ _ hcl
            rw [← e, n9] at this
            cases this
          have nG : G p9 = none := by
            cases hG : G p9 with
            | none => rfl
            | some o =>
              have h1 : GL p9 = some o := by rw [← hGL, upd_ne hn9]; exact hG
              have h2 := pw.s _ _ h1
              rw [n9] at h2
              cases h2
          have nn : H p9 = none := sHG.free nG
          exact q p9 _ (sHG.trans sG9) nn (wl_mo _ _ _ _ (sameL_unlock (sF _ _ hcl)) h9)

end
end K34
end

section
set_option Elab.async false
set_option linter.all false
set_option maxHeartbeats 1000000
/-! The products: how great, how many. -/
namespace Ma
theorem prods_bound : ∀ {r : List Mnu}, (∀ c ∈ r, ∀ q ∈ c, Kep q.1 q.2) → ∀ v ∈ prods r, 0 < v ∧ v ≤ 100 ^ r.length
  | [], _, v, hv => by
    rw [List.mem_singleton.mp hv]
    exact ⟨by decide, Int.le_refl _⟩
  | c :: r, h, v, hv => by
    obtain ⟨p, hp, hm⟩ := List.mem_flatMap.mp hv
    obtain ⟨q, hq, rfl⟩ := List.mem_map.mp hm
    obtain ⟨h1, h2⟩ := prods_bound (fun c hc => h c (List.mem_cons_of_mem _ hc)) p hp
    have k := h c List.mem_cons_self q hq
    have k1 := k.a1
    have k2 := k.ab
    have k3 := k.b100
    refine ⟨Int.mul_pos h1 (by omega), ?_⟩
    rw [List.length_cons, Int.pow_succ]
    exact Int.mul_le_mul h2 k3 (by omega) (by omega)
theorem pow_mono100 {n m : Nat} (h : n ≤ m) : (100 : Int) ^ n ≤ 100 ^ m := by
  induction h with
  | refl => exact Int.le_refl _
  | @step k h ih =>
    rw [Int.pow_succ]
    have : (0 : Int) < 100 ^ k := Int.pow_pos (by decide : (0 : Int) < 100)
    omega
theorem prods_small {r : List Mnu} (h : ∀ c ∈ r, ∀ q ∈ c, Kep q.1 q.2) (hl : r.length ≤ 60) {v : Int} (hv : v ∈ prods r) : 0 < v ∧ v < 2 ^ 400 := by
  obtain ⟨h1, h2⟩ := prods_bound h v hv
  refine ⟨h1, Int.lt_of_le_of_lt (Int.le_trans h2 (pow_mono100 hl)) (by decide +kernel)⟩
theorem backM_kep {cs : List Mnu} (h : ∀ c ∈ cs, ∀ q ∈ c, Kep q.1 q.2) (m : Nat) : ∀ c ∈ backM cs m, ∀ q ∈ c, Kep q.1 q.2 := fun c hc => h c (List.mem_of_mem_take (List.mem_reverse.mp hc))
/-- what there is at a step back has a small bottom -/
theorem ends_small {cs : List Mnu} {x : List Int} (hk : ∀ c ∈ cs, ∀ q ∈ c, Kep q.1 q.2) (hl : cs.length ≤ 60) (hx : Con x) (hz : x.sum < 2 ^ 6000) : ∀ d, d ≤ cs.length → ∀ e ∈ ends cs x d, e.sum < 2 ^ 6000
  | 0, _, e, he => by rw [List.mem_singleton.mp he]; exact hz
  | d + 1, hd, e, he => by
    have hc := (ends_con hk hx (d + 1) hd e he).1
    rw [ends_succ, mem_nxt] at he
    obtain ⟨f, hf, p, hp, rfl⟩ := he
    obtain ⟨g, hg, rfl⟩ := List.mem_map.mp hf
    obtain ⟨h1, h2, h3, h4, h5⟩ := mem_undL.mp hp
    unfold reach at h4
    rw [Bool.and_eq_true, List.any_eq_true] at h4
    obtain ⟨_, v, hv, e⟩ := h4
    have e := of_decide_eq_true e
    obtain ⟨v1, v2⟩ := prods_small (backM_kep hk _) (by unfold backM; rw [List.length_reverse, List.length_take]; omega) hv
    have := Int.le_of_dvd v1 (Int.dvd_of_emod_eq_zero e)
    have s : (2 : Int) ^ 400 < 2 ^ 6000 := by decide +kernel
    omega
/-- a content before -/
theorem before_con {cs : List Mnu} {x : List Int} (hk : ∀ c ∈ cs, ∀ q ∈ c, Kep q.1 q.2) {m i l : Nat} (hm : m < cs.length) (hi : i < (cs.getD m []).length) (hx : Con x) (hl : l < x.length) (f : fit x (shAt (cs.getD m []) i).1 (shAt (cs.getD m []) i).2 l = true) : Con (befo x (shAt (cs.getD m []) i).1 (shAt (cs.getD m []) i).2 l) := by
  refine befo_con hx ?_ hl f
  refine hk (cs.getD m []) ?_ _ ?_
  · rw [List.getD_eq_getElem?_getD, List.getElem?_eq_getElem hm]
    exact List.getElem_mem _
  · unfold shAt
    rw [List.getD_eq_getElem?_getD (l := cs.getD _ _), List.getElem?_eq_getElem hi]
    exact List.getElem_mem hi
end Ma
end

section
set_option Elab.async false
set_option linter.all false
set_option maxRecDepth 100000
set_option maxHeartbeats 4000000
namespace K34
open PySem PySem.Spec PyProof.Rows L2 GxR Gx Ma Mc
section
variable {P : Program} {w : World} {K : PySem.W.Frag} {mg : Str → Option Value} {base : Heap}

/-- a kept share; a menu; the choices; lists of products -/
def ShO (H : Hp) (a : Addr) (q : Int × Int) : Prop := H a = some (.tup [.int q.1, .int q.2])
theorem shO_mo : MoA ShO := fun _ _ _ _ s h => s _ _ h trivial
abbrev MnL := LO ShO
theorem mnL_mo : MoA MnL := fun _ _ _ _ s h => LO.mo shO_mo s h
abbrev ChL := LO MnL
theorem chL_mo : MoA ChL := fun _ _ _ _ s h => LO.mo mnL_mo s h
theorem lI_mo : MoA LI := fun _ _ _ _ s h => s _ _ h trivial
abbrev PdL := LO LI
/-- the products, each once, in some order -/
def Pds (cs : List Mnu) (pds : List (List Int)) (n : Nat) : Prop := pds.length = n + 1 ∧ ∀ (i : Nat) (h : i < pds.length), (∀ v, v ∈ pds[i] ↔ v ∈ prods (backM cs i)) ∧ pds[i].length ≤ (prods (backM cs i)).length
def sp_products_of : Sp := fun vs H Q _ => ∃ (l : Addr) (cs : List Mnu), vs = [V.ref l] ∧ ChL H l cs ∧ cs.length ≤ 60 ∧ (∀ c ∈ cs, ∀ q ∈ c, Kep q.1 q.2) ∧ (∀ i, i ≤ cs.length → (prods (backM cs i)).length ≤ 16777215) ∧ ∀ p H' pds, Same H H' → H p = none → PdL H' p pds → Pds cs pds cs.length → Q (.ref p) H'
/-- the keys of a dict of products -/
structure KsD (kvs : List (Key × V)) (done : List Int) : Prop where
  len : kvs.length ≤ done.length
  key : ∀ k z, valV kvs k = some z → ∃ v ∈ done, k = .inl v
  all : ∀ v ∈ done, (valV kvs (.inl v)).isSome = true
theorem putK_len (kvs : List (Key × V)) (k : Key) (v : V) : (putK kvs k v).length ≤ kvs.length + 1 := by
  unfold putK
  split
  · rw [List.length_map]; omega
  · rw [List.length_append]; exact Nat.le_refl _
theorem KsD.nil : KsD [] [] := ⟨Nat.zero_le _, (fun k z e => nomatch e), (fun v hv => nomatch hv)⟩
theorem KsD.put {kvs : List (Key × V)} {done : List Int} (h : KsD kvs done) (v : Int) (z : V) : KsD (putK kvs (.inl v) z) (done ++ [v]) := by
  refine ⟨?_, fun k y e => ?_, fun u hu => ?_⟩
  · have := putK_len kvs (.inl v) z
    have := h.len
    rw [List.length_append]
    simp only [List.length_cons, List.length_nil]
    omega
  · rw [valV_put] at e
    split at e
    · rename_i hk
      exact ⟨v, List.mem_append_right _ (List.mem_singleton.mpr rfl), hk⟩
    · obtain ⟨u, hu, e2⟩ := h.key k y e
      exact ⟨u, List.mem_append_left _ hu, e2⟩
  · rw [valV_put]
    split
    · rfl
    · rename_i hne
      rcases List.mem_append.mp hu with hu | hu
      · exact h.all u hu
      · exact absurd (congrArg Sum.inl (List.mem_singleton.mp hu)) hne
theorem valV_mem {kvs : List (Key × V)} {p : Key × V} (h : p ∈ kvs) : (valV kvs p.1).isSome = true := by
  rw [← valV_any]
  exact List.any_eq_true.mpr ⟨p, h, decide_eq_true rfl⟩
theorem mem_valV {kvs : List (Key × V)} {k : Key} (h : (valV kvs k).isSome = true) : ∃ p ∈ kvs, p.1 = k := by
  rw [← valV_any, List.any_eq_true] at h
  obtain ⟨p, hp, e⟩ := h
  exact ⟨p, hp, of_decide_eq_true e⟩
def keyI : Key → Int
  | .inl i => i
  | _ => 0
theorem KsD.ints {kvs : List (Key × V)} {done : List Int} (h : KsD kvs done) : kvs.map (fun p => kV p.1) = (kvs.map fun p => keyI p.1).map V.int ∧ ∀ v, v ∈ kvs.map (fun p => keyI p.1) ↔ v ∈ done := by
  have ki : ∀ p ∈ kvs, ∃ v ∈ done, p.1 = .inl v := fun p hp => by
    obtain ⟨z, hz⟩ := Option.isSome_iff_exists.mp (valV_mem hp)
    exact h.key _ z hz
  refine ⟨?_, fun v => ⟨fun hv => ?_, fun hv => ?_⟩⟩
  · rw [List.map_map]
    refine List.map_congr_left fun p hp => ?_
    obtain ⟨v, _, e⟩ := ki p hp
    show kV p.1 = V.int (keyI p.1)
    rw [e]
    rfl
  · obtain ⟨p, hp, e⟩ := List.mem_map.mp hv
    obtain ⟨u, hu, e2⟩ := ki p hp
    rw [e2] at e
    have e : u = v := e
    rw [← e]
    exact hu
  · obtain ⟨p, hp, e⟩ := mem_valV (h.all v hv)
    exact List.mem_map.mpr ⟨p, hp, by rw [e]; rfl⟩
theorem prods_back {cs : List Mnu} {i : Nat} (h : i < cs.length) : prods (backM cs (i + 1)) = (prods (backM cs i)).flatMap fun p => (cs.getD i []).map fun q => p * q.2 := by
  rw [backM_succ h]
  rfl
theorem flat_len {α : Type} (l : List Int) (c : List α) (f : Int → α → Int) : (l.flatMap fun p => c.map (f p)).length = l.length * c.length := by
  induction l with
  | nil => simp
  | cons a l ih => rw [List.flatMap_cons, List.length_append, List.length_map, ih, List.length_cons, Nat.succ_mul]; omega
theorem paired_app {α β : Type} {F : α → β → Prop} : ∀ {l : List α} {m : List β}, Paired F l m → ∀ {i : Nat} {b : β}, m[i]? = some b → ∃ a, l[i]? = some a ∧ F a b
  | _, _, .nil, i, b, h => by cases h
  | _, _, .cons r t, 0, b, h => by cases h; exact ⟨_, rfl, r⟩
  | _, _, .cons r t, i + 1, b, h => paired_app t (i := i) h
theorem atI_lastG {as : List Addr} {n : Nat} {a : Addr} (h : as.length = n + 1) (e : as[n]? = some a) : atI (as.map V.ref) (-1) = some (.ref a) := by
  obtain ⟨hn, rfl⟩ := List.getElem?_eq_some_iff.mp e
  have e1 : as.map V.ref = (as.take n).map V.ref ++ [.ref as[n]] := by
    have e1 : as = as.take n ++ [as[n]] := by
      have := List.take_append_getElem hn
      rw [this, List.take_of_length_le (by omega)]
    conv => lhs; rw [e1]
    rw [List.map_append]
    rfl
  rw [e1]
  exact atI_last _ _
/-- the new dict of products -/
structure PvK (H1 : Hp) (D : Addr) (done : List Int) (H : Hp) : Prop where
  s : Same H1 H
  d : ∃ kvs, H D = some (.dK kvs) ∧ KsD kvs done

theorem ok_products_of {f : Addr} {fd : FuncData}  (F : Fun K "products_of" "products_of" s_products_of f fd) (B : Bl mg)  : FnOk P w K mg base CX0 1 f fd ["choices"] (sp_products_of) := by
  refine F.ok sc_products_of (fun vs H Q E h => ?_) (fun cdv A outer s H vs Q E hr h => ?_)
  · obtain ⟨l, cs, rfl, _⟩ := h; rfl
  · obtain ⟨l, cs, rfl, ⟨ms, hl, hms⟩, h60, hk, hz, q⟩ := h
    have nd := sc_products_of.nd
    refine ⟨_, (pss_cons (ps_set (i := 1) nd rfl (Or.inl rfl) (pe_lst (pa_cons (pe_lst (pa_cons pe_int pa_nil)) pa_nil)))
      (pss_cons (ps_for PassesOwn.never rfl (pi_list (pv 0)) (pg_name (i := 2) nd rfl (Or.inr rfl)) (pss_cons (ps_setDc2 (i := 3) (own := [("product", 4), ("_", 5), ("whole", 6)]) (g := (gName 4)) (vs1 := [5, 6]) (g1 := (gTup K 2 (gCons (gName 5) (gCons (gName 6) gNil)))) rfl rfl (sw_trueD rfl rfl rfl (by decide +kernel)) rfl nd (pi_list (pe_ix ix_list (pv 1) (pe_un un_neg pe_int) (fun _ _ => rfl))) (blkOk_by (own := [("product", 4), ("_", 5), ("whole", 6)]) (N := ["choices", "products", "keeps", "further", "product", "_", "whole"]) (sc := defScope s_products_of) (by decide +kernel)) (by decide) (fun _ _ _ _ _ => (pg_name (i := 4) nd rfl (Or.inl rfl))) (fun _ _ _ _ _ => (pi_listK (K := K) rfl (pv 2))) (fun _ _ _ _ _ => (pg_tup (by rfl) (pgs_cons (pg_name (i := 5) nd rfl (Or.inl rfl)) (pgs_cons (pg_name (i := 6) nd rfl (Or.inl rfl)) pgs_nil)))) (fun _ _ _ _ _ => (pe_op op_mulW (pv 4) (pv 6))) (fun _ _ _ _ _ => pe_bl))
      (pss_one (ps_expr (pe_bm PySem.F.plainAttrs_list PySem.F.slot_list_append PySem.F.type_list_append mt_append (pv 1) (pa_cons (pe_callTy (cr_listK rfl) (by rfl) B.list (by decide +kernel) (pa_cons (pv 3) pa_nil)) pa_nil))))))
      (pss_one (ps_ret (pv 1))))), ?_⟩
    have lm : ms.length = cs.length := hms.length
    refine ⟨by show 1 ≤ 16777216; decide, fun p0 n0 => ⟨by show 1 ≤ 16777216; decide, fun p1 n1 => ?_⟩⟩
    have s0 := sameN (o := HO.lst [V.int 1]) n0
    have a0 : upd H p0 (HO.lst [V.int 1]) p0 = some (.lst [V.int 1]) := upd_same
    have np1 := s0.free n1
    generalize upd H p0 (HO.lst [V.int 1]) = H0 at n1 s0 a0
    have pv0 : PvA LI H p1 [[1]] (upd H0 p1 (.lst [V.ref p0])) := by
      refine ⟨fun x o e => ?_, [p0], upd_same, .cons ?_ .nil⟩
      · rw [upd_ne (ne_of_none e np1)]
        exact s0 _ _ e
      · have hne : p0 ≠ p1 := fun e => by rw [← e, a0] at n1; cases n1
        show hid p1 _ p0 = _
        rw [hid_ne hne, upd_ne hne]
        exact a0
    generalize upd H0 p1 (.lst [V.ref p0]) = H1 at pv0
    refine ⟨.ref l, rfl, l, rfl, ⟨_, SqL.of (pv0.s _ _ hl)⟩, for_list (xs := ms.map V.ref) (fun j σ G => ∃ a2 a3 a4 a5 a6 pds, σ = [some (.ref l), some (.ref p1), a2, a3, a4, a5, a6] ∧ PvA LI H p1 pds G ∧ Pds cs pds j) ⟨_, _, _, _, _, _, rfl, pv0, rfl, fun i h => ?_⟩ (fun j σ G _ ⟨_, _, _, _, _, _, _, e, _⟩ => SqL.of (e.s _ _ hl)) (fun j y σ G hx hw => ?_) (fun σ G hw => ?_)⟩
    · have i0 : i = 0 := by simpa using h
      subst i0
      exact ⟨fun v => Iff.rfl, Nat.le_refl _⟩
    · obtain ⟨a2, a3, a4, a5, a6, pds, rfl, pv, hpd⟩ := hw
      obtain ⟨a, hj, rfl, ts, ha, hts⟩ := LO.at_ hms hx
      have lt : ts.length = cs[j].length := hts.length
      have hgd : cs.getD j [] = cs[j] := by rw [List.getD_eq_getElem?_getD, List.getElem?_eq_getElem hj]; rfl
      obtain ⟨as, hD, hP⟩ := pv.d
      have la : as.length = pds.length := hP.length
      have lp := hpd.1
      have hjp : j < pds.length := by omega
      obtain ⟨pj, hpj, hpl⟩ := paired_app hP (List.getElem?_eq_getElem hjp)
      have hpl2 : LI G pj pds[j] := lI_mo _ _ _ _ (.of hid_of) hpl
      obtain ⟨pm, pl⟩ := hpd.2 j hjp
      have total : (pds[j].flatMap fun p => cs[j].map fun q => p * q.2).length ≤ 16777215 := by
        rw [flat_len pds[j] cs[j] fun p q => p * q.2]
        have h1 := hz (j + 1) (by omega)
        rw [prods_back hj, hgd, flat_len (prods (backM cs j)) cs[j] fun p q => p * q.2] at h1
        exact Nat.le_trans (Nat.mul_le_mul_right _ pl) h1
      refine ⟨.ref p1, rfl, 1, rfl, p1, _, -1, .ref pj, rfl, rfl, SqL.of hD, ?_, ?_⟩
      · exact atI_lastG (n := j) (by omega) hpj
      refine ⟨pj, rfl, ⟨_, SqL.of hpl2⟩, dc2_walk (n := (pds[j].map V.int).length) walk_list fun D nD => ⟨fun i H' => PvK G D ((pds[j].take i).flatMap fun p => cs[j].map fun q => p * q.2) H', ⟨sameN nD, [], upd_same, KsD.nil⟩, fun i H' _ pk => SqL.of (pk.s _ _ hpl2), fun H' pk => ?_, fun i y H' H2 hi pk hy => ?_⟩⟩
      · rw [List.length_map, List.take_length] at pk
        obtain ⟨kvs, hDk, ks⟩ := pk.d
        have kl := ks.len
        obtain ⟨i1, i2⟩ := ks.ints
        obtain ⟨p2s, p2d⟩ := pv.keep lI_mo pk.s
        obtain ⟨as2, hD2, hP2⟩ := p2d
        refine ⟨.ref p1, rfl, .inl ⟨rfl, _, SqL.of hD2⟩, .ref D, rfl, ⟨D, kvs, rfl, hDk, fun l2 nl2 => ?_⟩⟩
        have sl2 := sameN (o := HO.lst (kvs.map fun p => kV p.1)) nl2
        have al2 : upd H' l2 (HO.lst (kvs.map fun p => kV p.1)) l2 = some (.lst (kvs.map fun p => kV p.1)) := upd_same
        have n21 : l2 ≠ p1 := fun e => by rw [e, hD2] at nl2; cases nl2
        have pv3 := (pv.keep lI_mo pk.s).keep lI_mo sl2
        generalize upd H' l2 (HO.lst (kvs.map fun p => kV p.1)) = H3 at sl2 al2 pv3
        rw [i1] at al2
        obtain ⟨acc, e1, e2, e3⟩ := pv3.ext lI_mo np1 (sameR _) (q := l2) (b := kvs.map fun p => keyI p.1) (by omega) (by show hid p1 H3 l2 = _; rw [hid_ne n21]; exact al2)
        refine ⟨p1, acc, .ref l2, rfl, rfl, e1, e2, _, _, _, _, _, _, rfl, e3, by rw [List.length_append]; show pds.length + 1 = _; omega, fun i h => ?_⟩
        by_cases hlt : i < pds.length
        · rw [List.getElem_append_left hlt]
          exact hpd.2 i hlt
        · rw [List.length_append] at h
          have : i = pds.length := by simp only [List.length_cons, List.length_nil] at h; omega
          subst this
          rw [List.getElem_append_right (Nat.le_refl _)]
          simp only [Nat.sub_self, List.getElem_cons_zero]
          have ej : pds.length = j + 1 := by omega
          rw [ej, prods_back hj, hgd]
          refine ⟨fun v => ?_, ?_⟩
          · rw [i2 v, List.mem_flatMap, List.mem_flatMap]
            exact ⟨fun ⟨p, hp, h⟩ => ⟨p, (pm p).mp hp, h⟩, fun ⟨p, hp, h⟩ => ⟨p, (pm p).mpr hp, h⟩⟩
          · rw [List.length_map]
            refine Nat.le_trans kl ?_
            rw [flat_len pds[j] cs[j] fun p q => p * q.2, flat_len (prods (backM cs j)) cs[j] fun p q => p * q.2]
            exact Nat.mul_le_mul_right _ pl
      · obtain ⟨rfl, hy⟩ := hy
        obtain ⟨n, hn, rfl⟩ := map_get hy
        obtain ⟨hi', rfl⟩ := List.getElem?_eq_some_iff.mp hn
        obtain ⟨v1, v2⟩ := prods_small (backM_kep hk j) (by rw [backM_len _ _ (by omega)]; omega) ((pm _).mp (List.getElem_mem hi'))
        refine ⟨rfl, .ref a, rfl, a, rfl, ⟨_, SqL.of (pk.s _ _ (pv.s _ _ ha))⟩, cs[j].length, fun m H' => PvK G D (((pds[j].take i).flatMap fun p => cs[j].map fun q => p * q.2) ++ (cs[j].take m).map fun q => pds[j][i] * q.2) H', by dsimp only; rw [List.take_zero, List.map_nil, List.append_nil]; exact pk, fun H' p2 => ⟨⟨_, SqL.of (p2.s _ _ (pv.s _ _ ha)), by rw [List.length_map, lt]; exact Nat.le_refl _⟩, ?_⟩, fun m H' hm p2 => ⟨⟨_, _, SqL.of (p2.s _ _ (pv.s _ _ ha)), List.getElem?_eq_getElem (by rw [List.length_map, lt]; exact hm)⟩, fun y H3 hy3 => ?_⟩⟩
        · dsimp only
          rw [take_flat _ _ hi']
          dsimp only at p2
          rw [List.take_length] at p2
          exact p2
        · obtain ⟨rfl, hy3⟩ := hy3
          obtain ⟨t, hm', rfl, ht⟩ := LO.at_ hts (hy3 _ (SqL.of (p2.s _ _ (pv.s _ _ ha))))
          have kp := hk cs[j] (List.getElem_mem hj) cs[j][m] (List.getElem_mem hm')
          have kb := kp.b100
          have ka := kp.a1
          have kab := kp.ab
          have ht3 := p2.s _ _ (pv.s _ _ ht)
          refine ⟨t, _, rfl, SqT.of ht3, rfl, _, _, rfl, _, _, rfl, rfl, rfl, ?_⟩
          obtain ⟨kvs, hDk, ks⟩ := p2.d
          refine ⟨.int pds[j][i], rfl, .int cs[j][m].2, rfl, _, _, rfl, rfl, wide_mul (a := 400) (b := 7) (abs_lt (by omega) v2) (abs_lt (by omega) (by omega)) (by decide) (by decide) (by decide), ?_⟩
          have pre := flat_pre (fun p => cs[j].map fun q : Int × Int => p * q.2) pds[j] hi'
          have kl := ks.len
          rw [List.length_append, List.length_map, List.length_take] at kl
          rw [List.length_map] at pre
          refine ⟨kvs, .inl (pds[j][i] * cs[j][m].2), rfl, hDk, by show kvs.length < 16777216; omega, fun x o e => ?_, _, upd_same, ?_⟩
          · rw [upd_ne (ne_of_none e nD)]
            exact p2.s _ _ e
          · rw [List.take_add_one, List.getElem?_eq_getElem hm', List.map_append, ← List.append_assoc]
            exact ks.put _ _
    · obtain ⟨a2, a3, a4, a5, a6, pds, rfl, pv, hpd⟩ := hw
      rw [List.length_map, lm] at hpd
      exact ⟨.ref p1, rfl, q p1 G pds pv.s np1 (pv.fin lI_mo) hpd⟩

end
end K34
end

section
set_option Elab.async false
set_option linter.all false
set_option maxRecDepth 100000
set_option maxHeartbeats 4000000
namespace K34
open PySem PySem.Spec PyProof.Rows L2 GxR Gx Ma Mc
section
variable {P : Program} {w : World} {K : PySem.W.Frag} {mg : Str → Option Value} {base : Heap}

theorem lk_ne {f g : Str} {v : V} {r : List (Str × V)} (h : ¬ g = f) : List.lookup g ((f, v) :: r) = List.lookup g r := by
  have hb : (g == f) = false := beq_eq_false_iff_ne.mpr h
  simp only [List.lookup, hb]
theorem lk_eq {g : Str} {v : V} {r : List (Str × V)} : List.lookup g ((g, v) :: r) = some v := by
  have hb : (g == g) = true := beq_iff_eq.mpr rfl
  simp only [List.lookup, hb]
theorem pf_ne {f g : Str} {v x : V} {r : List (Str × V)} (h : ¬ g = f) : putF f v ((g, x) :: r) = (g, x) :: putF f v r := if_neg h
def CF (l pl kl : Addr) : List (Str × V) := [("choices", .ref l), ("products", .ref pl), ("known", .ref kl)]
theorem ne_pr_ch : ¬ (("products" : Str) = "choices") := by decide +kernel
theorem ne_ch_pr : ¬ (("choices" : Str) = "products") := by decide +kernel
theorem ne_kn_ch : ¬ (("known" : Str) = "choices") := by decide +kernel
theorem ne_ch_kn : ¬ (("choices" : Str) = "known") := by decide +kernel
theorem ne_kn_pr : ¬ (("known" : Str) = "products") := by decide +kernel
theorem ne_pr_kn : ¬ (("products" : Str) = "known") := by decide +kernel
theorem lk_ch {l pl kl : Addr} : (CF l pl kl).lookup ("choices" : Str) = some (.ref l) := by
  unfold CF
  rw [lk_eq]
theorem lk_pr {l pl kl : Addr} : (CF l pl kl).lookup ("products" : Str) = some (.ref pl) := by
  unfold CF
  rw [lk_ne ne_pr_ch, lk_eq]
theorem lk_kn {l pl kl : Addr} : (CF l pl kl).lookup ("known" : Str) = some (.ref kl) := by
  unfold CF
  rw [lk_ne ne_kn_ch, lk_ne ne_kn_pr, lk_eq]
theorem lk_isb {l pl kl : Addr} : (CF l pl kl).lookup ("is_bottom" : Str) = none := by
  unfold CF
  rw [lk_ne (by decide +kernel), lk_ne (by decide +kernel), lk_ne (by decide +kernel)]
  rfl
theorem lk_isr {l pl kl : Addr} : (CF l pl kl).lookup ("is_reachable" : Str) = none := by
  unfold CF
  rw [lk_ne (by decide +kernel), lk_ne (by decide +kernel), lk_ne (by decide +kernel)]
  rfl
theorem lk_und {l pl kl : Addr} : (CF l pl kl).lookup ("undone" : Str) = none := by
  unfold CF
  rw [lk_ne (by decide +kernel), lk_ne (by decide +kernel), lk_ne (by decide +kernel)]
  rfl
structure CNA (K : PySem.W.Frag) (C : Addr) : Prop where
  ch : NoAttr K C "choices"
  pr : NoAttr K C "products"
  kn : NoAttr K C "known"
/-- what is known of the bottoms is right -/
def Knw (cs : List Mnu) (i : Nat) (kvs : List (Key × V)) : Prop := ∀ k v, valV kvs k = some v → ∃ b : Int, k = .inl b ∧ v = .bl ((prods (backM cs i)).any fun q => decide (q % b = 0))
/-- a search at p, its known dicts at ds, none with more than z entries -/
structure CSt (C : Addr) (H : Hp) (p : Addr) (cs : List Mnu) (ds : List Addr) (z : Nat) : Prop where
  ex : ∃ dx l pl kl pds, H p = some (.ins C dx (CF l pl kl)) ∧ ChL H l cs ∧ PdL H pl pds ∧ Pds cs pds cs.length ∧ H kl = some (.lst (ds.map V.ref))
  len : ds.length = cs.length + 1
  nd : ds.Nodup
  kn : ∀ i d, ds[i]? = some d → ∃ kvs, H d = some (.dK kvs) ∧ kvs.length ≤ z ∧ Knw cs i kvs
def BK (ds : List Addr) (H H' : Hp) : Prop := ∀ x o, x ∉ ds → H x = some o → H' x = some o
theorem BK.of {ds : List Addr} {H H' : Hp} (s : Same H H') : BK ds H H' := fun x o _ e => s x o e
theorem BK.tr {ds : List Addr} {H H' H'' : Hp} (a : BK ds H H') (b : BK ds H' H'') : BK ds H H'' := fun x o n e => b x o n (a x o n e)
theorem CSt.dk {C : Addr} {H : Hp} {p : Addr} {cs : List Mnu} {ds : List Addr} {z : Nat} (h : CSt C H p cs ds z) {x : Addr} (hx : x ∈ ds) : ∃ kvs, H x = some (.dK kvs) := by
  obtain ⟨i, hi, rfl⟩ := List.mem_iff_getElem.mp hx
  obtain ⟨kvs, e, _⟩ := h.kn i _ (List.getElem?_eq_getElem hi)
  exact ⟨kvs, e⟩
theorem CSt.sl {C : Addr} {H H' : Hp} {p : Addr} {cs : List Mnu} {ds : List Addr} {z : Nat} (h : CSt C H p cs ds z) (b : BK ds H H') : SameL H H' := fun x o e n => by
  refine b x o (fun hx => ?_) e
  obtain ⟨kvs, e2⟩ := h.dk hx
  rw [e] at e2
  cases e2
  exact n
theorem CSt.same {C : Addr} {H H' : Hp} {p : Addr} {cs : List Mnu} {ds : List Addr} {z : Nat} (h : CSt C H p cs ds z) (s : Same H H') : CSt C H' p cs ds z := by
  obtain ⟨dx, l, pl, kl, pds, h1, h2, h3, h4, h5⟩ := h.ex
  refine ⟨⟨dx, l, pl, kl, pds, s _ _ h1, chL_mo _ _ _ _ (.of s) h2, LO.mo lI_mo (.of s) h3, h4, s _ _ h5⟩, h.len, h.nd, fun i d e => ?_⟩
  obtain ⟨kvs, e1, e2, e3⟩ := h.kn i d e
  exact ⟨kvs, s _ _ e1, e2, e3⟩
theorem CSt.more {C : Addr} {H : Hp} {p : Addr} {cs : List Mnu} {ds : List Addr} {z z' : Nat} (h : CSt C H p cs ds z) (l : z ≤ z') : CSt C H p cs ds z' := ⟨h.ex, h.len, h.nd, fun i d e => let ⟨kvs, a, b, c⟩ := h.kn i d e; ⟨kvs, a, by omega, c⟩⟩
/-- the new answer -/
theorem CSt.put {C : Addr} {H : Hp} {p : Addr} {cs : List Mnu} {ds : List Addr} {z i : Nat} {d : Addr} {kvs : List (Key × V)} {b : Int} (h : CSt C H p cs ds z) (hd : ds[i]? = some d) (e : H d = some (.dK kvs)) (hl : kvs.length ≤ z) (hk : Knw cs i kvs) :
    CSt C (upd H d (.dK (putK kvs (.inl b) (.bl ((prods (backM cs i)).any fun q => decide (q % b = 0)))))) p cs ds (z + 1) := by
  obtain ⟨dx, l, pl, kl, pds, h1, h2, h3, h4, h5⟩ := h.ex
  have s : SameL H (upd H d (.dK (putK kvs (.inl b) (.bl ((prods (backM cs i)).any fun q => decide (q % b = 0)))))) := .up e (fun h => h)
  refine ⟨⟨dx, l, pl, kl, pds, s _ _ h1 trivial, chL_mo _ _ _ _ s h2, LO.mo lI_mo s h3, h4, s _ _ h5 trivial⟩, h.len, h.nd, fun j d' hj => ?_⟩
  obtain ⟨kv2, e1, e2, e3⟩ := h.kn j d' hj
  by_cases hx : d' = d
  · have : j = i := by
      obtain ⟨j1, j2⟩ := List.getElem?_eq_some_iff.mp hj
      obtain ⟨i1, i2⟩ := List.getElem?_eq_some_iff.mp hd
      exact (List.getElem_inj h.nd).mp (by rw [j2, i2, hx])
    subst this
    subst hx
    refine ⟨_, upd_same, ?_, fun k v hv => ?_⟩
    · have := putK_len kvs (.inl b) (.bl ((prods (backM cs j)).any fun q => decide (q % b = 0)))
      omega
    · rw [valV_put] at hv
      split at hv
      · rename_i hk2
        exact ⟨b, hk2, (Option.some.inj hv).symm⟩
      · exact hk k v hv
  · exact ⟨kv2, by rw [upd_ne hx]; exact e1, by omega, e3⟩
theorem shO_ne {H : Hp} {a p C dx : Addr} {q : Int × Int} {fs : List (Str × V)} (h : ShO H a q) (hp : H p = some (.ins C dx fs)) : a ≠ p := fun e => by
  have h : H a = some (.tup [.int q.1, .int q.2]) := h
  rw [e, hp] at h
  cases h
def sp_cs_init (C : Addr) : Sp := fun vs H Q _ => ∃ (p dx l : Addr) (cs : List Mnu), vs = [V.ref p, V.ref l] ∧ H p = some (.ins C dx []) ∧ ChL H l cs ∧ cs.length ≤ 60 ∧ (∀ c ∈ cs, ∀ q ∈ c, Kep q.1 q.2) ∧ (∀ i, i ≤ cs.length → (prods (backM cs i)).length ≤ 16777215) ∧ ∀ H' ds, (∀ q o, q ≠ p → H q = some o → H' q = some o) → Fre H H' → (∀ d ∈ ds, H d = none) → CSt C H' p cs ds 0 → Q .non H'
def sp_is_bottom (C T : Addr) : Sp := fun vs H Q _ => ∃ (p : Addr) (cs : List Mnu) (ds : List Addr) (z i : Nat) (b : Int), vs = [V.ref p, .int b, .int i] ∧ CSt C H p cs ds z ∧ i ≤ cs.length ∧ 0 < b ∧ z ≤ 16777215 ∧ H T = some (TabO T) ∧ ∀ H', BK ds H H' → CSt C H' p cs ds (z + 1) → Q (.bl ((prods (backM cs i)).any fun q => decide (q % b = 0))) H'
def sp_is_reachable (C T : Addr) : Sp := fun vs H Q _ => ∃ (p l : Addr) (cs : List Mnu) (ds : List Addr) (z i : Nat) (y : List Int), vs = [V.ref p, .ref l, .int i] ∧ CSt C H p cs ds z ∧ TupN H l (y.map V.int) ∧ i ≤ cs.length ∧ 0 < y.sum ∧ z ≤ 16777215 ∧ H T = some (TabO T) ∧ ∀ H', BK ds H H' → CSt C H' p cs ds (z + 1) → Q (.bl (reach (backM cs i) y)) H'
theorem at_nth {as : List Addr} {i : Nat} {a : Addr} (h : as[i]? = some a) : atI (as.map V.ref) (i : Int) = some (.ref a) := atI_nat (by rw [List.getElem?_map, h]; rfl)
theorem any_same {xs ys : List Int} (h : ∀ v, v ∈ xs ↔ v ∈ ys) (f : Int → Bool) : xs.any f = ys.any f := by
  rw [Bool.eq_iff_iff, List.any_eq_true, List.any_eq_true]
  exact ⟨fun ⟨v, a, b⟩ => ⟨v, (h v).mp a, b⟩, fun ⟨v, a, b⟩ => ⟨v, (h v).mpr a, b⟩⟩

theorem ok_ContentSearch___init__ {f : Addr} {fd : FuncData}  (F : Fun K "__init__" "ContentSearch.__init__" s_ContentSearch___init__ f fd) (B : Bl mg) {C : Addr} (KL_ContentSearch : Kls K mg "ContentSearch" C) (NC : CNA K C) (C_products_of : Cal P w K mg base 1 "products_of" ["choices"] sp_products_of) : FnOk P w K mg base CX0 2 f fd ["self", "choices"] (sp_cs_init C) := by
  refine F.ok sc_ContentSearch___init__ (fun vs H Q E h => ?_) (fun cdv A outer s H vs Q E hr h => ?_)
  · obtain ⟨p, dx, l, cs, rfl, _⟩ := h; rfl
  · obtain ⟨p, dx, l, cs, rfl, hp, hl, h60, hk, hz, q⟩ := h
    have nd := sc_ContentSearch___init__.nd
    refine ⟨_, (pss_cons (ps_fld (pv 0) (pv 1) rfl)
      (pss_cons (ps_fld (pv 0) (pe_cal C_products_of (hr.mono (by decide)) (pa_cons (pv 1) pa_nil)) rfl)
      (pss_one (ps_fld (pv 0) (pe_lc (own := [("_", 2)]) (g := gName 2) rfl nd (pi_list (pe_fld (pv 0) rfl)) (blkOk_by (own := [("_", 2)]) (N := ["self", "choices", "_"]) (sc := defScope s_ContentSearch___init__) (by decide +kernel)) (fun _ _ _ _ _ => (pg_name (i := 2) nd rfl (Or.inl rfl))) (fun _ _ _ _ _ => pts_nil) (fun _ _ _ _ _ => pe_dnewK)) rfl)))), ?_⟩
    refine ⟨.ref l, rfl, .ref p, rfl, p, C, dx, _, rfl, hp, KL_ContentSearch.cl, NC.ch, by show 0 < 1000; decide, ?_⟩
    rw [show putF "choices" (V.ref l) [] = ([(("choices" : Str), V.ref l)] : List (Str × V)) from rfl]
    have n0 : ¬ NoX (HO.ins C dx []) → False := fun h => h trivial
    obtain ⟨ms, hl1, hl2⟩ := hl
    have lp : l ≠ p := fun e => by rw [e, hp] at hl1; cases hl1
    have g1 : ∀ q o, q ≠ p → H q = some o → L2.upd H p (.ins C dx [("choices", .ref l)]) q = some o := fun q o hq e => by rw [upd_ne hq]; exact e
    have g2 : L2.upd H p (.ins C dx [("choices", .ref l)]) p = some (.ins C dx [("choices", .ref l)]) := upd_same
    have g3 : Fre H (L2.upd H p (.ins C dx [("choices", .ref l)])) := fun x hx => by
      by_cases e : x = p
      · rw [e, upd_same] at hx; cases hx
      · rw [upd_ne e] at hx; exact hx
    have mpn : ∀ a c, MnL H a c → MnL (L2.upd H p (.ins C dx [("choices", .ref l)])) a c := fun a c ⟨ts, e1, e2⟩ => ⟨ts, g1 _ _ (fun e => by rw [e, hp] at e1; cases e1) e1, e2.mono fun t q h => g1 _ _ (shO_ne h hp) h⟩
    have hl3 : ChL (L2.upd H p (.ins C dx [("choices", .ref l)])) l cs := ⟨ms, g1 _ _ lp hl1, hl2.mono fun a c h => mpn a c h⟩
    generalize L2.upd H p (.ins C dx [("choices", .ref l)]) = H1 at g1 g2 g3 hl3
    refine ⟨.ref l, rfl, l, cs, rfl, hl3, h60, hk, hz, fun pl H2 pds s2 npl hpl hpd => ?_⟩
    refine ⟨.ref p, rfl, p, C, dx, _, rfl, s2 _ _ g2, KL_ContentSearch.cl, NC.pr, by show 1 < 1000; decide, ?_⟩
    rw [pf_ne ne_ch_pr, show putF "products" (V.ref pl) [] = ([(("products" : Str), V.ref pl)] : List (Str × V)) from rfl]
    have hp2 := s2 _ _ g2
    have j1 : ∀ q o, q ≠ p → H2 q = some o → L2.upd H2 p (.ins C dx [("choices", .ref l), ("products", .ref pl)]) q = some o := fun q o hq e => by rw [upd_ne hq]; exact e
    have j2 : L2.upd H2 p (.ins C dx [("choices", .ref l), ("products", .ref pl)]) p = some (.ins C dx [("choices", .ref l), ("products", .ref pl)]) := upd_same
    have j3 : Fre H2 (L2.upd H2 p (.ins C dx [("choices", .ref l), ("products", .ref pl)])) := fun x hx => by
      by_cases e : x = p
      · rw [e, upd_same] at hx; cases hx
      · rw [upd_ne e] at hx; exact hx
    have hl4 := chL_mo _ _ _ _ (.of s2) hl3
    have hlC : ChL (L2.upd H2 p (.ins C dx [("choices", .ref l), ("products", .ref pl)])) l cs := by
      obtain ⟨ms, e1, e2⟩ := hl4
      refine ⟨ms, j1 _ _ (fun e => by rw [e, hp2] at e1; cases e1) e1, e2.mono fun a c ⟨ts, f1, f2⟩ => ⟨ts, j1 _ _ (fun e => by rw [e, hp2] at f1; cases f1) f1, f2.mono fun t q h => j1 _ _ (shO_ne h hp2) h⟩⟩
    have hpC : PdL (L2.upd H2 p (.ins C dx [("choices", .ref l), ("products", .ref pl)])) pl pds := by
      obtain ⟨as, e1, e2⟩ := hpl
      refine ⟨as, j1 _ _ (fun e => by rw [e, hp2] at e1; cases e1) e1, e2.mono fun a c f1 => j1 _ _ (fun e => by
        have f1 : H2 a = some (.lst (c.map V.int)) := f1
        rw [e, hp2] at f1; cases f1) f1⟩
    have gO : ∀ q o, q ≠ p → H q = some o → L2.upd H2 p (.ins C dx [("choices", .ref l), ("products", .ref pl)]) q = some o := fun q o hq e => j1 _ _ hq (s2 _ _ (g1 _ _ hq e))
    have gF : Fre H (L2.upd H2 p (.ins C dx [("choices", .ref l), ("products", .ref pl)])) := fun x hx => g3 x (s2.free (j3 x hx))
    generalize L2.upd H2 p (.ins C dx [("choices", .ref l), ("products", .ref pl)]) = H3 at j2 hlC hpC gO gF
    obtain ⟨as, ha, hP⟩ := hpC
    have la : as.length = pds.length := hP.length
    have lk0 : List.lookup ("products" : Str) [("choices", V.ref l), ("products", .ref pl)] = some (.ref pl) := by rw [lk_ne ne_pr_ch, lk_eq]
    refine ⟨.ref p, rfl, p, C, dx, _, .ref pl, rfl, j2, KL_ContentSearch.cl, NC.pr, lk0, pl, rfl, ⟨_, SqL.of ha⟩, fun D hD => ⟨fun i m H' => m = pds.length - i ∧ i ≤ pds.length ∧ Same H3 H' ∧ ∃ bs : List Addr, H' D = some (.lst (bs.map V.ref)) ∧ bs.length = i ∧ bs.Nodup ∧ ∀ b ∈ bs, H' b = some (.dK []) ∧ b ≠ D ∧ H3 b = none, ⟨_, rfl, Nat.zero_le _, sameN hD, [], upd_same, rfl, List.nodup_nil, fun b hb => nomatch hb⟩, fun i m H' ⟨hm, hi, s4, bs, hb1, hb2, hb3, hb4⟩ => ?_⟩⟩
    by_cases hlt : i < pds.length
    · refine .inr ⟨⟨_, _, SqL.of (s4 _ _ ha), List.getElem?_eq_getElem (by rw [List.length_map]; omega)⟩, fun H' => Same H3 H' ∧ ∃ bs : List Addr, H' D = some (.lst (bs.map V.ref)) ∧ bs.length = i + 1 ∧ bs.Nodup ∧ ∀ b ∈ bs, H' b = some (.dK []) ∧ b ≠ D ∧ H3 b = none, fun H4 p4 => ⟨pds.length - (i + 1), by omega, rfl, hlt, p4⟩, fun y H4 hy => ?_⟩
      obtain ⟨rfl, hy⟩ := hy
      have lpd := hpd.1
      refine ⟨rfl, fun b nb => ?_⟩
      have sb := sameN (o := HO.dK []) nb
      have hbD : b ≠ D := fun e => by rw [e, hb1] at nb; cases nb
      refine ⟨_, sb _ _ hb1, by rw [List.length_map, hb2]; show i < 16777216; omega, fun x o e => ?_, bs ++ [b], by rw [upd_same, List.map_append]; rfl, by rw [List.length_append, hb2]; rfl, List.nodup_append.mpr ⟨hb3, List.nodup_cons.mpr ⟨List.not_mem_nil, List.nodup_nil⟩, fun x hx y hy e => by
        rw [List.mem_singleton] at hy
        rw [e, hy] at hx
        rw [(hb4 b hx).1] at nb
        cases nb⟩, fun x hx => ?_⟩
      · rw [upd_ne (ne_of_none e hD)]
        exact sb _ _ (s4 _ _ e)
      · rcases List.mem_append.mp hx with hx | hx
        · obtain ⟨e1, e2, e3⟩ := hb4 x hx
          exact ⟨by rw [upd_ne e2]; exact sb _ _ e1, e2, e3⟩
        · rw [List.mem_singleton] at hx
          subst hx
          exact ⟨by rw [upd_ne hbD, upd_same], hbD, s4.free nb⟩
    · have ei : i = pds.length := by omega
      subst ei
      refine .inl ⟨⟨_, SqL.of (s4 _ _ ha), by rw [List.length_map, la]; exact Nat.le_refl _⟩, ?_⟩
      refine ⟨.ref p, rfl, p, C, dx, _, rfl, s4 _ _ j2, KL_ContentSearch.cl, NC.kn, by show 2 < 1000; decide, ?_⟩
      rw [pf_ne ne_ch_kn, pf_ne ne_pr_kn, show putF "known" (V.ref D) [] = ([(("known" : Str), V.ref D)] : List (Str × V)) from rfl]
      have k1 : ∀ q o, q ≠ p → H' q = some o → L2.upd H' p (.ins C dx (CF l pl D)) q = some o := fun q o hq e => by rw [upd_ne hq]; exact e
      have hp4 := s4 _ _ j2
      refine q (L2.upd H' p (.ins C dx (CF l pl D))) bs (fun q o hq e => k1 _ _ hq (s4 _ _ (gO _ _ hq e))) (fun x hx => ?_) (fun d hd => gF d (hb4 d hd).2.2) ⟨⟨dx, l, pl, D, pds, upd_same, ?_, ⟨as, k1 _ _ (fun e => by rw [← e, ha] at j2; cases j2) (s4 _ _ ha), hP.mono fun a c f1 => k1 _ _ (fun e => by
          have f1 : H3 a = some (.lst (c.map V.int)) := f1
          rw [e, j2] at f1; cases f1) (s4 _ _ f1)⟩, hpd, k1 _ _ (fun e => by rw [e, hp4] at hb1; cases hb1) hb1⟩, by rw [hb2, hpd.1], hb3, fun i d hd => ?_⟩
      · refine gF x (s4.free ?_)
        by_cases e : x = p
        · rw [e, upd_same] at hx; cases hx
        · rw [upd_ne e] at hx; exact hx
      · obtain ⟨ms, e1, e2⟩ := hlC
        refine ⟨ms, k1 _ _ (fun e => by rw [e, j2] at e1; cases e1) (s4 _ _ e1), e2.mono fun a c ⟨ts, f1, f2⟩ => ⟨ts, k1 _ _ (fun e => by rw [e, j2] at f1; cases f1) (s4 _ _ f1), f2.mono fun t q h => k1 _ _ (shO_ne h j2) (s4 _ _ h)⟩⟩
      · have hm := List.mem_of_getElem? hd
        obtain ⟨e1, e2, e3⟩ := hb4 d hm
        exact ⟨[], k1 _ _ (fun e => by rw [e, hp4] at e1; cases e1) e1, Nat.zero_le _, fun k v e => by cases e⟩

theorem ok_ContentSearch_is_bottom {f : Addr} {fd : FuncData} {c : Addr} (F : FunC K "is_bottom" "ContentSearch.is_bottom" s_ContentSearch_is_bottom f fd c) (B : Bl mg) {C : Addr} (KL_ContentSearch : Kls K mg "ContentSearch" C) (NC : CNA K C) {T : Addr} (TB_ContentSearch_is_bottom : TabB base mg c T) : FnOk P w K mg base CX0 4 f fd ["self", "bottom", "number"] (sp_is_bottom C T) := by
  refine F.ok sc_ContentSearch_is_bottom (fun vs H Q E h => ?_) (fun A outer s H vs Q E hr h => ?_)
  · obtain ⟨p, cs, ds, z, i, b, rfl, _⟩ := h; rfl
  · obtain ⟨p, cs, ds, z, i, b, rfl, hp, hi, hb, hz, hT, q⟩ := h
    have hcode : (cxOf CX0 P w K mg base ["self", "bottom", "number", "known"] "ContentSearch.is_bottom" (defScope s_ContentSearch_is_bottom) f (.ref c) A outer s H E).nox.env.code = .ref c := rfl
    have nd := sc_ContentSearch_is_bottom.nd
    refine ⟨_, (pss_cons (ps_set (i := 3) nd rfl (Or.inl rfl) (pe_ix ix_list (pe_fld (pv 0) rfl) (pv 2) (fun _ _ => rfl)))
      (pss_cons (ps_if (pt_cmp (pc_dnotin (u1 hr) (pv 1) (pv 3)) (by with_unfolding_all rfl))
      (pss_one (ps_dput (u1 hr) (pv 3) (pv 1) (pe_anyG (ns := [("bottom", 1)]) (k' := 0) (hr.mono (by decide)) (by rfl) B.any TB_ContentSearch_is_bottom hcode (gok_by (N := ["self", "bottom", "number", "known"]) (sc := defScope s_ContentSearch_is_bottom) (by decide +kernel)) (by decide) (pi_list (pe_ix ix_list (pe_fld (pv 0) rfl) (pv 2) (fun _ _ => rfl))) (fun s H C code fp A hq => (pe_cmpR op_eq (pe_op op_mod (pv 0) (pv 1)) pe_int (nomark _)))) rfl)) pss_nil)
      (pss_one (ps_ret (pe_dget (u1 hr) (pv 3) (pv 1) (fun _ _ => rfl)))))), ?_⟩
    obtain ⟨dx, l, pl, kl, pds, h1, h2, h3, h4, h5⟩ := hp.ex
    have hld := hp.len
    have hdi : ds[i]? = some (ds[i]'(by omega)) := List.getElem?_eq_getElem (by omega)
    obtain ⟨kvs, hd, hle, hkn⟩ := hp.kn i _ hdi
    have hdm : (ds[i]'(by omega)) ∈ ds := List.getElem_mem _
    generalize (ds[i]'(by omega)) = d at hdi hd hdm
    have hlp := h4.1
    obtain ⟨pm, _⟩ := h4.2 i (by omega)
    obtain ⟨as, hpl, hP⟩ := h3
    obtain ⟨pa, hpa, hpi⟩ := paired_app hP (List.getElem?_eq_getElem (show i < pds.length by omega))
    have eA := any_same pm fun q => decide (q % b = 0)
    have hpi : H pa = some (.lst (pds[i].map V.int)) := hpi
    generalize pds[i] = xs at eA hpi
    refine ⟨.ref p, rfl, p, C, dx, _, .ref kl, rfl, h1, KL_ContentSearch.cl, NC.kn, lk_kn, .int i, rfl, kl, _, i, .ref d, rfl, rfl, SqL.of h5, at_nth hdi, ?_⟩
    refine ⟨.int b, rfl, .ref d, rfl, d, valV kvs (.inl b), rfl, DGet.k (k := .inl b) hd, _, rfl, ?_⟩
    cases hv : valV kvs (.inl b) with
    | some v =>
      refine iteF ⟨.ref d, rfl, .int b, rfl, d, v, rfl, by rw [← hv]; exact DGet.k (k := .inl b) hd, ?_⟩
      obtain ⟨b', e1, e2⟩ := hkn _ _ hv
      cases e1
      rw [e2]
      exact q H (.of (sameR _)) (hp.more (Nat.le_succ _))
    | none =>
      refine iteT ?_
      refine ⟨.ref p, rfl, p, C, dx, _, .ref pl, rfl, h1, KL_ContentSearch.cl, NC.pr, lk_pr, .int i, rfl, pl, _, i, .ref pa, rfl, rfl, SqL.of hpl, at_nth hpa, pa, rfl, ⟨_, SqL.of hpi⟩, hT, xs.length, fun j H' => H' = H ∧ ∀ v ∈ xs.take j, decide (v % b = 0) = false, ⟨rfl, fun v hv => nomatch hv⟩, fun H' ⟨e, hall⟩ => ⟨⟨_, SqL.of (e ▸ hpi), by rw [List.length_map]; exact Nat.le_refl _⟩, ?_⟩, fun j H' hj ⟨e, hall⟩ => ⟨⟨_, _, SqL.of (e ▸ hpi), List.getElem?_eq_getElem (by rw [List.length_map]; exact hj)⟩, fun y H2 hy => ?_⟩⟩
      · subst e
        rw [List.take_length] at hall
        · refine ⟨.ref d, rfl, .int b, rfl, d, _, rfl, DPut.k (k := .inl b) (v := .bl false) hd (by show kvs.length < 16777216; omega), ?_⟩
          rw [show false = (prods (backM cs i)).any (fun q => decide (q % b = 0)) from (by rw [← eA]; exact (List.any_eq_false.mpr fun v hv => by rw [hall v hv]; exact Bool.false_ne_true).symm)]
          refine ⟨.ref d, rfl, .int b, rfl, d, _, rfl, .inl ⟨_, .inl b, .inl upd_same, rfl, by rw [valV_put, if_pos rfl]⟩, ?_⟩
          exact q _ (fun x o hx e => by rw [upd_ne (show ¬ x = d from fun ez => hx (ez ▸ hdm))]; exact e) (hp.put hdi hd hle hkn)
      · obtain ⟨rfl, hy⟩ := hy
        subst e
        have hy := (hy _ (SqL.of hpi)).symm.trans (show (xs.map V.int)[j]? = some (.int xs[j]) by rw [List.getElem?_map, List.getElem?_eq_getElem hj]; rfl)
        cases Option.some.inj hy
        refine ⟨.int xs[j], rfl, .int b, rfl, xs[j], b, rfl, rfl, hb, rfl, _, rfl, ?_⟩
        rw [dec_int]
        by_cases hq : xs[j] % b = 0
        · rw [decide_eq_true hq]
          refine iteT ?_
          refine ⟨.ref d, rfl, .int b, rfl, d, _, rfl, DPut.k (k := .inl b) (v := .bl true) hd (by show kvs.length < 16777216; omega), ?_⟩
          rw [show true = (prods (backM cs i)).any (fun q => decide (q % b = 0)) from (by rw [← eA]; exact (List.any_eq_true.mpr ⟨xs[j], List.getElem_mem _, decide_eq_true hq⟩).symm)]
          refine ⟨.ref d, rfl, .int b, rfl, d, _, rfl, .inl ⟨_, .inl b, .inl upd_same, rfl, by rw [valV_put, if_pos rfl]⟩, ?_⟩
          exact q _ (fun x o hx e => by rw [upd_ne (show ¬ x = d from fun ez => hx (ez ▸ hdm))]; exact e) (hp.put hdi hd hle hkn)
        · rw [decide_eq_false hq]
          refine iteF ⟨rfl, fun v hv => ?_⟩
          rw [List.take_add_one, List.getElem?_eq_getElem hj] at hv
          rcases List.mem_append.mp hv with hv | hv
          · exact hall v hv
          · have : v = xs[j] := by simpa using hv
            rw [this]
            exact decide_eq_false hq

theorem ok_ContentSearch_is_reachable {f : Addr} {fd : FuncData}  (F : Fun K "is_reachable" "ContentSearch.is_reachable" s_ContentSearch_is_reachable f fd) (B : Bl mg) {C : Addr} (KL_ContentSearch : Kls K mg "ContentSearch" C) (NC : CNA K C) {T : Addr} (M_ContentSearch_is_bottom : Mt P w K mg base 4 C "is_bottom" ["self", "bottom", "number"] (sp_is_bottom C T)) : FnOk P w K mg base CX0 5 f fd ["self", "content", "number"] (sp_is_reachable C T) := by
  refine F.ok sc_ContentSearch_is_reachable (fun vs H Q E h => ?_) (fun cdv A outer s H vs Q E hr h => ?_)
  · obtain ⟨p, l, cs, ds, z, i, y, rfl, _⟩ := h; rfl
  · obtain ⟨p, l, cs, ds, z, i, y, rfl, hp, hl, hi, hy, hz, hT, q⟩ := h
    have nd := sc_ContentSearch_is_reachable.nd
    refine ⟨_, (pss_one (ps_ret (pe_and (pe_cmpR op_le (pe_op op_sub (pe_callB call_len_seq (by rfl) B.len PySem.boot_len (pa_cons (pv 1) pa_nil)) (pe_bt PySem.F.slot_tuple_count PySem.F.type_tuple_count mt_tcount (pv 1) (pa_cons pe_int pa_nil))) (pe_op op_add (pv 2) pe_int) (nomark _)) (pe_one (pe_mt KL_ContentSearch.cl M_ContentSearch_is_bottom (hr.mono (by decide)) (pv 0) (pa_cons (pe_callB (cr_sumT rfl) (by rfl) B.sum (by decide +kernel) (pa_cons (pv 1) pa_nil)) (pa_cons (pv 2) pa_nil))))))), ?_⟩
    obtain ⟨dx, l0, pl, kl, pds, h1, h2, h3, h4, h5⟩ := hp.ex
    have hln := hl.sq (K := K)
    have nzc := nz_count y
    have cl : y.count 0 ≤ y.length := List.count_le_length
    have eR : reach (backM cs i) y = (decide (nz y ≤ i + 1) && (prods (backM cs i)).any fun q => decide (q % y.sum = 0)) := by
      unfold reach
      rw [backM_len _ _ hi]
    refine ⟨.ref l, rfl, l, _, rfl, .inr hln, .ref l, rfl, ⟨l, _, rfl, hl⟩, l, y, 0, rfl, rfl, hln, _, _, rfl, rfl, .int i, rfl, _, _, rfl, rfl, _, _, rfl, rfl, _, rfl, ?_⟩
    rw [show decide (((List.map V.int y).length : Int) - (List.count 0 y : Nat) ≤ (i : Int) + 1) = decide (nz y ≤ i + 1) by
      rw [List.length_map]
      by_cases h : nz y ≤ i + 1
      · rw [decide_eq_true h, decide_eq_true (by omega)]
      · rw [decide_eq_false h, decide_eq_false (by omega)]]
    by_cases hn : nz y ≤ i + 1
    · rw [decide_eq_true hn] at eR ⊢
      rw [Bool.true_and] at eR
      refine iteT ⟨.ref p, rfl, p, dx, _, rfl, h1, lk_isb, .ref l, rfl, ⟨l, y, rfl, hln, .int i, rfl, ?_⟩⟩
      refine ⟨p, cs, ds, z, i, y.sum, rfl, hp, hi, hy, hz, hT, fun H' b1 c1 => ?_⟩
      rw [← eR]
      exact q H' b1 c1
    · rw [decide_eq_false hn] at eR ⊢
      rw [Bool.false_and] at eR
      rw [eR] at q
      exact iteF (q H (.of (sameR _)) (hp.more (Nat.le_succ _)))

end
end K34
end

section
set_option Elab.async false
set_option linter.all false
set_option maxRecDepth 100000
set_option maxHeartbeats 4000000
namespace K34
open PySem PySem.Spec PyProof.Rows L2 GxR Gx Ma Mc
section
variable {P : Program} {w : World} {K : PySem.W.Frag} {mg : Str → Option Value} {base : Heap}

def KnD (H : Hp) (cs : List Mnu) (ds : List Addr) (z : Nat) : Prop := ∀ i d, ds[i]? = some d → ∃ kvs, H d = some (.dK kvs) ∧ kvs.length ≤ z ∧ Knw cs i kvs
theorem CSt.re {C : Addr} {H H' : Hp} {p : Addr} {cs : List Mnu} {ds : List Addr} {z z' : Nat} (h : CSt C H p cs ds z) (s : SameL H H') (k : KnD H' cs ds z') : CSt C H' p cs ds z' := by
  obtain ⟨dx, l, pl, kl, pds, h1, h2, h3, h4, h5⟩ := h.ex
  exact ⟨⟨dx, l, pl, kl, pds, s _ _ h1 trivial, chL_mo _ _ _ _ s h2, LO.mo lI_mo s h3, h4, s _ _ h5 trivial⟩, h.len, h.nd, k⟩
theorem KnD.same {H H' : Hp} {cs : List Mnu} {ds : List Addr} {z : Nat} (h : KnD H cs ds z) (s : Same H H') : KnD H' cs ds z := fun i d e => let ⟨kvs, a, b⟩ := h i d e; ⟨kvs, s _ _ a, b⟩
theorem KnD.more {H : Hp} {cs : List Mnu} {ds : List Addr} {z z' : Nat} (h : KnD H cs ds z) (l : z ≤ z') : KnD H cs ds z' := fun i d e => let ⟨kvs, a, b, c⟩ := h i d e; ⟨kvs, a, by omega, c⟩
theorem KnD.upd {H : Hp} {cs : List Mnu} {ds : List Addr} {z : Nat} {D : Addr} {o : HO} (h : KnD H cs ds z) (n : D ∉ ds) : KnD (L2.upd H D o) cs ds z := fun i d e => let ⟨kvs, a, b⟩ := h i d e; ⟨kvs, by rw [upd_ne (show ¬ d = D from fun z => n (z ▸ List.mem_of_getElem? e))]; exact a, b⟩
theorem hid_sl {D : Addr} {H H' : Hp} (s : SameL H H') : SameL (hid D H) (hid D H') := fun x o e n => by
  obtain ⟨a, b⟩ := hid_some e
  rw [hid_ne a]
  exact s _ _ b n
/-- a list that grows at D, while the known dicts change -/
structure PvB {α : Type} (f : Hp → Addr → α → Prop) (cs : List Mnu) (ds : List Addr) (H1 : Hp) (D : Addr) (z : Nat) (done : List α) (H : Hp) : Prop where
  b : BK ds H1 H
  k : KnD H cs ds z
  d : ∃ as : List Addr, H D = some (.lst (as.map V.ref)) ∧ Paired (f (hid D H)) as done
theorem PvB.keep {α : Type} {f : Hp → Addr → α → Prop} (m : MoA f) {cs : List Mnu} {ds : List Addr} {H1 : Hp} {D : Addr} {z z' : Nat} {done : List α} {H H' : Hp} (p : PvB f cs ds H1 D z done H) (n : D ∉ ds) (b : BK ds H H') (k : KnD H' cs ds z') : PvB f cs ds H1 D z' done H' := by
  obtain ⟨as, e, q⟩ := p.d
  have s : SameL H H' := fun x o e n => by
    refine b x o (fun hx => ?_) e
    obtain ⟨i, hi, rfl⟩ := List.mem_iff_getElem.mp hx
    obtain ⟨kvs, e2, _⟩ := p.k i _ (List.getElem?_eq_getElem hi)
    rw [e] at e2
    cases e2
    exact n
  exact ⟨p.b.tr b, k, as, b _ _ n e, q.mono fun _ _ h => m _ _ _ _ (hid_sl s) h⟩
theorem PvB.ext {α : Type} {f : Hp → Addr → α → Prop} (m : MoA f) {cs : List Mnu} {ds : List Addr} {H1 : Hp} {D : Addr} {z : Nat} {done : List α} {H : Hp} (p : PvB f cs ds H1 D z done H) (hD : H1 D = none) (n : D ∉ ds) (hz : done.length < 16777216) {q : Addr} {b : α} (hq : f (hid D H) q b) :
    ∃ acc, H D = some (.lst acc) ∧ acc.length < sizeLine ∧ PvB f cs ds H1 D z (done ++ [b]) (upd H D (.lst (acc ++ [V.ref q]))) := by
  obtain ⟨as, e, r⟩ := p.d
  refine ⟨_, e, by rw [List.length_map, r.length]; exact hz, fun x o hx hh => ?_, p.k.upd n, as ++ [q], by rw [upd_same, List.map_append]; rfl, ?_⟩
  · rw [upd_ne (ne_of_none hh hD)]
    exact p.b _ _ hx hh
  · exact Paired.snoc (r.mono fun _ _ h => m _ _ _ _ (.of hid_upd) h) (m _ _ _ _ (.of hid_upd) hq)
theorem PvB.fin {α : Type} {f : Hp → Addr → α → Prop} (m : MoA f) {cs : List Mnu} {ds : List Addr} {H1 : Hp} {D : Addr} {z : Nat} {done : List α} {H : Hp} (p : PvB f cs ds H1 D z done H) : LO f H D done := by
  obtain ⟨as, e, q⟩ := p.d
  exact ⟨as, e, q.mono fun _ _ h => m _ _ _ _ (.of hid_of) h⟩
def rowU (c : Mnu) (r : List Mnu) (x : List Int) (i : Nat) (n : Nat) : Prs := (List.range n).filterMap fun l => if (fit x (shAt c i).1 (shAt c i).2 l && reach r (befo x (shAt c i).1 (shAt c i).2 l)) = true then some ((l, i), befo x (shAt c i).1 (shAt c i).2 l) else none
theorem rowU_succ (c : Mnu) (r : List Mnu) (x : List Int) (i n : Nat) : rowU c r x i (n + 1) = rowU c r x i n ++ if (fit x (shAt c i).1 (shAt c i).2 n && reach r (befo x (shAt c i).1 (shAt c i).2 n)) = true then [((n, i), befo x (shAt c i).1 (shAt c i).2 n)] else [] := by
  unfold rowU
  rw [List.range_succ, List.filterMap_append]
  congr 1
  rw [List.filterMap_cons]
  split <;> rename_i h <;> split at h <;> rename_i h2
  · cases h
  · rw [if_neg h2]; rfl
  · rw [if_pos h2]; cases h; rfl
  · cases h
theorem rowU_len (c : Mnu) (r : List Mnu) (x : List Int) (i n : Nat) : (rowU c r x i n).length ≤ n := by
  unfold rowU
  refine Nat.le_trans (List.length_filterMap_le _ _) ?_
  rw [List.length_range]
  exact Nat.le_refl _
def rowsU (c : Mnu) (r : List Mnu) (x : List Int) (i : Nat) : Prs := (List.range i).flatMap fun k => rowU c r x k x.length
theorem rowsU_succ (c : Mnu) (r : List Mnu) (x : List Int) (i : Nat) : rowsU c r x (i + 1) = rowsU c r x i ++ rowU c r x i x.length := by
  unfold rowsU
  rw [List.range_succ, List.flatMap_append, List.flatMap_cons, List.flatMap_nil, List.append_nil]
theorem rowsU_len (c : Mnu) (r : List Mnu) (x : List Int) : ∀ i, (rowsU c r x i).length ≤ i * x.length
  | 0 => Nat.zero_le _
  | i + 1 => by
    rw [rowsU_succ, List.length_append, Nat.succ_mul]
    have := rowsU_len c r x i
    have := rowU_len c r x i x.length
    omega
def sp_csun (C T : Addr) : Sp := fun vs H Q _ => ∃ (p l : Addr) (cs : List Mnu) (ds : List Addr) (z m : Nat) (x : List Int), vs = [V.ref p, .ref l, .int ((m + 1 : Nat) : Int)] ∧ CSt C H p cs ds z ∧ TupN H l (x.map V.int) ∧ Con x ∧ x.sum < 2 ^ 6500 ∧ m < cs.length ∧ (∀ c ∈ cs, ∀ q ∈ c, Kep q.1 q.2) ∧ z + (cs.getD m []).length * x.length ≤ 16777215 ∧ H T = some (TabO T) ∧
  ∀ q H', BK ds H H' → H q = none → CSt C H' p cs ds (z + (cs.getD m []).length * x.length) → PL H' q (undL (cs.getD m []) (backM cs m) x) → Q (.ref q) H'

theorem ok_ContentSearch_undone {f : Addr} {fd : FuncData}  (F : Fun K "undone" "ContentSearch.undone" s_ContentSearch_undone f fd) (B : Bl mg) {C : Addr} (KL_ContentSearch : Kls K mg "ContentSearch" C) (NC : CNA K C) {T : Addr} (C_can_be_last : Cal P w K mg base 1 "can_be_last" ["content", "kept", "liquid"] (sp_can_beT K)) (C_content_before : Cal P w K mg base 3 "content_before" ["content", "kept", "liquid"] (sp_beforeT K)) (M_ContentSearch_is_reachable : Mt P w K mg base 5 C "is_reachable" ["self", "content", "number"] (sp_is_reachable C T)) : FnOk P w K mg base CX0 6 f fd ["self", "content", "number"] (sp_csun C T) := by
  refine F.ok sc_ContentSearch_undone (fun vs H Q E h => ?_) (fun cdv A outer s H vs Q E hr h => ?_)
  · obtain ⟨p, l, cs, ds, z, m, x, rfl, _⟩ := h; rfl
  · obtain ⟨p, l, cs, ds, z, m, x, rfl, hp, hl, hx, hxs, hm, hk, hz, hT, q⟩ := h
    have nd := sc_ContentSearch_undone.nd
    refine ⟨_, (pss_cons (ps_set (i := 3) nd rfl (Or.inl rfl) (pe_lst pa_nil))
      (pss_cons (ps_for PassesOwn.never rfl (pi_enum (by rfl) B.enumerate (pa_cons (pe_ix ix_list (pe_fld (pv 0) rfl) (pe_op op_sub (pv 2) pe_int) (fun _ _ => rfl)) pa_nil)) (pg_tup (by rfl) (pgs_cons (pg_name (i := 4) nd rfl (Or.inl rfl)) (pgs_cons (pg_name (i := 5) nd rfl (Or.inl rfl)) pgs_nil))) (pss_one (ps_for PassesOwn.never rfl (pi_range1 rfl B.range (pa_cons (pe_callB call_len_seq (by rfl) B.len PySem.boot_len (pa_cons (pv 1) pa_nil)) pa_nil)) (pg_name (i := 6) nd rfl (Or.inl rfl)) (pss_one (ps_if (pt_val (pe_cal C_can_be_last (hr.mono (by decide)) (pa_cons (pv 1) (pa_cons (pv 5) (pa_cons (pv 6) pa_nil)))))
      (pss_cons (ps_set (i := 7) nd rfl (Or.inl rfl) (pe_tupleN (by rfl) B.tuple (pe_cal C_content_before (hr.mono (by decide)) (pa_cons (pv 1) (pa_cons (pv 5) (pa_cons (pv 6) pa_nil))))))
      (pss_one (ps_if (pt_val (pe_mt KL_ContentSearch.cl M_ContentSearch_is_reachable (hr.mono (by decide)) (pv 0) (pa_cons (pv 7) (pa_cons (pe_op op_sub (pv 2) pe_int) pa_nil))))
      (pss_one (ps_expr (pe_bm PySem.F.plainAttrs_list PySem.F.slot_list_append PySem.F.type_list_append mt_append (pv 3) (pa_cons (pe_tup (pa_cons (pe_tup (pa_cons (pv 6) (pa_cons (pv 4) pa_nil))) (pa_cons (pv 7) pa_nil))) pa_nil)))) pss_nil))) pss_nil)))))
      (pss_one (ps_ret (pv 3))))), ?_⟩
    obtain ⟨dx, cl, pl, kl, pds, h1, h2, h3, h4, h5⟩ := hp.ex
    have e6500 : (2 : Int) ^ 6500 < 2 ^ 7000 := by decide +kernel
    obtain ⟨ms, hcl, hms⟩ := h2
    have hgd : cs.getD m [] = cs[m] := by rw [List.getD_eq_getElem?_getD, List.getElem?_eq_getElem hm]; rfl
    obtain ⟨ml, hml, ts, hmt, hts⟩ := paired_app hms (List.getElem?_eq_getElem hm)
    have kc : ∀ q ∈ cs[m], Kep q.1 q.2 := hk cs[m] (List.getElem_mem hm)
    have bc : ∀ i l, i < cs[m].length → l < x.length → fit x (shAt cs[m] i).1 (shAt cs[m] i).2 l = true → Con (befo x (shAt cs[m] i).1 (shAt cs[m] i).2 l) := fun i l hi hl f => by
      have := before_con hk hm (by rw [hgd]; exact hi) hx hl (by rw [hgd]; exact f)
      rw [hgd] at this
      exact this
    rw [hgd] at q hz
    have em : (((m + 1 : Nat) : Int) - 1) = (m : Int) := by omega
    have lt : ts.length = cs[m].length := hts.length
    refine ⟨by show 0 ≤ 16777216; decide, fun D nD => ?_⟩
    have hDds : D ∉ ds := fun h => by
      obtain ⟨kvs, e⟩ := hp.dk h
      rw [nD] at e
      cases e
    have pv0 : PvB PrO cs ds H D z [] (upd H D (.lst [])) := ⟨.of (sameN nD), KnD.upd hp.kn hDds, [], upd_same, .nil⟩
    have sD : Same H (upd H D (.lst [])) := sameN nD
    generalize upd H D (.lst []) = H1 at pv0 sD
    refine ⟨.ref p, rfl, p, C, dx, _, .ref cl, rfl, sD _ _ h1, KL_ContentSearch.cl, NC.ch, lk_ch, .int ((m + 1 : Nat) : Int), rfl, _, _, rfl, rfl, cl, _, m, .ref ml, rfl, congrArg V.int em, SqL.of (sD _ _ hcl), at_nth hml, ml, _, rfl, SqL.of (sD _ _ hmt), ?_⟩
    generalize cs[m] = c at *
    refine ⟨fun i k σ G => k = c.length - i ∧ i ≤ c.length ∧ (∃ a4 a5 a6 a7, σ = [some (.ref p), some (.ref l), some (.int ((m + 1 : Nat) : Int)), some (.ref D), a4, a5, a6, a7]) ∧ PvB PrO cs ds H D (z + i * x.length) (rowsU c (backM cs m) x i) G, ⟨_, rfl, Nat.zero_le _, ⟨_, _, _, _, rfl⟩, by rw [Nat.zero_mul]; exact pv0⟩, fun i k σ G hw => ?_⟩
    obtain ⟨hk0, hi, ⟨a4, a5, a6, a7, rfl⟩, pv⟩ := hw
    have slG := hp.sl pv.b
    by_cases hlt : i < c.length
    · refine .inr ⟨⟨_, _, SqL.of (slG _ _ hmt trivial), List.getElem?_eq_getElem (by rw [List.length_map]; omega)⟩, fun σ G => (∃ a4 a5 a6 a7, σ = [some (.ref p), some (.ref l), some (.int ((m + 1 : Nat) : Int)), some (.ref D), a4, a5, a6, a7]) ∧ PvB PrO cs ds H D (z + (i + 1) * x.length) (rowsU c (backM cs m) x (i + 1)) G, fun σ G' ⟨e1, e2⟩ => ⟨_, by omega, rfl, hlt, e1, e2⟩, fun y G' hy => ?_⟩
      obtain ⟨T1, v1, rfl, nT1, rfl, hv⟩ := hy
      obtain ⟨t, hi', rfl, ht⟩ := LO.at_ hts (hv _ (SqL.of (slG _ _ hmt trivial)))
      have sT := sameN (o := HO.tup [V.int (i : Nat), .ref t]) nT1
      have pvT := pv.keep prO_mo hDds (.of sT) (pv.k.same sT)
      refine ⟨T1, _, rfl, SqT.of upd_same, rfl, _, _, rfl, _, _, rfl, rfl, ?_⟩
      generalize upd G T1 (.tup [V.int (i : Nat), .ref t]) = G1 at pvT
      have slG1 := hp.sl pvT.b
      have hl1 := tupN_mo slG1 hl
      refine ⟨.ref l, rfl, l, _, rfl, .inr (hl1.sq (K := K)), ?_⟩
      have h8 := hx.le8
      have hlx : (x.map V.int).length = x.length := List.length_map ..
      refine ⟨((x.map V.int).length : Nat), rfl, by rw [hlx]; omega, by rw [hlx]; omega, ?_⟩
      rw [hlx]
      show ∃ W : Nat → Nat → L2.St → Hp → Prop, _
      have htH : H t = some (.tup [.int c[i].1, .int c[i].2]) := ht
      have eS : shAt c i = c[i] := by
        unfold shAt
        rw [List.getD_eq_getElem?_getD, List.getElem?_eq_getElem hi']
        rfl
      have kp := kc c[i] (List.getElem_mem hi')
      refine for_range (lo := 0) (n := ((x.length : Nat) : Int).toNat) (fun j σ G => ∃ a6 a7, σ = [some (.ref p), some (.ref l), some (.int ((m + 1 : Nat) : Int)), some (.ref D), some (.int (i : Nat)), some (.ref t), a6, a7] ∧ PvB PrO cs ds H D (z + i * x.length + j) (rowsU c (backM cs m) x i ++ rowU c (backM cs m) x i j) G) ⟨_, _, rfl, ?_⟩ (fun j σ G hj hw => ?_) (fun σ G hw => ?_)
      · have e0 : rowU c (backM cs m) x i 0 = [] := rfl
        rw [e0, List.append_nil]
        exact pvT
      · obtain ⟨a6, a7, rfl, pj⟩ := hw
        rw [Int.toNat_natCast] at hj
        have sl2 := hp.sl pj.b
        have hl2 := tupN_mo sl2 hl
        have ht2 := sl2 _ _ htH trivial
        rw [Int.zero_add]
        refine ⟨.ref l, rfl, .ref t, rfl, .int (j : Nat), rfl, l, t, x, c[i].1, c[i].2, j, rfl, hl2.sq, hx, ht2, kp, hj, Int.lt_trans hxs e6500, _, rfl, ?_⟩
        have ru := rowU_succ c (backM cs m) x i j
        rw [eS] at ru
        by_cases hf : fit x c[i].1 c[i].2 j = true
        · rw [hf]
          rw [hf, Bool.true_and] at ru
          refine iteT ⟨.ref l, rfl, .ref t, rfl, .int (j : Nat), rfl, l, t, x, c[i].1, c[i].2, j, rfl, hl2.sq, hx, ht2, kp, hj, hf, Int.lt_trans hxs e6500, fun p1 H2 s2 n1 hp1 => ?_⟩
          refine ⟨p1, _, rfl, SqL.of hp1, fun b H3 nb hsame hb => ?_⟩
          have s3 : Same H2 H3 := fun x o e => by rw [hsame x (ne_of_none e nb)]; exact e
          have s23 := s2.trans s3
          have cb := bc i j hi' hj (by rw [eS]; exact hf)
          rw [eS] at cb
          generalize befo x c[i].1 c[i].2 j = y at hb cb ru
          have pj3 := pj.keep prO_mo hDds (.of s23) (pj.k.same s23)
          have c3 := hp.re (hp.sl pj3.b) pj3.k
          obtain ⟨as, hDl, _⟩ := pj3.d
          have hT3 := pj3.b T _ (fun hT2 => by obtain ⟨kvs, e⟩ := hp.dk hT2; rw [hT] at e; cases e) hT
          have hmul : (i + 1) * x.length ≤ c.length * x.length := Nat.mul_le_mul_right _ hi'
          rw [Nat.succ_mul] at hmul
          refine ⟨.ref p, rfl, p, dx, _, rfl, hp.sl pj3.b _ _ h1 trivial, lk_isr, .ref b, rfl, .int ((m + 1 : Nat) : Int), rfl, _, _, rfl, rfl, p, b, cs, ds, z + i * x.length + j, m, y, congrArg (fun v => [V.ref p, V.ref b, V.int v]) em, c3, hb, by omega, cb.amt.pos, by omega, hT3, fun H4 b4 c4 => ⟨_, rfl, ?_⟩⟩
          have pj4 := pj3.keep prO_mo hDds b4 c4.kn
          have hb4 := tupN_mo (c3.sl b4) hb
          by_cases hr : reach (backM cs m) y = true
          · rw [hr]
            rw [if_pos hr] at ru
            obtain ⟨as4, hD4, _⟩ := pj4.d
            refine iteT ⟨.ref D, rfl, .inl ⟨rfl, _, SqL.of hD4⟩, .int (j : Nat), rfl, .int (i : Nat), rfl, by show 2 ≤ 16777216; decide, fun q1 n1 => ⟨.ref b, rfl, by show 2 ≤ 16777216; decide, fun q2 n2 => ?_⟩⟩
            have s5 := sameN (o := HO.tup [V.int (j : Nat), V.int (i : Nat)]) n1
            have at5 : upd H4 q1 (HO.tup [V.int (j : Nat), V.int (i : Nat)]) q1 = some (.tup [V.int (j : Nat), V.int (i : Nat)]) := upd_same
            generalize upd H4 q1 (HO.tup [V.int (j : Nat), V.int (i : Nat)]) = H5 at n2 s5 at5
            have s6 := sameN (o := HO.tup [V.ref q1, V.ref b]) n2
            have at6 : upd H5 q2 (HO.tup [V.ref q1, V.ref b]) q2 = some (.tup [V.ref q1, V.ref b]) := upd_same
            generalize upd H5 q2 (HO.tup [V.ref q1, V.ref b]) = H6 at s6 at6
            have s46 := s5.trans s6
            have pj6 := pj4.keep prO_mo hDds (.of s46) (pj4.k.same s46)
            have nq1 : q1 ≠ D := fun e => by rw [e, hD4] at n1; cases n1
            have nq2 : q2 ≠ D := fun e => by rw [e, s5 _ _ hD4] at n2; cases n2
            have hb6 := hb4.keep (fun o e => s46 _ _ e)
            obtain ⟨ob, o1, o2, o3⟩ := hb6
            have nbD : b ≠ D := fun e => by
              have := s46 _ _ hD4
              rw [← e, o3] at this
              cases this
            have lr := rowsU_len c (backM cs m) x i
            have lr2 := rowU_len c (backM cs m) x i j
            obtain ⟨acc, e1, e2, e3⟩ := pj6.ext prO_mo nD hDds (by rw [List.length_append]; omega) (q := q2) (b := ((j, i), y)) ⟨q1, b, by rw [hid_ne nq2]; exact at6, by show hid D H6 q1 = _; rw [hid_ne nq1]; exact s6 _ _ at5, ob, o1, o2, by rw [hid_ne nbD]; exact o3⟩
            refine ⟨D, acc, .ref q2, rfl, rfl, e1, e2, _, _, rfl, ?_⟩
            rw [ru, ← List.append_assoc]
            exact e3
          · rw [Bool.not_eq_true] at hr
            rw [hr]
            rw [if_neg (by rw [hr]; exact Bool.false_ne_true), List.append_nil] at ru
            refine iteF ⟨_, _, rfl, ?_⟩
            rw [ru]
            exact pj4
        · rw [Bool.not_eq_true] at hf
          rw [hf]
          rw [hf, Bool.false_and, if_neg Bool.false_ne_true, List.append_nil] at ru
          refine iteF ⟨_, _, rfl, ?_⟩
          rw [ru]
          exact pj.keep prO_mo hDds (.of (sameR _)) (pj.k.more (Nat.le_succ _))
      · obtain ⟨a6, a7, rfl, pj⟩ := hw
        rw [Int.toNat_natCast] at pj
        refine ⟨⟨_, _, _, _, rfl⟩, ?_⟩
        rw [rowsU_succ, Nat.succ_mul, ← Nat.add_assoc]
        exact pj
    · have ei : i = c.length := by omega
      subst ei
      refine .inl ⟨⟨_, SqL.of (slG _ _ hmt trivial), by rw [List.length_map]; omega⟩, .ref D, rfl, ?_⟩
      exact q D G pv.b nD (hp.re slG pv.k) (pv.fin prO_mo)

end
end K34
end

section
set_option Elab.async false
set_option linter.all false
set_option maxRecDepth 100000
set_option maxHeartbeats 4000000
namespace K34
open PySem PySem.Spec PyProof.Rows L2 GxR Gx Ma Mc
section
variable {P : Program} {w : World} {K : PySem.W.Frag} {mg : Str → Option Value} {base : Heap}

theorem KnD.in {H : Hp} {cs : List Mnu} {ds : List Addr} {z : Nat} (h : KnD H cs ds z) {x : Addr} (hx : x ∈ ds) : ∃ kvs, H x = some (.dK kvs) := by
  obtain ⟨i, hi, rfl⟩ := List.mem_iff_getElem.mp hx
  obtain ⟨kvs, e, _⟩ := h i _ (List.getElem?_eq_getElem hi)
  exact ⟨kvs, e⟩
theorem KnD.sl {H H' : Hp} {cs : List Mnu} {ds : List Addr} {z : Nat} (h : KnD H cs ds z) (b : BK ds H H') : SameL H H' := fun x o e n => by
  refine b x o (fun hx => ?_) e
  obtain ⟨kvs, e2⟩ := h.in hx
  rw [e] at e2
  cases e2
  exact n
theorem KnD.nin {H : Hp} {cs : List Mnu} {ds : List Addr} {z : Nat} (h : KnD H cs ds z) {x : Addr} (hx : H x = none) : x ∉ ds := fun m => by
  obtain ⟨kvs, e⟩ := h.in m
  rw [hx] at e
  cases e
theorem BK.free {H H' : Hp} {cs : List Mnu} {ds : List Addr} {z : Nat} (b : BK ds H H') (k : KnD H' cs ds z) {x : Addr} (hx : H' x = none) : H x = none := by
  cases e : H x with
  | none => rfl
  | some o =>
    have := b x o (k.nin hx) e
    rw [hx] at this
    cases this
theorem DL.bk {α : Type} {R : Hp → V → α → Prop} (m : Mo R) {H H' : Hp} {d : Addr} {es : List (List Int × α)} {ds : List Addr} (h : DL P w R H d es) (n : d ∉ ds) (b : BK ds H H') (s : SameL H H') : DL P w R H' d es := let ⟨ks, e, r⟩ := h; ⟨ks, b _ _ n e, r.mo m s⟩
/-- a dict made of a list's tuples, while the known dicts change -/
theorem dc_listB {α : Type} {R : Hp → V → α → Prop} (m : Mo R) {cs : List Mnu} {ds : List Addr} {es : List (List Int × α)} (nd : (es.map (·.1)).Nodup) (hz : es.length ≤ 16777216) {H1 : Hp} {a : Addr} (ha : LO CtO H1 a (es.map (·.1))) {zf : Nat → Nat} (k0 : KnD H1 cs ds (zf 0)) {g : TG} {tk tv : TE} {vs : List Nat} {σ : L2.St} {Q : VK}
    (step : ∀ (i : Nat) (hi : i < es.length) (T : Addr) (H2 : Hp) (Po : V → V → Hp → Prop), BK ds H1 H2 → KnD H2 cs ds (zf i) → TupN H2 T (es[i].1.map V.int) → (∀ z H5, BK ds H2 H5 → KnD H5 cs ds (zf (i + 1)) → R H5 z es[i].2 → Po (.ref T) z H5) → g (.ref T) (wipe σ vs) H2 fun σ1 H3 => wipe σ1 vs = wipe σ vs ∧ tk σ1 H3 fun yk H4 => tv σ1 H4 fun z H5 => Po yk z H5)
    (fin : ∀ D H', BK ds H1 H' → H1 D = none → KnD H' cs ds (zf es.length) → DL P w R H' D es → Q (.ref D) H') : rDcX P w g tk tv vs σ Q (Itl K a) H1 := by
  obtain ⟨as, ha1, ha2⟩ := ha
  have hl : as.length = es.length := by rw [ha2.length, List.length_map]
  refine ⟨es.length, fun D hD => ?_⟩
  have nD := k0.nin hD
  refine ⟨fun i H => BK ds H1 H ∧ KnD H cs ds (zf i) ∧ DL P w R H D (es.take i), ⟨.of (sameN hD), k0.upd nD, [], upd_same, .nil⟩, fun H ⟨b, k, d⟩ => ⟨⟨_, SqL.of (k0.sl b _ _ ha1 trivial), by rw [List.length_map, hl]; exact Nat.le_refl _⟩, ?_⟩, fun i H hi ⟨b, k, d⟩ => ⟨⟨_, _, SqL.of (k0.sl b _ _ ha1 trivial), List.getElem?_eq_getElem (by rw [List.length_map, hl]; exact hi)⟩, fun y H2 hy => ?_⟩⟩
  · rw [List.take_length] at d
    exact fin D H b hD k d
  · obtain ⟨rfl, hy⟩ := hy
    obtain ⟨T, hi', rfl, hT⟩ := LO.at_ ha2 (hy _ (SqL.of (k0.sl b _ _ ha1 trivial)))
    have e9 : (es.map fun e : List Int × α => e.1)[i]'hi' = es[i].1 := List.getElem_map ..
    have hT : TupN H1 T (((es.map fun e : List Int × α => e.1)[i]'hi').map V.int) := hT
    rw [e9] at hT
    refine step i hi T _ _ b k (tupN_mo (k0.sl b) hT) fun z H5 b5 k5 hz5 => ?_
    obtain ⟨ks, hd, hk⟩ := d.bk m nD b5 (k.sl b5)
    have hlen : ks.length = i := by rw [hk.len, List.length_take]; omega
    have sl : SameL H5 (upd H5 D (DX P w D (putX ks (kyL es[i].1) T z))) := .up hd dx_nox
    have nw : es[i].1 ∉ (es.take i).map (·.1) := fun hm => by
      rw [List.map_take] at hm
      obtain ⟨j, hj, e⟩ := List.mem_iff_getElem.mp hm
      rw [List.length_take, List.length_map] at hj
      rw [List.getElem_take, List.getElem_map] at e
      have := (List.getElem_inj (h₀ := by rw [List.length_map]; omega) (h₁ := by rw [List.length_map]; omega) nd (i := j) (j := i)).mp (by rw [List.getElem_map, List.getElem_map]; exact e)
      omega
    have hb5 := tupN_mo (k0.sl (b.tr b5)) hT
    refine ⟨ks, kyL es[i].1, T, rfl, by rw [kyL_kV]; exact tupN_rd hb5, hd, hk.at_, by show ks.length < 16777216; omega, fun x o hx e => ?_, k5.upd nD, _, upd_same, ?_⟩
    · rw [upd_ne (ne_of_none e hD)]
      exact b5 _ _ hx (b _ _ hx e)
    · rw [hk.new nw, List.take_add_one, List.getElem?_eq_getElem hi]
      exact (hk.snoc hb5 hz5).mo m (by rw [← hk.new nw]; exact sl)
theorem tupN_hid {L : Addr} {H : Hp} {zs xs : List V} {q : Addr} (hL : H L = some (.lst zs)) (h : TupN H q xs) : TupN (hid L H) q xs := by
  obtain ⟨o, a, b, c⟩ := h
  refine ⟨o, a, b, ?_⟩
  rw [hid_ne (fun e => by rw [e, hL] at c; cases c)]
  exact c
theorem prO_hid {L : Addr} {H : Hp} {zs : List V} {q : Addr} {p : (Nat × Nat) × List Int} (hL : H L = some (.lst zs)) (h : PrO H q p) : PrO (hid L H) q p := by
  obtain ⟨s, b, e1, e2, e3⟩ := h
  have e2' : H s = some (.tup [.int (p.1.1 : Nat), .int (p.1.2 : Nat)]) := e2
  refine ⟨s, b, by rw [hid_ne (fun e => by rw [e, hL] at e1; cases e1)]; exact e1, ?_, tupN_hid hL e3⟩
  show hid L H s = _
  rw [hid_ne (fun e => by rw [e, hL] at e2'; cases e2')]
  exact e2'
theorem pl_hid {L : Addr} {H : Hp} {zs : List V} {q : Addr} {ps : Prs} (hL : H L = some (.lst zs)) (hq : q ≠ L) (h : PL H q ps) : PL (hid L H) q ps := by
  obtain ⟨as, e, r⟩ := h
  exact ⟨as, by rw [hid_ne hq]; exact e, r.mono fun _ _ z => prO_hid hL z⟩
theorem ct_hid {L : Addr} {H : Hp} {zs : List V} {q : Addr} {xs : List (List Int)} (hL : H L = some (.lst zs)) (hq : q ≠ L) (h : LO CtO H q xs) : LO CtO (hid L H) q xs := by
  obtain ⟨as, e, r⟩ := h
  exact ⟨as, by rw [hid_ne hq]; exact e, r.mono fun _ _ z => tupN_hid hL z⟩
def hR {α : Type} (L : Addr) (R : Hp → V → α → Prop) : Hp → V → α → Prop := fun H v a => R (hid L H) v a
theorem hR_mo {α : Type} {L : Addr} {R : Hp → V → α → Prop} (m : Mo R) : Mo (hR L R) := fun _ _ _ _ s h => m _ _ _ _ (hid_sl s) h
theorem dl_hid {α : Type} {L : Addr} {H : Hp} {zs : List V} {R : Hp → V → α → Prop} {d : Addr} {es : List (List Int × α)} (hL : H L = some (.lst zs)) (hq : d ≠ L) (h : DL P w (hR L R) H d es) : DL P w R (hid L H) d es := by
  obtain ⟨ks, e, r⟩ := h
  exact ⟨ks, by rw [hid_ne hq]; exact e, r.mono fun _ _ ⟨a, b, c⟩ => ⟨a, tupN_hid hL b, c⟩⟩
theorem lay_flat {cs : List Mnu} {x : List Int} {d : Nat} (hl' : ∀ e ∈ ends cs x d, e.length = x.length) : ((lay cs x d).flatMap fun e => e.2.map (·.2)).length ≤ (ends cs x d).length * (x.length * (cs.getD (cs.length - 1 - d) []).length) := by
  unfold lay
  generalize ends cs x d = es at hl'
  induction es with
  | nil => simp
  | cons e es ih =>
    rw [List.map_cons, List.flatMap_cons, List.length_append, List.length_map, List.length_cons, Nat.succ_mul]
    have h1 := undL_len (cs.getD (cs.length - 1 - d) []) (backM cs (cs.length - 1 - d)) e
    rw [hl' e List.mem_cons_self] at h1
    have := ih fun e he => hl' e (List.mem_cons_of_mem _ he)
    dsimp only
    omega
def sp_layers_back (P : Program) (w : World) (K : PySem.W.Frag) (mg : Str → Option Value) (C T T34 : Addr) : Sp := fun vs H Q _ => ∃ (l um fp p : Addr) (cs : List Mnu) (ds : List Addr) (x : List Int), vs = [V.ref l, .int (cs.length : Nat), .ref um, .ref fp] ∧ CSt C H p cs ds 0 ∧ MetO K C "undone" H um p ∧ mg "pure_liquids" = some (.ref fp) ∧ TupN H l (x.map V.int) ∧ Con x ∧ x.sum < 2 ^ 6000 ∧ cs.length ≤ 60 ∧ (∀ c ∈ cs, ∀ q ∈ c, Kep q.1 q.2) ∧ tot cs x cs.length ≤ 16000000 ∧ H T = some (TabO T) ∧ H T34 = some (TabO T34) ∧
  ∀ q H' lds, BK ds H H' → H q = none → KnD H' cs ds (tot cs x cs.length) → LyA P w cs x T34 H' q lds → Q (.ref q) H'
/-- the layers so far -/
structure PvY (P : Program) (w : World) (cs : List Mnu) (ds : List Addr) (x : List Int) (H0 : Hp) (L : Addr) (d : Nat) (e : Addr) (lds : List Addr) (H : Hp) : Prop where
  b : BK ds H0 H
  k : KnD H cs ds (tot cs x d)
  at_ : H L = some (.lst (lds.map V.ref))
  len : lds.length = d
  ly : ∀ j dd, lds[j]? = some dd → DL P w (AtN PL) (hid L H) dd (lay cs x j) ∧ H0 dd = none
  en : LO CtO (hid L H) e (ends cs x d)
theorem PvY.keep {cs : List Mnu} {ds : List Addr} {x : List Int} {H0 : Hp} {L : Addr} {d : Nat} {e : Addr} {lds : List Addr} {H H' : Hp} (h : PvY P w cs ds x H0 L d e lds H) (b : BK ds H H') (k : KnD H' cs ds (tot cs x d)) (k0 : KnD H0 cs ds 0) (hL : H0 L = none) : PvY P w cs ds x H0 L d e lds H' := by
  have nL := k0.nin hL
  have s := h.k.sl b
  refine ⟨h.b.tr b, k, b _ _ nL h.at_, h.len, fun j dd e => ?_, LO.mo ctO_mo (hid_sl s) h.en⟩
  obtain ⟨a, c⟩ := h.ly j dd e
  refine ⟨a.bk (AtN.mo pl_mo) (k0.nin c) (fun y o hy e => ?_) (hid_sl s), c⟩
  obtain ⟨e1, e2⟩ := hid_some e
  rw [hid_ne e1]
  exact b _ _ hy e2

theorem ok_layers_back {f : Addr} {fd : FuncData}  (F : Fun K "layers_back" "layers_back" s_layers_back f fd) (B : Bl mg) {C T T34 : Addr} (C_all_before : Cal P w K mg base 1 "all_before" ["layer"] (sp_all_before P w)) (KL_ContentSearch : Kls K mg "ContentSearch" C) (M_ContentSearch_undone : Mt P w K mg base 6 C "undone" ["self", "content", "number"] (sp_csun C T)) (BD_ContentSearch_undone : Bd K C "undone") (C_pure_liquids : Cal P w K mg base 2 "pure_liquids" ["content"] (sp_pureL)) : FnOk P w K mg base CX0 7 f fd ["last", "number", "undone", "starts"] (sp_layers_back P w K mg C T T34) := by
  refine F.ok sc_layers_back (fun vs H Q E h => ?_) (fun cdv A outer s H vs Q E hr h => ?_)
  · obtain ⟨l, um, fp, p, cs, ds, x, rfl, _⟩ := h; rfl
  · obtain ⟨l, um, fp, p, cs, ds, x, rfl, hp, hum, hfp, hl, hx, hxs, h60, hk, htot, hT, hT2, q⟩ := h
    have nd := sc_layers_back.nd
    refine ⟨_, (pss_cons (ps_set (i := 4) nd rfl (Or.inl rfl) (pe_lst pa_nil))
      (pss_cons (ps_set (i := 5) nd rfl (Or.inl rfl) (pe_lst (pa_cons (pv 0) pa_nil)))
      (pss_cons (ps_for PassesOwn.never rfl (pi_range3 rfl B.range (pa_cons (pv 1) (pa_cons pe_int (pa_cons (pe_un un_neg pe_int) pa_nil)))) (pg_name (i := 6) nd rfl (Or.inr rfl)) (pss_cons (ps_setDcX (i := 7) (own := [("end", 8)]) (g := (gName 8)) rfl rfl (sw_trueD rfl rfl rfl (by decide +kernel)) (u1 hr) rfl nd (pi_list (pv 5)) (blkOk_by (own := [("end", 8)]) (N := ["last", "number", "undone", "starts", "layers", "ends", "behind", "layer", "end"]) (sc := defScope s_layers_back) (by decide +kernel)) (fun _ _ _ _ _ => (pg_name (i := 8) nd rfl (Or.inl rfl))) (fun _ _ _ _ _ => (pv 8)) (fun _ _ _ _ _ => (pe_callMK (K := K) rfl M_ContentSearch_undone BD_ContentSearch_undone (hr.mono (by decide)) (j := 2) rfl (by first | exact Or.inl rfl | exact Or.inr rfl | exact Or.inr (Or.inl rfl) | exact Or.inr (Or.inr rfl)) (pa_cons (pv 8) (pa_cons (pv 6) pa_nil)))))
      (pss_cons (ps_expr (pe_bm PySem.F.plainAttrs_list PySem.F.slot_list_append PySem.F.type_list_append mt_append (pv 4) (pa_cons (pv 7) pa_nil)))
      (pss_one (ps_set (i := 5) nd rfl (Or.inl rfl) (pe_cal C_all_before (hr.mono (by decide)) (pa_cons (pv 7) pa_nil)))))))
      (pss_cons (ps_expr (pe_bm PySem.F.plainAttrs_list PySem.F.slot_list_append PySem.F.type_list_append mt_append (pv 4) (pa_cons (pe_dcX (own := [("end", 8)]) (g := (gName 8)) (u1 hr) rfl nd (pi_list (pv 5)) (blkOk_by (own := [("end", 8)]) (N := ["last", "number", "undone", "starts", "layers", "ends", "behind", "layer", "end"]) (sc := defScope s_layers_back) (by decide +kernel)) (fun _ _ _ _ _ => (pg_name (i := 8) nd rfl (Or.inl rfl))) (fun _ _ _ _ _ => (pv 8)) (fun _ _ _ _ _ => (pe_callFK (mg := mg) rfl C_pure_liquids (hr.mono (by decide)) (j := 3) rfl (by first | exact Or.inl rfl | exact Or.inr rfl | exact Or.inr (Or.inl rfl) | exact Or.inr (Or.inr rfl)) (pa_cons (pv 8) pa_nil)))) pa_nil)))
      (pss_one (ps_ret (pe_revL (pv 4)))))))), ?_⟩
    have k0 : KnD H cs ds 0 := hp.kn
    refine ⟨by show 0 ≤ 16777216; decide, fun L nL => ?_⟩
    have nLd := k0.nin nL
    have s1 := sameN (o := HO.lst []) nL
    have a1 : upd H L (HO.lst []) L = some (.lst []) := upd_same
    generalize upd H L (HO.lst []) = H1 at s1 a1
    refine ⟨.ref l, rfl, by show 1 ≤ 16777216; decide, fun e0 ne0 => ?_⟩
    have s2 := sameN (o := HO.lst [V.ref l]) ne0
    have a2 : upd H1 e0 (HO.lst [V.ref l]) e0 = some (.lst [V.ref l]) := upd_same
    have eL : e0 ≠ L := fun e => by rw [e, a1] at ne0; cases ne0
    have a1' := s2 _ _ a1
    generalize upd H1 e0 (HO.lst [V.ref l]) = H2 at s2 a2 a1'
    have s12 := s1.trans s2
    have lL : l ≠ L := fun e => by
      obtain ⟨ob, _, _, h⟩ := hl
      rw [e, nL] at h
      cases h
    have pv0 : PvY P w cs ds x H L 0 e0 [] H2 := ⟨.of s12, k0.same s12, a1', rfl, (fun j dd e => by cases e), [l], by rw [hid_ne eL]; exact a2, .cons (by
      obtain ⟨ob, o1, o2, h⟩ := hl
      exact ⟨ob, o1, o2, by rw [hid_ne lL]; exact s12 _ _ h⟩) .nil⟩
    have fr : ∀ n : Nat, n ≤ 60 → -(2 ^ 62 : Int) ≤ (n : Int) ∧ (n : Int) < 2 ^ 62 := fun n h => by omega
    have f1 := fr cs.length h60
    have nfree : H e0 = none := s1.free ne0
    have allk : ∀ d, d ≤ cs.length → ∀ e ∈ ends cs x d, Con e ∧ e.length = x.length := ends_con hk hx
    have smal := ends_small hk h60 hx hxs
    have hlx := hx.le8
    have endl : ∀ d, d ≤ cs.length → (ends cs x d).length ≤ 16000001 := fun d hd => by
      cases d with
      | zero => show 1 ≤ _; omega
      | succ d =>
        have h1 : (ends cs x (d + 1)).length ≤ tot cs x (d + 1) := by
          rw [ends_succ]
          unfold nxt
          refine Nat.le_trans len_ddA ?_
          have h2 := lay_flat (cs := cs) (x := x) (d := d) fun e he => (allk d (by omega) e he).2
          show 0 + _ ≤ tot cs x d + _
          omega
        have := tot_mono cs x (show d + 1 ≤ cs.length by omega)
        omega
    refine ⟨.int (cs.length : Nat), rfl, 1, rfl, (cs.length : Nat), 0, -1, ((cs.length : Nat) - 0 : Int).toNat, rfl, RgC.neg f1.1 f1.2 (by omega) (by omega), ?_⟩
    rw [show (((cs.length : Nat) : Int) - 0).toNat = cs.length by omega]
    refine for_rangeC (fun d σ G => ∃ e lds a6 a7 a8, σ = [some (.ref l), some (.int (cs.length : Nat)), some (.ref um), some (.ref fp), some (.ref L), some (.ref e), a6, a7, a8] ∧ PvY P w cs ds x H L d e lds G) ⟨e0, [], _, _, _, rfl, pv0⟩ (fun d σ G hd hw => ?_) (fun σ G hw => ?_)
    · obtain ⟨e, lds, a6, a7, a8, rfl, pv⟩ := hw
      have em : ((cs.length : Nat) : Int) + (d : Nat) * -1 = (((cs.length - 1 - d) + 1 : Nat) : Int) := by omega
      rw [em]
      have ml : cs.length - 1 - d < cs.length := by omega
      have heG : LO CtO G e (ends cs x d) := LO.mo ctO_mo (.of hid_of) pv.en
      obtain ⟨eas, he1, he2⟩ := heG
      have bH5L : ∀ {H5}, BK ds G H5 → H5 L = some (.lst (lds.map V.ref)) := fun b => b _ _ nLd pv.at_
      refine ⟨.ref e, rfl, e, rfl, ⟨_, SqL.of he1⟩, ?_⟩
      refine dc_listB (R := hR L (AtN PL)) (hR_mo (AtN.mo pl_mo)) (cs := cs) (ds := ds) (es := lay cs x d) (by rw [lay_fst]; exact ends_nodup _ _ _) (by unfold lay; rw [List.length_map]; exact Nat.le_trans (endl d (by omega)) (by decide)) (by rw [lay_fst]; exact ⟨eas, he1, he2⟩) (zf := fun i => tot cs x d + i * (x.length * (cs.getD (cs.length - 1 - d) []).length)) (by show KnD G cs ds (tot cs x d + 0 * _); rw [Nat.zero_mul]; exact pv.k) (fun i hi T' H5 Po b5 k5 hT5 po => ?_) (fun D H5 b5 nD k5 hDL => ?_)
      · have he : i < (ends cs x d).length := by unfold lay at hi; rw [List.length_map] at hi; exact hi
        have g2 := pair_at (l := lay cs x d) rfl hi he
        have g1 : (lay cs x d)[i].1 = (ends cs x d)[i] := by
          have := List.getElem_of_eq (lay_fst cs x d) (i := i) (by rw [List.length_map]; exact hi)
          rw [List.getElem_map] at this
          exact this
        rw [g1] at hT5
        rw [g2] at po
        have hen := List.getElem_mem he
        obtain ⟨c1, c2⟩ := allk d (by omega) _ hen
        have c3 := smal d (by omega) _ hen
        have bH : BK ds H H5 := pv.b.tr b5
        obtain ⟨gm, m1, m2⟩ := hum
        have hm5 : H5 um = some (.met gm p) := bH _ _ (fun h => by obtain ⟨kvs, e⟩ := k0.in h; rw [m2] at e; cases e) m2
        have hum5 : MetO K C "undone" H5 um p := ⟨gm, m1, hm5⟩
        have hT9 : H5 T = some (TabO T) := bH _ _ (fun h => by obtain ⟨kvs, e⟩ := k0.in h; rw [hT] at e; cases e) hT
        have st := hp.re (k0.sl bH) k5
        have z1 : tot cs x d + (i + 1) * (x.length * (cs.getD (cs.length - 1 - d) []).length) ≤ tot cs x (d + 1) := by
          show _ ≤ tot cs x d + (ends cs x d).length * (x.length * (cs.getD (cs.length - 1 - d) []).length)
          exact Nat.add_le_add_left (Nat.mul_le_mul_right _ he) _
        have z2 := tot_mono cs x (show d + 1 ≤ cs.length by omega)
        have z3 : tot cs x d + i * (x.length * (cs.getD (cs.length - 1 - d) []).length) + (cs.getD (cs.length - 1 - d) []).length * ((ends cs x d)[i]).length = tot cs x d + (i + 1) * (x.length * (cs.getD (cs.length - 1 - d) []).length) := by
          rw [c2, Nat.succ_mul, Nat.mul_comm (cs.getD (cs.length - 1 - d) []).length x.length]
          omega
        have b65 : (2 : Int) ^ 6000 < 2 ^ 6500 := by decide +kernel
        refine ⟨rfl, .ref T', rfl, um, p, rfl, ⟨gm, m1, hm5⟩, .ref T', rfl, .int (((cs.length - 1 - d) + 1 : Nat) : Int), rfl, hum5, p, T', cs, ds, tot cs x d + i * (x.length * (cs.getD (cs.length - 1 - d) []).length), cs.length - 1 - d, (ends cs x d)[i], rfl, st, hT5, c1, Int.lt_trans c3 b65, ml, hk, by rw [z3]; omega, hT9, fun q5 H6 b6 n6 c6 hq6 => ?_⟩
        rw [z3] at c6
        have hL5 := bH5L b5
        exact po _ _ b6 c6.kn ⟨q5, rfl, pl_hid (b6 _ _ nLd hL5) (fun e => by rw [e, hL5] at n6; cases n6) hq6⟩
      · have hL5 := bH5L b5
        have DnL : D ≠ L := fun e => by rw [e, pv.at_] at nD; cases nD
        have llen : (lay cs x d).length = (ends cs x d).length := by unfold lay; rw [List.length_map]
        rw [llen] at k5
        have k5 : KnD H5 cs ds (tot cs x (d + 1)) := k5
        have hDn : H D = none := BK.free pv.b pv.k nD
        have pvl : ∀ j dd, lds[j]? = some dd → DL P w (AtN PL) (hid L H5) dd (lay cs x j) ∧ H dd = none := fun j dd ej => by
          obtain ⟨a, c⟩ := pv.ly j dd ej
          refine ⟨a.bk (AtN.mo pl_mo) (k0.nin c) (fun y o hy e => ?_) (hid_sl (pv.k.sl b5)), c⟩
          obtain ⟨e1, e2⟩ := hid_some e
          rw [hid_ne e1]
          exact b5 _ _ hy e2
        have hDh := dl_hid hL5 DnL hDL
        have ll := pv.len
        refine ⟨.ref L, rfl, .inl ⟨rfl, _, SqL.of hL5⟩, .ref D, rfl, L, _, .ref D, rfl, rfl, hL5, by rw [List.length_map, ll]; show d < 16777216; omega, ?_⟩
        have e6 : lds.map V.ref ++ [V.ref D] = (lds ++ [D]).map V.ref := by rw [List.map_append]; rfl
        rw [e6]
        have hu : Same (hid L H5) (hid L (upd H5 L (.lst ((lds ++ [D]).map V.ref)))) := hid_upd
        have b6 : BK ds H (upd H5 L (.lst ((lds ++ [D]).map V.ref))) := fun y o hy e => by
          rw [upd_ne (ne_of_none e nL)]
          exact b5 _ _ hy (pv.b _ _ hy e)
        have k6 : KnD (upd H5 L (.lst ((lds ++ [D]).map V.ref))) cs ds (tot cs x (d + 1)) := k5.upd nLd
        have hL6 : upd H5 L (.lst ((lds ++ [D]).map V.ref)) L = some (.lst ((lds ++ [D]).map V.ref)) := upd_same
        generalize upd H5 L (.lst ((lds ++ [D]).map V.ref)) = H6 at hu b6 k6 hL6
        have hD6 := hDh.mo (AtN.mo pl_mo) hu
        have lf := lay_flat (cs := cs) (x := x) (d := d) fun e he => (allk d (by omega) e he).2
        have tm := tot_mono cs x (show d + 1 ≤ cs.length by omega)
        have tm2 : tot cs x (d + 1) = tot cs x d + (ends cs x d).length * (x.length * (cs.getD (cs.length - 1 - d) []).length) := rfl
        refine ⟨.ref D, rfl, D, lay cs x d, rfl, hD6.mo (AtN.mo pl_mo) hid_of, by omega, fun e2 H7 s7 n7 hLO => ?_⟩
        have e2L : e2 ≠ L := fun e => by rw [e, hL6] at n7; cases n7
        refine ⟨e2, lds ++ [D], _, _, _, rfl, b6.tr (.of s7), k6.same s7, s7 _ _ hL6, by rw [List.length_append, ll]; rfl, fun j dd ej => ?_, ct_hid (s7 _ _ hL6) e2L hLO⟩
        by_cases hj : j < lds.length
        · rw [List.getElem?_append_left hj] at ej
          obtain ⟨a, c⟩ := pvl j dd ej
          exact ⟨(a.mo (AtN.mo pl_mo) hu).mo (AtN.mo pl_mo) (hid_same s7), c⟩
        · rw [List.getElem?_append_right (by omega)] at ej
          have hj2 : j = d := by
            have := (List.getElem?_eq_some_iff.mp ej).1
            simp only [List.length_cons, List.length_nil] at this
            omega
          subst hj2
          rw [ll, Nat.sub_self] at ej
          cases Option.some.inj ej
          exact ⟨hD6.mo (AtN.mo pl_mo) (hid_same s7), hDn⟩
    · obtain ⟨e, lds, a6, a7, a8, rfl, pv⟩ := hw
      have ll := pv.len
      have heG : LO CtO G e (ends cs x cs.length) := LO.mo ctO_mo (.of hid_of) pv.en
      obtain ⟨eas, he1, he2⟩ := heG
      refine ⟨.ref L, rfl, .inl ⟨rfl, _, SqL.of pv.at_⟩, .ref e, rfl, e, rfl, ⟨_, SqL.of he1⟩, ?_⟩
      refine dc_listB (R := hR L (AtN StL)) (hR_mo (AtN.mo stL_mo)) (cs := cs) (ds := ds) (es := (ends cs x cs.length).map fun e => (e, startsOf e)) (by rw [fst_map]; exact ends_nodup _ _ _) (by rw [List.length_map]; exact Nat.le_trans (endl _ (Nat.le_refl _)) (by decide)) (by rw [fst_map]; exact ⟨eas, he1, he2⟩) (zf := fun _ => tot cs x cs.length) pv.k (fun i hi T' H5 Po b5 k5 hT5 po => ?_) (fun D H5 b5 nD k5 hDL => ?_)
      · have he : i < (ends cs x cs.length).length := by rw [List.length_map] at hi; exact hi
        have g2 := pair_at (l := (ends cs x cs.length).map fun e => (e, startsOf e)) rfl hi he
        have g1 : ((ends cs x cs.length).map fun e => (e, startsOf e))[i].1 = (ends cs x cs.length)[i] := by rw [List.getElem_map]
        rw [g1] at hT5
        rw [g2] at po
        have hen := List.getElem_mem he
        obtain ⟨c1, c2⟩ := allk _ (Nat.le_refl _) _ hen
        have hL5 : H5 L = some (.lst (lds.map V.ref)) := b5 _ _ nLd pv.at_
        refine ⟨rfl, .ref T', rfl, ⟨fp, hfp, rfl⟩, .ref T', rfl, T', (ends cs x cs.length)[i], rfl, hT5, c1, fun p9 H9 s9 n9 h9 => po _ _ (.of s9) (k5.same s9) ⟨p9, rfl, ?_⟩⟩
        have np : p9 ≠ L := fun e => by rw [e, hL5] at n9; cases n9
        show hid L H9 p9 = _
        rw [hid_ne np]
        have h9' : H9 p9 = some (.lst ((if (ends cs x cs.length)[i].sum = 1 then [((startOf (ends cs x cs.length)[i] : Nat) : Int)] else []).map V.int)) := h9
        rw [h9']
        unfold startsOf rowI
        split <;> rfl
      · have hL5 : H5 L = some (.lst (lds.map V.ref)) := b5 _ _ nLd pv.at_
        have DnL : D ≠ L := fun e => by rw [e, pv.at_] at nD; cases nD
        have hDn : H D = none := BK.free pv.b pv.k nD
        have hDh := dl_hid hL5 DnL hDL
        have pvl : ∀ j dd, lds[j]? = some dd → DL P w (AtN PL) (hid L H5) dd (lay cs x j) ∧ H dd = none := fun j dd ej => by
          obtain ⟨a, c⟩ := pv.ly j dd ej
          refine ⟨a.bk (AtN.mo pl_mo) (k0.nin c) (fun y o hy e => ?_) (hid_sl (pv.k.sl b5)), c⟩
          obtain ⟨e1, e2⟩ := hid_some e
          rw [hid_ne e1]
          exact b5 _ _ hy e2
        refine ⟨L, _, .ref D, rfl, rfl, hL5, by rw [List.length_map, ll]; show cs.length < 16777216; omega, ?_⟩
        have e6 : lds.map V.ref ++ [V.ref D] = (lds ++ [D]).map V.ref := by rw [List.map_append]; rfl
        rw [e6]
        have hu : Same (hid L H5) (hid L (upd H5 L (.lst ((lds ++ [D]).map V.ref)))) := hid_upd
        have b6 : BK ds H (upd H5 L (.lst ((lds ++ [D]).map V.ref))) := fun y o hy e => by
          rw [upd_ne (ne_of_none e nL)]
          exact b5 _ _ hy (pv.b _ _ hy e)
        have k6 : KnD (upd H5 L (.lst ((lds ++ [D]).map V.ref))) cs ds (tot cs x cs.length) := k5.upd nLd
        have hL6 : upd H5 L (.lst ((lds ++ [D]).map V.ref)) L = some (.lst ((lds ++ [D]).map V.ref)) := upd_same
        generalize upd H5 L (.lst ((lds ++ [D]).map V.ref)) = H6 at hu b6 k6 hL6
        have huo : Same (hid L H5) H6 := hu.trans hid_of
        refine ⟨.ref L, rfl, L, _, rfl, SqL.of hL6, fun q9 n9 => ?_⟩
        have s9 := sameN (o := HO.lst ((lds ++ [D]).map V.ref).reverse) n9
        have rv : (lds ++ [D]).reverse = D :: lds.reverse := by rw [List.reverse_append]; rfl
        refine q q9 _ (D :: lds.reverse) (b6.tr (.of s9)) (BK.free b6 k6 n9) (k6.same s9) ⟨?_, by rw [List.length_cons, List.length_reverse, ll], fun d0 ed => ?_, fun j d0 hj ed => ?_, fun d0 hd => ?_⟩
        · rw [upd_same, ← List.map_reverse, rv]
        · cases Option.some.inj ed
          exact (hDh.mo (AtN.mo stL_mo) huo).mo (AtN.mo stL_mo) s9
        · have ed : lds.reverse[j]? = some d0 := ed
          rw [List.getElem?_reverse (by omega), ll] at ed
          exact ((pvl _ _ ed).1.mo (AtN.mo pl_mo) huo).mo (AtN.mo pl_mo) s9
        · rcases List.mem_cons.mp hd with z | z
          · exact fun e => by rw [z.symm.trans e, hT2] at hDn; cases hDn
          · obtain ⟨j, hj⟩ := List.mem_iff_getElem?.mp (List.mem_reverse.mp z)
            exact fun e => by have := (pvl j d0 hj).2; rw [e, hT2] at this; cases this

end
end K34
end

section
set_option Elab.async false
set_option linter.all false
set_option maxRecDepth 100000
set_option maxHeartbeats 4000000
namespace K34
open PySem PySem.Spec PyProof.Rows L2 GxR Gx Ma Mc
section
variable {P : Program} {w : World} {K : PySem.W.Frag} {mg : Str → Option Value} {base : Heap}

/-- what repr asks of the rows of a walk -/
structure KeepsOk (ks : List (Int × Int)) : Prop where
  le : ks.length ≤ 60
  kep : ∀ q ∈ ks, Kep q.1 q.2
theorem KeepsOk.at {ks : List (Int × Int)} (h : KeepsOk ks) {i : Nat} (hi : i < ks.length) : Kep (ks.getD i (1, 2)).1 (ks.getD i (1, 2)).2 := h.kep _ (getD_mem hi)
theorem prod_small {ks : List (Int × Int)} (h : KeepsOk ks) (i : Nat) : (prodW (ks.take i)).natAbs < 2 ^ 500 := by
  have h1 := prodW_bound (ks.take i) fun q hq => by
    have k := h.kep q (List.mem_of_mem_take hq)
    have := k.a1
    have := k.ab
    have := k.b100
    omega
  have h2 : (ks.take i).length ≤ 60 := by rw [List.length_take]; have := h.le; omega
  have h3 : 100 ^ (ks.take i).length ≤ 100 ^ 60 := Nat.pow_le_pow_right (by decide) h2
  have h4 : 100 ^ 60 < 2 ^ 500 := by decide +kernel
  omega
theorem take_prod {ks : List (Int × Int)} {i : Nat} (hi : i < ks.length) : prodW (ks.take (i + 1)) = prodW (ks.take i) * (ks.getD i (1, 2)).2 := by
  have e : ks[i]? = some (ks.getD i (1, 2)) := by rw [List.getD_eq_getElem?_getD, List.getElem?_eq_getElem hi]; rfl
  rw [List.take_add_one, e]
  exact prodW_app _ _
def sp_is_list_of_keeps (T : Addr) : Sp := fun vs H Q _ => ∃ (l : Addr) (ts : List Addr) (ks : List (Int × Int)), vs = [V.ref l] ∧ Keeps H l ts ks ∧ KeepsOk ks ∧ H T = some (TabO T) ∧ Q (.bl true) H
def sp_check_keeps (T : Addr) : Sp := fun vs H Q _ => ∃ (l : Addr) (ts : List Addr) (ks : List (Int × Int)), vs = [V.ref l] ∧ Keeps H l ts ks ∧ KeepsOk ks ∧ H T = some (TabO T) ∧ Q .non H
def sp_holds : Sp := fun vs H Q _ => ∃ (l : Addr) (ts : List Addr) (ks : List (Int × Int)), vs = [V.ref l] ∧ Keeps H l ts ks ∧ KeepsOk ks ∧ Q (.bl (dueB ks)) H
def sp_one_left (T : Addr) : Sp := fun vs H Q _ => ∃ (l : Addr) (ts : List Addr) (ks : List (Int × Int)), vs = [V.ref l] ∧ Keeps H l ts ks ∧ KeepsOk ks ∧ H T = some (TabO T) ∧ Q (.bl (dueB ks)) H

theorem ok_is_list_of_keeps {f : Addr} {fd : FuncData} {c : Addr} (F : FunC K "is_list_of_keeps" "is_list_of_keeps" s_is_list_of_keeps f fd c) (B : Bl mg) (C_is_kept : Cal P w K mg base 3 "is_kept" ["thing"] sp_is_kept) {T : Addr} (TB_is_list_of_keeps : TabB base mg c T) : FnOk P w K mg base CX0 7 f fd ["thing"] (sp_is_list_of_keeps T) := by
  refine F.ok sc_is_list_of_keeps (fun vs H Q E h => ?_) (fun A outer s H vs Q E hr h => ?_)
  · obtain ⟨l, ts, ks, rfl, _⟩ := h; rfl
  · obtain ⟨l, ts, ks, rfl, hk, hok, hT, q⟩ := h
    have h60 : ts.length ≤ 60 := by rw [hk.len]; exact hok.le
    have hkp := hok.kep
    have hcode : (cxOf CX0 P w K mg base ["thing"] "is_list_of_keeps" (defScope s_is_list_of_keeps) f (.ref c) A outer s H E).nox.env.code = .ref c := rfl
    have nd := sc_is_list_of_keeps.nd
    refine ⟨_, (pss_cons (ps_if (PW.pt (pw_or (pt_cmpR op_neTy (pe_typeOf (by rfl) B.type (pv 0)) (pe_bltn (v := .ty "list") (by rfl) B.list (by decide +kernel) rfl) (nomark _)) (pw_or1 (pt_cmpR op_gt (pe_callB call_len_seq (by rfl) B.len PySem.boot_len (pa_cons (pv 0) pa_nil)) (pe_gi B.MOST_TOP_UPS) (nomark _)))))
      (pss_one (ps_ret pe_bl)) pss_nil)
      (pss_one (ps_ret (pe_allG (ns := []) (k' := 3) (hr.mono (by decide)) (by rfl) B.all TB_is_list_of_keeps hcode (gok_by (N := ["thing"]) (sc := defScope s_is_list_of_keeps) (by decide +kernel)) (by decide) (pi_list (pv 0)) (fun s H C code fp A hq => (pe_cal C_is_kept (hq.mono (by decide)) (pa_cons (pv 0) pa_nil))))))), ?_⟩
    refine ⟨.ref l, rfl, "list", by simp only [zTyV, hk.at_], "list", rfl, rfl, TypeEq.meta_list, false, rfl, iteF ?_⟩
    refine ⟨.ref l, rfl, l, _, rfl, .inl (SqL.of hk.at_), _, _, rfl, rfl, _, rfl, ?_⟩
    rw [decide_eq_false (by rw [List.length_map]; omega)]
    refine iteF ⟨.ref l, rfl, l, rfl, ⟨_, SqL.of hk.at_⟩, hT, all_list hk.at_ (fun i y hy R r => ?_) q⟩
    obtain ⟨t, ht, rfl⟩ := map_ref hy
    have hi := (List.getElem?_eq_some_iff.mp ht).1
    rw [hk.len] at hi
    exact ⟨.ref t, rfl, t, _, _, rfl, hk.tup i t ht, hkp _ (getD_mem hi), r⟩

theorem ok_check_keeps {f : Addr} {fd : FuncData}  (F : Fun K "check_keeps" "check_keeps" s_check_keeps f fd) (B : Bl mg) {T : Addr} (C_is_list_of_keeps : Cal P w K mg base 7 "is_list_of_keeps" ["thing"] (sp_is_list_of_keeps T)) : FnOk P w K mg base CX0 8 f fd ["keeps"] (sp_check_keeps T) := by
  refine F.ok sc_check_keeps (fun vs H Q E h => ?_) (fun cdv A outer s H vs Q E hr h => ?_)
  · obtain ⟨l, ts, ks, rfl, _⟩ := h; rfl
  · obtain ⟨l, ts, ks, rfl, hk, hok, hT, q⟩ := h
    have nd := sc_check_keeps.nd
    refine ⟨_, (pss_one (ps_if (pt_not (pt_val (pe_cal C_is_list_of_keeps (hr.mono (by decide)) (pa_cons (pv 0) pa_nil))))
      (pss_one ps_never) pss_nil)), ?_⟩
    exact ⟨.ref l, rfl, l, ts, ks, rfl, hk, hok, hT, true, rfl, iteF q⟩

theorem ok_holds_for_all {f : Addr} {fd : FuncData}  (F : Fun K "holds_for_all" "holds_for_all" s_holds_for_all f fd) (B : Bl mg)  : FnOk P w K mg base CX0 1 f fd ["keeps"] (sp_holds) := by
  refine F.ok sc_holds_for_all (fun vs H Q E h => ?_) (fun cdv A outer s H vs Q E hr h => ?_)
  · obtain ⟨l, ts, ks, rfl, _⟩ := h; rfl
  · obtain ⟨l, ts, ks, rfl, hk, hok, q⟩ := h
    have nd := sc_holds_for_all.nd
    refine ⟨_, (pss_cons (ps_set (i := 1) nd rfl (Or.inl rfl) pe_int)
      (pss_cons (ps_for PassesOwn.never rfl (pi_list (pv 0)) (pg_tup (by rfl) (pgs_cons (pg_name (i := 2) nd rfl (Or.inl rfl)) (pgs_cons (pg_name (i := 3) nd rfl (Or.inl rfl)) pgs_nil))) (pss_cons (ps_if (PW.pt (pw_and (pt_cmpR op_ge (pe_op op_mulW pe_int (pv 2)) (pv 3) (nomark _)) (pw_and1 (PW.pt (pw_or (pt_cmpR op_eq (pv 2) pe_int (nomark _)) (pw_or1 (pt_cmpR op_gt (pe_callBfun cr_gcd (by rfl) B.gcd (pa_cons (pv 2) (pa_cons (pv 1) pa_nil))) pe_int (nomark _))))))))
      (pss_one (ps_ret pe_bl)) pss_nil)
      (pss_one (ps_aug (i := 1) nd rfl (Or.inl rfl) (pv 3) ip_mulW))))
      (pss_one (ps_ret pe_bl)))), ?_⟩
    refine ⟨.ref l, rfl, l, rfl, ⟨_, SqL.of hk.at_⟩, for_list (xs := ts.map V.ref) (fun i σ H' => ∃ y2 y3, σ = [some (.ref l), some (.int (prodW (ks.take i))), y2, y3] ∧ H' = H ∧ ∀ j, j < i → badB ks j = false) ⟨none, none, rfl, rfl, fun j hj => absurd hj (Nat.not_lt_zero _)⟩ (fun i σ H' _ ⟨_, _, _, e, _⟩ => by rw [e]; exact SqL.of hk.at_) (fun i x σ H' hx ⟨y2, y3, e1, e2, e3⟩ => ?_) (fun σ H' ⟨y2, y3, e1, e2, e3⟩ => ?_)⟩
    · subst e1 e2
      obtain ⟨t, ht, rfl⟩ := map_ref hx
      have hi := (List.getElem?_eq_some_iff.mp ht).1
      rw [hk.len] at hi
      have ht2 := hk.tup i t ht
      have k := hok.at hi
      have e4 := take_prod hi
      have e5 := gt1_prod (a := (ks.getD i (1, 2)).1.natAbs) (by have := k.a1; omega) (ks.take i)
      have e6 : badB ks i = (decide ((ks.getD i (1, 2)).2 ≤ 2 * (ks.getD i (1, 2)).1) && (decide ((ks.getD i (1, 2)).1 = 1) || gt1 (ks.getD i (1, 2)).1.natAbs (prodW (ks.take i)).natAbs)) := by rw [e5]; rfl
      have pb := prod_small hok i
      have k1 := k.a1
      have k2 := k.ab
      have k3 := k.b100
      generalize (ks.getD i (1, 2)).1 = a at *
      generalize (ks.getD i (1, 2)).2 = b at *
      refine ⟨t, [_, _], rfl, SqT.of ht2, rfl, _, _, rfl, _, _, rfl, rfl, ?_⟩
      have nxt : badB ks i = false → ∃ y2 y3, [some (V.ref l), some (V.int (prodW (ks.take i) * b)), some (V.int a), some (V.int b)] = [some (V.ref l), some (.int (prodW (ks.take (i + 1)))), y2, y3] ∧ H' = H' ∧ ∀ j, j < i + 1 → badB ks j = false := fun hb => ⟨_, _, by rw [e4], rfl, fun j hj => by
        rcases Nat.lt_succ_iff_lt_or_eq.mp hj with z | z
        · exact e3 j z
        · rw [z]; exact hb⟩
      refine ⟨.int a, rfl, 2, a, rfl, rfl, wide_mul (a := 2) (b := 7) (by decide) (by omega) (by decide) (by decide) (by decide), .int b, rfl, _, b, rfl, rfl, _, rfl, ?_⟩
      by_cases h1 : b ≤ 2 * a
      · rw [decide_eq_true (show 2 * a ≥ b from h1)]
        refine iteT ⟨.int a, rfl, rfl, _, rfl, ?_⟩
        rw [dec_int]
        by_cases h2 : a = 1
        · rw [decide_eq_true h2]
          refine iteT ?_
          show Q (.bl false) H'
          rw [← due_false hi (by rw [e6, decide_eq_true h1, decide_eq_true h2]; rfl)]
          exact q
        · rw [decide_eq_false h2]
          refine iteF ⟨.int a, rfl, .int (prodW (ks.take i)), rfl, a, _, rfl, _, _, rfl, rfl, _, rfl, ?_⟩
          by_cases h3 : 1 < Nat.gcd a.natAbs (prodW (ks.take i)).natAbs
          · rw [decide_eq_true (show ((Nat.gcd a.natAbs (prodW (ks.take i)).natAbs : Nat) : Int) > 1 by omega)]
            refine iteT ?_
            show Q (.bl false) H'
            rw [← due_false hi (by rw [e6, decide_eq_true h1, decide_eq_false h2]; exact decide_eq_true h3)]
            exact q
          · rw [decide_eq_false (show ¬ ((Nat.gcd a.natAbs (prodW (ks.take i)).natAbs : Nat) : Int) > 1 by omega)]
            refine iteF ⟨.int (prodW (ks.take i)), rfl, .int b, rfl, _, _, rfl, rfl, wide_mul (a := 500) (b := 7) pb (by omega) (by decide) (by decide) (by decide), ?_⟩
            exact nxt (by rw [e6, decide_eq_true h1, decide_eq_false h2]; exact decide_eq_false h3)
      · rw [decide_eq_false (show ¬ 2 * a ≥ b from h1)]
        refine iteF ⟨.int (prodW (ks.take i)), rfl, .int b, rfl, _, _, rfl, rfl, wide_mul (a := 500) (b := 7) pb (by omega) (by decide) (by decide) (by decide), ?_⟩
        exact nxt (by rw [e6, decide_eq_false h1]; rfl)
    · subst e1 e2
      rw [due_true fun j hj => e3 j (by rw [List.length_map, hk.len]; exact hj)] at q
      exact q

theorem ok_is_one_left {f : Addr} {fd : FuncData}  (F : Fun K "is_one_left" "is_one_left" s_is_one_left f fd) (B : Bl mg) {T : Addr} (C_check_keeps : Cal P w K mg base 8 "check_keeps" ["keeps"] (sp_check_keeps T)) (C_holds_for_all : Cal P w K mg base 1 "holds_for_all" ["keeps"] sp_holds) : FnOk P w K mg base CX0 9 f fd ["keeps"] (sp_one_left T) := by
  refine F.ok sc_is_one_left (fun vs H Q E h => ?_) (fun cdv A outer s H vs Q E hr h => ?_)
  · obtain ⟨l, ts, ks, rfl, _⟩ := h; rfl
  · obtain ⟨l, ts, ks, rfl, hk, hok, hT, q⟩ := h
    have nd := sc_is_one_left.nd
    refine ⟨_, (pss_cons (ps_expr (pe_cal C_check_keeps (hr.mono (by decide)) (pa_cons (pv 0) pa_nil)))
      (pss_one (ps_ret (pe_cal C_holds_for_all (hr.mono (by decide)) (pa_cons (pv 0) pa_nil))))), ?_⟩
    exact ⟨.ref l, rfl, l, ts, ks, rfl, hk, hok, hT, .ref l, rfl, l, ts, ks, rfl, hk, hok, q⟩

def sp_topped_by (Tc Tk Tr : Addr) : Sp := fun vs H Q _ => ∃ (l kl r : Addr) (ns : List Int) (ts : List Addr) (ks : List (Int × Int)) (cs : List Nat), vs = [V.ref l, V.ref kl, V.ref r] ∧ LI H l ns ∧ Keeps H kl ts ks ∧ LI H r (rowI cs) ∧ Rowy ns ks cs ∧ ns.sum < 2 ^ 7000 ∧ H Tc = some (TabO Tc) ∧ H Tk = some (TabO Tk) ∧ H Tr = some (TabO Tr) ∧
  ∀ p H', Same H H' → H p = none → LI H' p (ctn ns ks cs cs.length) → Q (.ref p) H'

theorem ok_topped_by {f : Addr} {fd : FuncData}  (F : Fun K "topped_by" "topped_by" s_topped_by f fd) (B : Bl mg) {Tc : Addr} (C_check_content : Cal P w K mg base 7 "check_content" ["content"] (sp_check_content Tc)) {Tk : Addr} (C_check_keeps : Cal P w K mg base 8 "check_keeps" ["keeps"] (sp_check_keeps Tk)) {Tr : Addr} (C_check_row : Cal P w K mg base 8 "check_row" ["row", "liquids"] (sp_check_row Tr)) (C_contents_by : Cal P w K mg base 4 "contents_by" ["content", "keeps", "row"] sp_contents_by) : FnOk P w K mg base CX0 9 f fd ["content", "keeps", "row"] (sp_topped_by Tc Tk Tr) := by
  refine F.ok sc_topped_by (fun vs H Q E h => ?_) (fun cdv A outer s H vs Q E hr h => ?_)
  · obtain ⟨l, kl, r, ns, ts, ks, cs, rfl, _⟩ := h; rfl
  · obtain ⟨l, kl, r, ns, ts, ks, cs, rfl, hl, hk, hr2, R, hz, hTc, hTk, hTr, q⟩ := h
    have h60 := R.c60
    have hkl := hk.len
    have hl2 := R.len
    have hrl := rowI_len cs
    have nd := sc_topped_by.nd
    refine ⟨_, (pss_cons (ps_expr (pe_cal C_check_content (hr.mono (by decide)) (pa_cons (pv 0) pa_nil)))
      (pss_cons (ps_expr (pe_cal C_check_keeps (hr.mono (by decide)) (pa_cons (pv 1) pa_nil)))
      (pss_cons (ps_expr (pe_cal C_check_row (hr.mono (by decide)) (pa_cons (pv 2) (pa_cons (pe_callB call_len_seq (by rfl) B.len PySem.boot_len (pa_cons (pv 0) pa_nil)) pa_nil))))
      (pss_cons (ps_if (pt_cmpR op_ne (pe_callB call_len_seq (by rfl) B.len PySem.boot_len (pa_cons (pv 2) pa_nil)) (pe_callB call_len_seq (by rfl) B.len PySem.boot_len (pa_cons (pv 1) pa_nil)) (nomark _))
      (pss_one ps_never) pss_nil)
      (pss_one (ps_ret (pe_ix ix_list (pe_cal C_contents_by (hr.mono (by decide)) (pa_cons (pv 0) (pa_cons (pv 1) (pa_cons (pv 2) pa_nil)))) (pe_un un_neg pe_int) (fun _ _ => rfl)))))))), ?_⟩
    refine ⟨.ref l, rfl, l, ns, rfl, hl, R.con, hTc, ?_⟩
    refine ⟨.ref kl, rfl, kl, ts, ks, rfl, hk, ⟨by omega, R.kep⟩, hTk, ?_⟩
    refine ⟨.ref r, rfl, .ref l, rfl, l, _, rfl, .inl (SqL.of hl), r, rowI cs, _, rfl, hr2, by omega, ?_, hTr, ?_⟩
    · rw [List.length_map]
      exact rowI_le R.liq
    refine ⟨.ref r, rfl, r, _, rfl, .inl (SqL.of hr2), .ref kl, rfl, kl, _, rfl, .inl (SqL.of hk.at_), rfl, _, rfl, iteNS ?_ ?_⟩
    · rw [List.length_map, List.length_map, hrl, hkl, hl2]
    refine ⟨.ref l, rfl, .ref kl, rfl, .ref r, rfl, l, kl, r, ns, ts, ks, cs, rfl, hl, hk, hr2, R, hz, fun p ps H' s RR => ?_⟩
    obtain ⟨x, ex, lx, xm⟩ := RR.last
    exact ⟨1, rfl, p, _, -1, _, rfl, rfl, SqL.of RR.at_, ex, q x H' s (RR.new x (List.mem_of_getElem? xm)) lx⟩

end
end K34
end

section
set_option Elab.async false
set_option linter.all false
set_option maxRecDepth 100000
set_option maxHeartbeats 4000000
namespace K34
open PySem PySem.Spec PyProof.Rows L2 GxR Gx Ma Mc
section
variable {P : Program} {w : World} {K : PySem.W.Frag} {mg : Str → Option Value} {base : Heap}

def sp_clayers (P : Program) (w : World) (T T34 : Addr) : Sp := fun vs H Q _ => ∃ (l ch : Addr) (cs : List Mnu) (x : List Int), vs = [V.ref l, .ref ch] ∧ LI H l x ∧ Con x ∧ x.sum < 2 ^ 6000 ∧ ChL H ch cs ∧ cs.length ≤ 60 ∧ (∀ c ∈ cs, ∀ q ∈ c, Kep q.1 q.2) ∧ (∀ i, i ≤ cs.length → (prods (backM cs i)).length ≤ 16777215) ∧ tot cs x cs.length ≤ 16000000 ∧ H T = some (TabO T) ∧ H T34 = some (TabO T34) ∧
  ∀ q H' lds, Same H H' → H q = none → LyA P w cs x T34 H' q lds → Q (.ref q) H'
def sp_ckund (T C : Addr) : Sp := fun vs H Q E => ∃ (l : Addr) (ts : List Addr) (ks : List (Int × Int)), vs = [V.ref l] ∧ Keeps H l ts ks ∧ KeepsOk ks ∧ H T = some (TabO T) ∧ ((ks.length ≤ 8 ∨ dueB ks = true) → Q .non H) ∧ (¬ (ks.length ≤ 8 ∨ dueB ks = true) → E (.ref C) none H)
def sgl (ks : List (Int × Int)) : List Mnu := ks.map fun q => [q]
theorem sgl_len (ks : List (Int × Int)) : (sgl ks).length = ks.length := List.length_map ..
def waysK (ks : List (Int × Int)) (x : List Int) : List Way := ways (backM (sgl ks) (sgl ks).length) x
def hist (ks : List (Int × Int)) (x : List Int) : List (Nat × List Nat) := (srtW (waysK ks x)).map fun v => (v.1, v.2.map (·.1))
/-- a history, all of it new since H0 -/
def HisO (H0 H : Hp) (a : Addr) (h : Nat × List Nat) : Prop := ∃ q, H a = some (.tup [.int (h.1 : Nat), .ref q]) ∧ LI H q (rowI h.2) ∧ H0 a = none ∧ H0 q = none
theorem hisO_mo {H0 : Hp} : MoA (HisO H0) := fun _ _ _ _ s ⟨q, e, h, r⟩ => ⟨q, s _ _ e trivial, s _ _ h trivial, r⟩
abbrev HisL (H0 : Hp) := LO (HisO H0)
def sp_along (T T34 Tc Tk C1 C2 : Addr) : Sp := fun vs H Q E => ∃ (l kl : Addr) (x : List Int) (ts : List Addr) (ks : List (Int × Int)), vs = [V.ref l, .ref kl] ∧ LI H l x ∧ Con x ∧ x.sum < 2 ^ 6000 ∧ Keeps H kl ts ks ∧ KeepsOk ks ∧ ((ks.length ≤ 8 ∨ dueB ks = true) → tot (sgl ks) x ks.length ≤ 16000000) ∧ H T = some (TabO T) ∧ H T34 = some (TabO T34) ∧ H Tc = some (TabO Tc) ∧ H Tk = some (TabO Tk) ∧
  (¬ (ks.length ≤ 8 ∨ dueB ks = true) → E (.ref C1) none H) ∧
  ((ks.length ≤ 8 ∨ dueB ks = true) → 500 < (waysK ks x).length → ∀ H', Same H H' → E (.ref C2) none H') ∧
  ((ks.length ≤ 8 ∨ dueB ks = true) → (waysK ks x).length ≤ 500 → ∀ p H', Same H H' → H p = none → HisL H H' p (hist ks x) → Q (.ref p) H')
theorem lst_of {H : Hp} {q : Addr} {sts : List (Nat × Nat)} (h : LO StpO H q sts) : LSt H q sts := by
  obtain ⟨as, e, r⟩ := h
  refine ⟨as, e, r.length, fun i a s h1 h2 => ?_⟩
  obtain ⟨b, hb, hs⟩ := paired_get r h1
  rw [h2] at hb
  cases hb
  exact hs
theorem prods_sgl : ∀ (r : List Mnu), (∀ c ∈ r, c.length = 1) → (prods r).length = 1
  | [], _ => rfl
  | c :: r, h => by
    show ((prods r).flatMap fun p => c.map fun q => p * q.2).length = 1
    rw [flat_len (prods r) c fun p q => p * q.2, prods_sgl r fun d hd => h d (List.mem_cons_of_mem _ hd), h c List.mem_cons_self]
theorem sgl_one {ks : List (Int × Int)} : ∀ c ∈ sgl ks, c.length = 1 := fun c hc => by
  obtain ⟨q, _, rfl⟩ := List.mem_map.mp hc
  rfl
theorem sgl_kep {ks : List (Int × Int)} (h : ∀ q ∈ ks, Kep q.1 q.2) : ∀ c ∈ sgl ks, ∀ q ∈ c, Kep q.1 q.2 := fun c hc q hq => by
  obtain ⟨p, hp, rfl⟩ := List.mem_map.mp hc
  rw [List.mem_singleton.mp hq]
  exact h p hp
theorem szs_of {cs : List Mnu} {x : List Int} (hk : ∀ c ∈ cs, ∀ q ∈ c, Kep q.1 q.2) (hx : Con x) (ht : tot cs x cs.length ≤ 16000000) : Szs cs x := fun d hd => by
  cases d with
  | zero => show 1 ≤ _; omega
  | succ d =>
    have h1 : (ends cs x (d + 1)).length ≤ tot cs x (d + 1) := by
      rw [ends_succ]
      unfold nxt
      refine Nat.le_trans len_ddA ?_
      have h2 := lay_flat (cs := cs) (x := x) (d := d) fun e he => (ends_con hk hx d (by omega) e he).2
      show 0 + _ ≤ tot cs x d + _
      omega
    have := tot_mono cs x (show d + 1 ≤ cs.length by omega)
    omega

theorem ok_content_layers {f : Addr} {fd : FuncData}  (F : Fun K "content_layers" "content_layers" s_content_layers f fd) (B : Bl mg) {C T T34 : Addr} (KL_ContentSearch : Kls K mg "ContentSearch" C) (BD_ContentSearch_undone : Bd K C "undone") (MK_ContentSearch : Mkr P w K mg base 2 C "ContentSearch" ["self", "choices"] (sp_cs_init C)) (C_layers_back : Cal P w K mg base 7 "layers_back" ["last", "number", "undone", "starts"] (sp_layers_back P w K mg C T T34)) (C_pure_liquids : Cal P w K mg base 2 "pure_liquids" ["content"] (sp_pureL)) : FnOk P w K mg base CX0 9 f fd ["content", "choices"] (sp_clayers P w T T34) := by
  refine F.ok sc_content_layers (fun vs H Q E h => ?_) (fun cdv A outer s H vs Q E hr h => ?_)
  · obtain ⟨l, ch, cs, x, rfl, _⟩ := h; rfl
  · obtain ⟨l, ch, cs, x, rfl, hl, hx, hxs, hch, h60, hk, hz, ht, hT, hT2, q⟩ := h
    have nd := sc_content_layers.nd
    refine ⟨_, (pss_cons (ps_set (i := 2) nd rfl (Or.inl rfl) (pe_mkr MK_ContentSearch (hr.mono (by decide)) (pa_cons (pv 1) pa_nil)))
      (pss_one (ps_ret (pe_cal C_layers_back (hr.mono (by decide)) (pa_cons (pe_tupleN (by rfl) B.tuple (pv 0)) (pa_cons (pe_callB call_len_seq (by rfl) B.len PySem.boot_len (pa_cons (pv 1) pa_nil)) (pa_cons (pe_bound (pv 2) KL_ContentSearch.cl BD_ContentSearch_undone) (pa_cons (pe_gf C_pure_liquids) pa_nil)))))))), ?_⟩
    refine ⟨.ref ch, rfl, fun p dx np ndx hne => ?_⟩
    have s0 : Same H (upd (upd H dx (.own p)) p (.ins C dx [])) := fun y o e => by rw [upd_ne (ne_of_none e np), upd_ne (ne_of_none e ndx)]; exact e
    have at0 : upd (upd H dx (.own p)) p (.ins C dx []) p = some (.ins C dx []) := upd_same
    generalize upd (upd H dx (.own p)) p (.ins C dx []) = H0 at s0 at0
    refine ⟨p, dx, ch, cs, rfl, at0, chL_mo _ _ _ _ (.of s0) hch, h60, hk, hz, fun H1 ds o1 f1 d1 st => ⟨rfl, ?_⟩⟩
    have s1 : Same H H1 := fun y o e => o1 _ _ (ne_of_none e np) (s0 _ _ e)
    have nds : ∀ y o, H y = some o → y ∉ ds := fun y o e hm => by
      have := d1 y hm
      rw [s0 _ _ e] at this
      cases this
    refine ⟨.ref l, rfl, l, _, rfl, SqL.of (s1 _ _ hl), fun lt H2 nlt hsame hlt => ?_⟩
    have s2 : Same H1 H2 := fun y o e => by rw [hsame y (ne_of_none e nlt)]; exact e
    have hch2 := s1.trans s2
    obtain ⟨ms, hm1, hm2⟩ := hch
    refine ⟨.ref ch, rfl, ch, _, rfl, .inl (SqL.of (hch2 _ _ hm1)), ?_⟩
    obtain ⟨dx', cl, pl, kl, pds, g1, _⟩ := (st.same s2).ex
    refine ⟨.ref p, rfl, p, dx', _, rfl, g1, lk_und, fun um H3 num hs3 hum => ?_⟩
    have s3 : Same H2 H3 := fun y o e => by rw [hs3 y (ne_of_none e num)]; exact e
    have s13 := s1.trans (s2.trans s3)
    refine fun fp hfp => ?_
    refine ⟨lt, um, fp, p, cs, ds, x, by rw [List.length_map, hm2.length]; rfl, (st.same s2).same s3, hum, hfp, hlt.keep (fun o e => s3 _ _ e), hx, hxs, h60, hk, ht, s13 _ _ hT, s13 _ _ hT2, fun q9 H9 lds b9 n9 k9 hly => ?_⟩
    refine q q9 H9 lds (fun y o e => b9 _ _ (nds y o e) (s13 _ _ e)) (s13.free n9) hly

theorem ok_check_keeps_to_undo {f : Addr} {fd : FuncData}  (F : Fun K "check_keeps_to_undo" "check_keeps_to_undo" s_check_keeps_to_undo f fd) (B : Bl mg) {T C : Addr} (C_check_keeps : Cal P w K mg base 8 "check_keeps" ["keeps"] (sp_check_keeps T)) (C_holds_for_all : Cal P w K mg base 1 "holds_for_all" ["keeps"] sp_holds) (ER_InvalidKept : Er K mg "InvalidKept" C) : FnOk P w K mg base (L2.CX P w) 9 f fd ["keeps"] (sp_ckund T C) := by
  refine F.okX sc_check_keeps_to_undo (fun vs H Q E h => ?_) (fun cdv A outer s H vs Q E hr h => ?_)
  · obtain ⟨l, ts, ks, rfl, _⟩ := h; rfl
  · obtain ⟨l, ts, ks, rfl, hk, hok, hT, q, e⟩ := h
    have nd := sc_check_keeps_to_undo.nd
    refine ⟨_, (pss_cons (ps_expr (pe_cal C_check_keeps (hr.mono (by decide)) (pa_cons (pv 0) pa_nil)))
      (pss_one (ps_if (PW.pt (pw_and (pt_cmpR op_gt (pe_callB call_len_seq (by rfl) B.len PySem.boot_len (pa_cons (pv 0) pa_nil)) (pe_gi B.MOST_UNLIKE_KEEPS) (nomark _)) (pw_and1 (pt_not (pt_val (pe_cal C_holds_for_all (hr.mono (by decide)) (pa_cons (pv 0) pa_nil)))))))
      (pss_one (ps_err rfl (takes_of rfl rfl rfl rfl) ER_InvalidKept)) pss_nil))), ?_⟩
    refine ⟨.ref l, rfl, l, ts, ks, rfl, hk, hok, hT, ?_⟩
    have hl : (ts.map V.ref).length = ks.length := by rw [List.length_map, hk.len]
    refine ⟨.ref l, rfl, l, _, rfl, .inl (SqL.of hk.at_), _, 8, rfl, rfl, _, rfl, ?_⟩
    rw [hl]
    by_cases h8 : 8 < ks.length
    · rw [decide_eq_true (show (8 : Int) < (ks.length : Nat) by omega)]
      refine iteT ⟨.ref l, rfl, l, ts, ks, rfl, hk, hok, _, rfl, ?_⟩
      cases hd : dueB ks with
      | true => exact iteF (q (.inr hd))
      | false => exact iteT (e fun h => by rcases h with h | h; omega; rw [hd] at h; cases h)
    · rw [decide_eq_false (show ¬ (8 : Int) < (ks.length : Nat) by omega)]
      exact iteF (iteF (q (.inl (by omega))))

theorem ok_histories_along {f : Addr} {fd : FuncData}  (F : Fun K "histories_along" "histories_along" s_histories_along f fd) (B : Bl mg) {T T34 Tc Tk C1 C2 : Addr} (C_check_content : Cal P w K mg base 7 "check_content" ["content"] (sp_check_content Tc)) (C_check_keeps_to_undo : CalE P w K mg base 9 "check_keeps_to_undo" ["keeps"] (sp_ckund Tk C1)) (C_told_by : CalE P w K mg base 6 "told_by" ["layers"] (sp_told_by P w T34 C2)) (C_content_layers : Cal P w K mg base 9 "content_layers" ["content", "choices"] (sp_clayers P w T T34)) (C_liquids_of : Cal P w K mg base 1 "liquids_of" ["steps"] (sp_liquids_of)) : FnOk P w K mg base (L2.CX P w) 10 f fd ["content", "keeps"] (sp_along T T34 Tc Tk C1 C2) := by
  refine F.okX sc_histories_along (fun vs H Q E h => ?_) (fun cdv A outer s H vs Q E hr h => ?_)
  · obtain ⟨l, kl, x, ts, ks, rfl, _⟩ := h; rfl
  · obtain ⟨l, kl, x, ts, ks, rfl, hl, hx, hxs, hk, hok, htot, hT, hT2, hTc, hTk, e1, e2, q⟩ := h
    have nd := sc_histories_along.nd
    refine ⟨_, (pss_cons (ps_expr (pe_cal C_check_content (hr.mono (by decide)) (pa_cons (pv 0) pa_nil)))
      (pss_cons (ps_expr (pe_calE C_check_keeps_to_undo (hr.mono (by decide)) (takes_of rfl rfl rfl rfl) (pa_cons (pv 1) pa_nil)))
      (pss_cons (ps_set (i := 2) nd rfl (Or.inl rfl) (pe_calE C_told_by (hr.mono (by decide)) (takes_of rfl rfl rfl rfl) (pa_cons (pe_cal C_content_layers (hr.mono (by decide)) (pa_cons (pv 0) (pa_cons (pe_lc (own := [("kept", 5)]) (g := gName 5) rfl nd (pi_list (pv 1)) (blkOk_by (own := [("kept", 5)]) (N := ["content", "keeps", "told", "start", "steps", "kept"]) (sc := defScope s_histories_along) (by decide +kernel)) (fun _ _ _ _ _ => (pg_name (i := 5) nd rfl (Or.inl rfl))) (fun _ _ _ _ _ => pts_nil) (fun _ _ _ _ _ => (pe_lst (pa_cons (pv 5) pa_nil)))) pa_nil))) pa_nil)))
      (pss_one (ps_ret (pe_lc (own := [("start", 3), ("steps", 4)]) (g := gTup K 2 (gCons (gName 3) (gCons (gName 4) gNil))) rfl nd (pi_list (pv 2)) (blkOk_by (own := [("start", 3), ("steps", 4)]) (N := ["content", "keeps", "told", "start", "steps", "kept"]) (sc := defScope s_histories_along) (by decide +kernel)) (fun _ _ _ _ _ => (pg_tup (by rfl) (pgs_cons (pg_name (i := 3) nd rfl (Or.inl rfl)) (pgs_cons (pg_name (i := 4) nd rfl (Or.inl rfl)) pgs_nil)))) (fun _ _ _ _ _ => pts_nil) (fun _ _ _ _ _ => (pe_tup (pa_cons (pv 3) (pa_cons (pe_cal C_liquids_of (hr.mono (by decide)) (pa_cons (pv 4) pa_nil)) pa_nil)))))))))), ?_⟩
    refine ⟨.ref l, rfl, l, x, rfl, hl, hx, hTc, ?_⟩
    refine ⟨.ref kl, rfl, kl, ts, ks, rfl, hk, hok, hTk, fun hu => ?_, fun hu => e1 hu⟩
    have htot := htot hu
    have e2 := e2 hu
    have q := q hu
    have hlen := hk.len
    have h60 := hok.le
    refine ⟨.ref l, rfl, .ref kl, rfl, kl, rfl, ⟨_, SqL.of hk.at_⟩, fun D hD => ⟨fun i m H' => m = ks.length - i ∧ i ≤ ks.length ∧ PvA MnL H D ((sgl ks).take i) H', ⟨_, rfl, Nat.zero_le _, PvA.zero hD⟩, fun i m H' ⟨hm, hi, pv⟩ => ?_⟩⟩
    by_cases hlt : i < ks.length
    · refine .inr ⟨⟨_, _, SqL.of (pv.s _ _ hk.at_), List.getElem?_eq_getElem (by rw [List.length_map]; omega)⟩, fun H' => PvA MnL H D ((sgl ks).take (i + 1)) H', fun H4 p4 => ⟨_, by omega, rfl, hlt, p4⟩, fun y H4 hy => ?_⟩
      obtain ⟨rfl, hy⟩ := hy
      obtain ⟨t, ht, rfl⟩ := map_ref (hy _ (SqL.of (pv.s _ _ hk.at_)))
      have htt := hk.tup i t ht
      rw [show ks.getD i (1, 2) = ks[i] by rw [List.getD_eq_getElem?_getD, List.getElem?_eq_getElem hlt]; rfl] at htt
      have his : i < (sgl ks).length := by rw [sgl_len]; exact hlt
      have hsi : (sgl ks)[i] = [ks[i]] := List.getElem_map ..
      refine ⟨rfl, .ref t, rfl, by show 1 ≤ 16777216; decide, fun p1 np1 => ?_⟩
      have s5 : Same H4 (upd H4 p1 (HO.lst [V.ref t])) := sameN np1
      have at5 : upd H4 p1 (HO.lst [V.ref t]) p1 = some (.lst [V.ref t]) := upd_same
      generalize upd H4 p1 (HO.lst [V.ref t]) = H5 at s5 at5
      obtain ⟨acD, hD4, _⟩ := pv.d
      have n1 : p1 ≠ D := fun e => by rw [e, hD4] at np1; cases np1
      obtain ⟨acc, e1', e2', e3'⟩ := pv.ext mnL_mo hD s5 (q := p1) (b := [ks[i]]) (by rw [List.length_take, sgl_len]; omega) ⟨[t], by rw [hid_ne n1]; exact at5, .cons (hid_in hD (pv.s.trans s5) _ _ htt) .nil⟩
      refine ⟨acc, e1', e2', ?_⟩
      rw [List.take_add_one, List.getElem?_eq_getElem his, hsi]
      exact e3'
    · have ei : i = ks.length := by omega
      subst ei
      refine .inl ⟨⟨_, SqL.of (pv.s _ _ hk.at_), by rw [List.length_map, hlen]; exact Nat.le_refl _⟩, ?_⟩
      rw [← sgl_len, List.take_length] at pv
      have hch := pv.fin mnL_mo
      have sD := pv.s
      refine ⟨l, D, sgl ks, x, rfl, sD _ _ hl, hx, hxs, hch, by rw [sgl_len]; exact h60, sgl_kep hok.kep, fun i hi => by rw [prods_sgl (backM (sgl ks) i) fun c hc => sgl_one c (List.mem_of_mem_take (List.mem_reverse.mp hc))]; decide, by rw [sgl_len]; exact htot, sD _ _ hT, sD _ _ hT2, fun q1 H1 lds s1 n1 hly => ?_⟩
      have s01 := sD.trans s1
      refine ⟨q1, lds, sgl ks, x, rfl, hly, szs_of (sgl_kep hok.kep) hx (by rw [sgl_len]; exact htot), by rw [sgl_len]; omega, s01 _ _ hT2, fun h5 p1 H2 s2 n2 hw => ?_, fun h5 H2 s2 => e2 h5 H2 (s01.trans s2)⟩
      have s02 := s01.trans s2
      have q := q h5
      have eh : hist ks x = (srtW (ways (backM (sgl ks) (sgl ks).length) x)).map fun v => (v.1, v.2.map (·.1)) := rfl
      have wl : ∀ v ∈ srtW (ways (backM (sgl ks) (sgl ks).length) x), v.2.length ≤ 60 := fun v hv => by
        rw [ways_sts ((srtW_perm _).mem_iff.mp hv), backM_len _ _ (Nat.le_refl _), sgl_len]
        exact h60
      have ln : (srtW (ways (backM (sgl ks) (sgl ks).length) x)).length ≤ 500 := by rw [(srtW_perm _).length_eq]; exact h5
      rw [eh] at q
      generalize srtW (ways (backM (sgl ks) (sgl ks).length) x) = ws at hw q wl ln
      obtain ⟨as, ha, hws⟩ := hw
      have la : as.length = ws.length := hws.length
      refine ⟨.ref p1, rfl, p1, rfl, ⟨_, SqL.of ha⟩, fun D2 nD2 => ⟨fun i m H' => m = ws.length - i ∧ i ≤ ws.length ∧ PvA (HisO H) H2 D2 ((ws.take i).map fun v => (v.1, v.2.map (·.1))) H', ⟨_, rfl, Nat.zero_le _, PvA.zero nD2⟩, fun i m H' ⟨hm, hi, pw⟩ => ?_⟩⟩
      by_cases hlt : i < ws.length
      · refine .inr ⟨⟨_, _, SqL.of (pw.s _ _ ha), List.getElem?_eq_getElem (by rw [List.length_map]; omega)⟩, fun H' => PvA (HisO H) H2 D2 ((ws.take (i + 1)).map fun v => (v.1, v.2.map (·.1))) H', fun H4 p4 => ⟨ws.length - (i + 1), by omega, rfl, hlt, p4⟩, fun y H4 hy => ?_⟩
        obtain ⟨rfl, hy⟩ := hy
        obtain ⟨a2, hj', rfl, q2, h2, hst⟩ := LO.at_ hws (hy _ (SqL.of (pw.s _ _ ha)))
        have wl2 := wl _ (List.getElem_mem hj')
        refine ⟨a2, _, rfl, SqT.of (pw.s _ _ h2), rfl, _, _, rfl, _, _, rfl, rfl, rfl, ?_⟩
        refine ⟨.int (ws[i].1 : Nat), rfl, .ref q2, rfl, q2, ws[i].2, rfl, lst_of (LO.mo stpO_mo (.of pw.s) hst), by omega, fun p5 H5 s5 n5 h5' => ⟨by show 2 ≤ 16777216; decide, fun p6 n6 => ?_⟩⟩
        have s6 : Same H5 (upd H5 p6 (.tup [V.int (ws[i].1 : Nat), .ref p5])) := sameN n6
        have at6 : upd H5 p6 (.tup [V.int (ws[i].1 : Nat), .ref p5]) p6 = some (.tup [V.int (ws[i].1 : Nat), .ref p5]) := upd_same
        generalize upd H5 p6 (.tup [V.int (ws[i].1 : Nat), .ref p5]) = H6 at s6 at6
        obtain ⟨acD, hD4, _⟩ := pw.d
        have n1 : p5 ≠ D2 := fun e => by rw [e, hD4] at n5; cases n5
        have n2' : p6 ≠ D2 := fun e => by rw [e, s5 _ _ hD4] at n6; cases n6
        obtain ⟨acc, f1, f2, f3⟩ := pw.ext hisO_mo nD2 (s5.trans s6) (q := p6) (b := (ws[i].1, ws[i].2.map (·.1))) (by rw [List.length_map, List.length_take]; omega) ⟨p5, by rw [hid_ne n2']; exact at6, by show hid D2 H6 p5 = _; rw [hid_ne n1]; exact s6 _ _ h5', s02.free (pw.s.free (s5.free n6)), s02.free (pw.s.free n5)⟩
        refine ⟨acc, f1, f2, ?_⟩
        rw [List.take_add_one, List.getElem?_eq_getElem hj', List.map_append]
        exact f3
      · have ei : i = ws.length := by omega
        subst ei
        refine .inl ⟨⟨_, SqL.of (pw.s _ _ ha), by rw [List.length_map, la]; exact Nat.le_refl _⟩, ?_⟩
        rw [List.take_length] at pw
        exact q D2 H' (s02.trans pw.s) (s02.free nD2) (pw.fin hisO_mo)

end
end K34
end

section
set_option Elab.async false
set_option linter.all false
set_option maxHeartbeats 1000000
namespace Ma
/-! uses of one liquid -/
def b2n (u : Bool) : Nat := if u then 1 else 0
def rowU (us : List Bool) : List Nat := us.map b2n
structure Led (a b : Int) (q : Int × Int) : Prop where
  t0 : 0 ≤ q.1
  tb : q.1 ≤ q.2
  b1 : 1 ≤ q.2
theorem Led.next {a b : Int} {q : Int × Int} (k : Kep a b) (L : Led a b q) (u : Bool) : Led a b (a * q.1 + (b2n u : Nat) * ((b - a) * q.2), q.2 * b) := by
  have k1 := k.a1
  have k2 := k.ab
  have t0 := L.t0
  have tb := L.tb
  have b1 := L.b1
  have m1 : 0 ≤ a * q.1 := Int.mul_nonneg (by omega) t0
  have m2 : a * q.1 ≤ a * q.2 := Int.mul_le_mul_of_nonneg_left tb (by omega)
  have m3 : 0 ≤ (b - a) * q.2 := Int.mul_nonneg (by omega) (by omega)
  have m4 : a * q.2 + (b - a) * q.2 = q.2 * b := by rw [← Int.add_mul, Int.mul_comm q.2 b]; congr 1; omega
  have m5 : q.2 * 1 ≤ q.2 * b := Int.mul_le_mul_of_nonneg_left (by omega) (by omega)
  cases u with
  | false =>
    show Led a b (a * q.1 + 0 * _, _)
    rw [Int.zero_mul, Int.add_zero]
    exact ⟨m1, by show a * q.1 ≤ q.2 * b; omega, by show 1 ≤ q.2 * b; omega⟩
  | true =>
    show Led a b (a * q.1 + 1 * _, _)
    rw [Int.one_mul]
    exact ⟨by show 0 ≤ a * q.1 + (b - a) * q.2; omega, by show a * q.1 + (b - a) * q.2 ≤ q.2 * b; omega, by show 1 ≤ q.2 * b; omega⟩
/-- a fraction without a common divisor -/
def frz (q : Int × Int) : Int × Int := (q.1 / ((Nat.gcd q.1.natAbs q.2.natAbs : Nat) : Int), q.2 / ((Nat.gcd q.1.natAbs q.2.natAbs : Nat) : Int))
end Ma
end

section
set_option Elab.async false
set_option linter.all false
set_option maxHeartbeats 1000000
/-! The limit of a row: the content that the row leads back to. -/
namespace Ma
theorem plain_prop {xs ys : List Int} {p q : Int} (hx : Amt xs) (hy : Amt ys) (hp : 0 < p) (hq : 0 < q) (h : (xs.map fun n => p * n) = ys.map fun n => q * n) : plain xs = plain ys := by
  rw [← plain_scale hp (gcdN_pos hx), h, plain_scale hq (gcdN_pos hy)]
/-- the numbers behind i liquids of a row, undivided -/
def lu (k : Nat) (a b : Int) (cs : List Nat) : Nat → List Int
  | 0 => List.replicate k 0
  | i + 1 => ((lu k a b cs i).map fun n => n * a).set (cs.getD i 0) ((lu k a b cs i).getD (cs.getD i 0) 0 * a + b ^ i)
def lim (k : Nat) (a b : Int) (cs : List Nat) : List Int := plain (lu k a b cs cs.length)
theorem lu_len (k : Nat) (a b : Int) (cs : List Nat) : ∀ i, (lu k a b cs i).length = k
  | 0 => List.length_replicate
  | i + 1 => by
    unfold lu
    rw [List.length_set, List.length_map, lu_len k a b cs i]
theorem lu_get {k : Nat} {a b : Int} {cs : List Nat} {i s : Nat} (hs : s < k) : (lu k a b cs (i + 1)).getD s 0 = (lu k a b cs i).getD s 0 * a + if s = cs.getD i 0 then b ^ i else 0 := by
  have hl := lu_len k a b cs i
  show (((lu k a b cs i).map fun n => n * a).set (cs.getD i 0) ((lu k a b cs i).getD (cs.getD i 0) 0 * a + b ^ i)).getD s 0 = _
  rw [List.getD_eq_getElem?_getD, List.getElem?_set]
  by_cases h : cs.getD i 0 = s
  · rw [if_pos h, if_pos h.symm, if_pos (by rw [List.length_map, hl, h]; exact hs), h]
    rfl
  · rw [if_neg h, if_neg (fun z => h z.symm), List.getElem?_map, List.getD_eq_getElem?_getD, List.getElem?_eq_getElem (by rw [hl]; exact hs)]
    show _ * a = _ * a + 0
    rw [Int.add_zero]
    rfl
theorem lu_nn {k : Nat} {a b : Int} {cs : List Nat} (ha : 0 ≤ a) (hb : 0 ≤ b) : ∀ i, ∀ n ∈ lu k a b cs i, 0 ≤ n
  | 0 => fun n hn => by rw [(List.mem_replicate.mp hn).2]; exact Int.le_refl 0
  | i + 1 => fun n hn => by
    obtain ⟨s, hs, e⟩ := mem_at hn
    rw [lu_len] at hs
    rw [← e, lu_get hs]
    have h1 : 0 ≤ (lu k a b cs i).getD s 0 := lu_nn ha hb i _ (getD_in (by rw [lu_len]; exact hs))
    have h2 := Int.mul_nonneg h1 ha
    have h3 : 0 ≤ b ^ i := Int.pow_nonneg hb
    split <;> omega
theorem sum_rep0 : ∀ k : Nat, (List.replicate k (0 : Int)).sum = 0
  | 0 => rfl
  | k + 1 => by rw [List.replicate_succ, List.sum_cons, sum_rep0 k]; rfl
theorem lu_sum {k : Nat} {a b : Int} {cs : List Nat} {i : Nat} (h : cs.getD i 0 < k) : (lu k a b cs (i + 1)).sum = (lu k a b cs i).sum * a + b ^ i := by
  have hl := lu_len k a b cs i
  show (((lu k a b cs i).map fun n => n * a).set (cs.getD i 0) ((lu k a b cs i).getD (cs.getD i 0) 0 * a + b ^ i)).sum = _
  rw [sum_set _ _ _ (by rw [List.length_map, hl]; exact h), sum_map_mul, map_getD (by rw [hl]; exact h)]
  omega
/-- (b - a) times the sum -/
theorem lu_geo {k : Nat} {a b : Int} {cs : List Nat} : ∀ i, (∀ j, j < i → cs.getD j 0 < k) → (b - a) * (lu k a b cs i).sum = b ^ i - a ^ i
  | 0, _ => by
    show (b - a) * (List.replicate k (0 : Int)).sum = _
    rw [sum_rep0, Int.mul_zero, Int.pow_zero, Int.pow_zero]
    rfl
  | i + 1, h => by
    have e := lu_geo (k := k) (a := a) (b := b) i fun j hj => h j (by omega)
    rw [lu_sum (h i (by omega)), Int.mul_add, ← Int.mul_assoc, e, Int.pow_succ, Int.pow_succ, Int.sub_mul, Int.sub_mul, Int.mul_comm b (b ^ i), Int.mul_comm a (b ^ i)]
    omega
theorem lu_pos {k : Nat} {a b : Int} {cs : List Nat} (ha : 0 ≤ a) (hb : 0 < b) {i : Nat} (h : cs.getD i 0 < k) : 0 < (lu k a b cs (i + 1)).sum := by
  rw [lu_sum h]
  have h1 := Int.mul_nonneg (sum_nn (lu_nn (k := k) (cs := cs) ha (Int.le_of_lt hb) i)) ha
  have h2 : 0 < b ^ i := Int.pow_pos hb
  omega
structure Lro (k : Nat) (a b : Int) (cs : List Nat) : Prop where
  k1 : 1 ≤ k
  k8 : k ≤ 8
  kep : Kep a b
  ne : 0 < cs.length
  c60 : cs.length ≤ 60
  liq : ∀ c ∈ cs, c < k
theorem Lro.at_ {k : Nat} {a b : Int} {cs : List Nat} (R : Lro k a b cs) {j : Nat} (hj : j < cs.length) : cs.getD j 0 < k := by
  rw [List.getD_eq_getElem?_getD, List.getElem?_eq_getElem hj]
  exact R.liq _ (List.getElem_mem hj)
theorem Lro.amt_i {k : Nat} {a b : Int} {cs : List Nat} (R : Lro k a b cs) {i : Nat} (h1 : 0 < i) (hi : i ≤ cs.length) : Amt (lu k a b cs i) := by
  have ha := R.kep.a1
  have hb := R.kep.ab
  obtain ⟨j, rfl⟩ : ∃ j, i = j + 1 := ⟨i - 1, by omega⟩
  exact ⟨lu_nn (by omega) (by omega) _, lu_pos (by omega) (by omega) (R.at_ (by omega))⟩
theorem Lro.amt {k : Nat} {a b : Int} {cs : List Nat} (R : Lro k a b cs) : Amt (lu k a b cs cs.length) := R.amt_i R.ne (Nat.le_refl _)
theorem Lro.con {k : Nat} {a b : Int} {cs : List Nat} (R : Lro k a b cs) : Con (lim k a b cs) := by
  have := R.k1
  have := R.k8
  exact plain_con R.amt (by rw [lu_len]; omega) (by rw [lu_len]; omega)
theorem Lro.geo {k : Nat} {a b : Int} {cs : List Nat} (R : Lro k a b cs) {i : Nat} (hi : i ≤ cs.length) : (b - a) * (lu k a b cs i).sum = b ^ i - a ^ i := lu_geo i fun j hj => R.at_ (by omega)
theorem pow_mono {x y : Int} (hx : 0 ≤ x) (h : x ≤ y) : ∀ i : Nat, x ^ i ≤ y ^ i
  | 0 => by rw [Int.pow_zero, Int.pow_zero]; exact Int.le_refl 1
  | i + 1 => by
    rw [Int.pow_succ, Int.pow_succ]
    exact Int.le_trans (Int.mul_le_mul_of_nonneg_right (pow_mono hx h i) hx) (Int.mul_le_mul_of_nonneg_left h (Int.pow_nonneg (by omega)))
theorem Lro.le_pow {k : Nat} {a b : Int} {cs : List Nat} (R : Lro k a b cs) {i : Nat} (hi : i ≤ cs.length) : (lu k a b cs i).sum ≤ b ^ i := by
  have ha := R.kep.a1
  have hb := R.kep.ab
  have e := R.geo hi
  have h1 : 0 ≤ a ^ i := Int.pow_nonneg (by omega)
  have h2 := sum_nn (lu_nn (k := k) (cs := cs) (show 0 ≤ a by omega) (show 0 ≤ b by omega) i)
  have h3 : 1 * (lu k a b cs i).sum ≤ (b - a) * (lu k a b cs i).sum := Int.mul_le_mul_of_nonneg_right (by omega) h2
  omega
theorem hund60 (i : Nat) (h : i ≤ 60) : (100 : Int) ^ i < 2 ^ 420 := by
  have h1 : (100 : Nat) ^ i ≤ 100 ^ 60 := Nat.pow_le_pow_right (by decide) h
  have h2 : (100 : Nat) ^ 60 < 2 ^ 420 := by decide +kernel
  have h3 : (100 : Nat) ^ i < 2 ^ 420 := Nat.lt_of_le_of_lt h1 h2
  exact_mod_cast h3
theorem Lro.small_i {k : Nat} {a b : Int} {cs : List Nat} (R : Lro k a b cs) {i : Nat} (hi : i ≤ cs.length) : (lu k a b cs i).sum < 2 ^ 420 := by
  have ha := R.kep.a1
  have hb := R.kep.ab
  have h60 := R.c60
  exact Int.lt_of_le_of_lt (Int.le_trans (R.le_pow hi) (pow_mono (by omega) R.kep.b100 i)) (hund60 i (by omega))
theorem Lro.small {k : Nat} {a b : Int} {cs : List Nat} (R : Lro k a b cs) : (lim k a b cs).sum < 2 ^ 420 := Int.lt_of_le_of_lt (plain_sum_le R.amt) (R.small_i (Nat.le_refl _))
/-- what i liquids of the row make of its limit, undivided -/
def lw (k : Nat) (a b : Int) (cs : List Nat) (i : Nat) : List Int :=
  (List.range k).map fun s => a ^ i * (lu k a b cs cs.length).getD s 0 + (b ^ cs.length - a ^ cs.length) * (lu k a b cs i).getD s 0
end Ma
end

section
set_option Elab.async false
set_option linter.all false
set_option maxHeartbeats 1000000
/-! Rows with one limit: rows that are repetitions of one row. -/
namespace Ma
/-! ### rows one behind the other -/
theorem getD_left {xs ys : List Nat} {j : Nat} (h : j < xs.length) : (xs ++ ys).getD j 0 = xs.getD j 0 := by
  rw [List.getD_eq_getElem?_getD, List.getD_eq_getElem?_getD, List.getElem?_append_left h]
/-! ### repetitions -/
def repN (l : List Nat) : Nat → List Nat
  | 0 => []
  | m + 1 => l ++ repN l m
theorem repN_len (l : List Nat) : ∀ m, (repN l m).length = m * l.length
  | 0 => by simp [repN]
  | m + 1 => by rw [repN, List.length_append, repN_len l m, Nat.succ_mul, Nat.add_comm]
/-! ### a row turned about -/
/-! ### the first liquid is read modulo b -/
/-! ### the row as a row without end -/
def ext (cs : List Nat) (i : Nat) : Nat := cs.getD (i % cs.length) 0
/-! ### periods -/
def Per (c : Nat → Nat) (s : Nat) : Prop := ∀ i, c (i + s) = c i
theorem Per.mul {c : Nat → Nat} {s : Nat} (h : Per c s) : ∀ m, Per c (m * s)
  | 0 => fun i => by rw [Nat.zero_mul, Nat.add_zero]
  | m + 1 => fun i => by rw [Nat.succ_mul, ← Nat.add_assoc, h, h.mul m]
theorem Per.gcd {c : Nat → Nat} : ∀ (s t : Nat), Per c s → Per c t → Per c (Nat.gcd s t) := by
  intro s
  induction s using Nat.strongRecOn with
  | ind s ih =>
    intro t hs ht
    by_cases h0 : s = 0
    · subst h0
      rw [Nat.gcd_zero_left]
      exact ht
    · rw [Nat.gcd_rec]
      have hr : Per c (t % s) := fun i => by
        have e := Nat.div_add_mod t s
        have h1 := ht i
        have h2 := (hs.mul (t / s)) (i + t % s)
        rw [← h2, ← h1]
        congr 1
        rw [Nat.mul_comm] at e
        omega
      exact ih (t % s) (Nat.mod_lt _ (by omega)) s hr hs
theorem ext_per (cs : List Nat) : Per (ext cs) cs.length := fun i => by
  unfold ext
  rw [Nat.add_mod_right]
/-- the row is a repetition of its first s liquids -/
def isR (cs : List Nat) (s : Nat) : Bool := decide (repN (cs.take s) (cs.length / s) = cs)
theorem repN_get {l : List Nat} : ∀ m i, i < m * l.length → (repN l m).getD i 0 = ext l i
  | 0, i, h => by rw [Nat.zero_mul] at h; omega
  | m + 1, i, h => by
    rw [repN]
    by_cases hi : i < l.length
    · rw [getD_left hi]
      unfold ext
      rw [Nat.mod_eq_of_lt hi]
    · have e := repN_get (l := l) m (i - l.length) (by rw [Nat.succ_mul] at h; omega)
      rw [List.getD_eq_getElem?_getD, List.getElem?_append_right (by omega), ← List.getD_eq_getElem?_getD, e]
      have := ext_per l (i - l.length)
      rw [← this]
      congr 1
      omega
theorem nat_ext {xs ys : List Nat} (hl : xs.length = ys.length) (h : ∀ i, i < xs.length → xs.getD i 0 = ys.getD i 0) : xs = ys := by
  refine List.ext_getElem hl fun i h1 h2 => ?_
  have := h i h1
  rw [List.getD_eq_getElem?_getD, List.getD_eq_getElem?_getD, List.getElem?_eq_getElem h1, List.getElem?_eq_getElem h2] at this
  exact this
theorem ext_take {cs : List Nat} {s : Nat} (hp : Per (ext cs) s) (h1 : 0 < s) (h2 : s ≤ cs.length) (i : Nat) : ext (cs.take s) i = ext cs i := by
  have hl : (cs.take s).length = s := by rw [List.length_take]; omega
  have e : ext (cs.take s) i = cs.getD (i % s) 0 := by
    unfold ext
    rw [hl, List.getD_eq_getElem?_getD, List.getD_eq_getElem?_getD, List.getElem?_take, if_pos (Nat.mod_lt _ h1)]
  have e2 := (hp.mul (i / s)) (i % s)
  have e3 : i % s + i / s * s = i := by rw [Nat.mul_comm]; exact Nat.mod_add_div i s
  rw [e3] at e2
  rw [e, e2]
  unfold ext
  rw [Nat.mod_eq_of_lt (a := i % s) (by have := Nat.mod_lt i h1; omega)]
theorem isR_iff {cs : List Nat} {s : Nat} (h1 : 0 < s) (h2 : s ≤ cs.length) : isR cs s = true ↔ s ∣ cs.length ∧ Per (ext cs) s := by
  have hl : (cs.take s).length = s := by rw [List.length_take]; omega
  unfold isR
  rw [decide_eq_true_iff]
  constructor
  · intro h
    have e := congrArg List.length h
    rw [repN_len, hl] at e
    refine ⟨⟨cs.length / s, by rw [Nat.mul_comm]; exact e.symm⟩, ?_⟩
    have e2 : ∀ i, ext cs i = ext (cs.take s) i := fun i => by
      have hm : i % cs.length < cs.length := Nat.mod_lt _ (by omega)
      have e3 := repN_get (l := cs.take s) (cs.length / s) (i % cs.length) (by rw [hl, e]; exact hm)
      rw [h] at e3
      show cs.getD (i % cs.length) 0 = _
      rw [e3]
      have e4 := ((ext_per (cs.take s)).mul (cs.length / s * (i / cs.length))) (i % cs.length)
      rw [← e4]
      congr 1
      rw [hl, Nat.mul_right_comm, e, Nat.mod_add_div]
    intro i
    rw [e2, e2]
    have := ext_per (cs.take s) i
    rw [hl] at this
    exact this
  · rintro ⟨hd, hp⟩
    have e : cs.length / s * s = cs.length := Nat.div_mul_cancel hd
    refine nat_ext (by rw [repN_len, hl, e]) fun i hi => ?_
    rw [repN_len, hl] at hi
    rw [repN_get _ _ (by rw [hl]; exact hi), ext_take hp h1 h2]
    unfold ext
    rw [Nat.mod_eq_of_lt (by rw [← e]; exact hi)]
structure Rl (cs : List Nat) (s : Nat) : Prop where
  pos : 0 < s
  le : s ≤ cs.length
  is : isR cs s = true
  lt : ∀ j, 0 < j → j < s → isR cs j = false
theorem Rl.uniq {cs : List Nat} {s t : Nat} (h : Rl cs s) (g : Rl cs t) : s = t := by
  rcases Nat.lt_trichotomy s t with z | z | z
  · have := g.lt s h.pos z
    rw [h.is] at this
    cases this
  · exact z
  · have := h.lt t g.pos z
    rw [g.is] at this
    cases this
/-- the shortest period divides all of them -/
theorem Rl.min {cs : List Nat} {s t : Nat} (h : Rl cs s) (ht : 0 < t) (hp : Per (ext cs) t) : s ≤ t := by
  have hg := Per.gcd _ _ hp (ext_per cs)
  have h0 : 0 < cs.length := Nat.lt_of_lt_of_le h.pos h.le
  have hgp : 0 < Nat.gcd t cs.length := Nat.gcd_pos_of_pos_left _ ht
  have hgl : Nat.gcd t cs.length ≤ cs.length := Nat.gcd_le_right _ h0
  have hi := (isR_iff hgp hgl).mpr ⟨Nat.gcd_dvd_right .., hg⟩
  have hgt : Nat.gcd t cs.length ≤ t := Nat.gcd_le_left _ ht
  by_cases z : s ≤ Nat.gcd t cs.length
  · omega
  · have := h.lt _ hgp (by omega)
    rw [hi] at this
    cases this
end Ma
end

section
set_option Elab.async false
set_option linter.all false
set_option maxHeartbeats 1000000
/-! Distances to a limit: they shrink by a power each round. -/
namespace Ma
/-! how often -/
/-- s is the least number of steps behind which T * A ^ s is at most U * B ^ s -/
structure Lst (T U A B : Int) (s : Nat) : Prop where
  le : T * A ^ s ≤ U * B ^ s
  lt : ∀ r, r < s → U * B ^ r < T * A ^ r
theorem Lst.uniq {T U A B : Int} {s t : Nat} (h : Lst T U A B s) (g : Lst T U A B t) : s = t := by
  rcases Nat.lt_trichotomy s t with z | z | z
  · have := g.lt s z
    have := h.le
    omega
  · exact z
  · have := h.lt t z
    have := g.le
    omega
end Ma
end

section
set_option Elab.async false
set_option linter.all false
set_option maxHeartbeats 1000000
/-! Histories of whole rows; limits have none. -/
namespace Ma
end Ma
end

section
set_option Elab.async false
set_option linter.all false
set_option maxHeartbeats 1000000
/-! Pots and their pasts. -/
namespace Ma
open Mc
abbrev Past := List (Nat × Int × Int)
def foldP (x : List Int) (p : Past) : List Int := p.foldl (fun y h => step y h.2.1 h.2.2 h.1) x
theorem foldP_app (x : List Int) (p q : Past) : foldP x (p ++ q) = foldP (foldP x p) q := by
  unfold foldP
  rw [List.foldl_append]
structure PaOk (k : Nat) (p : Past) : Prop where
  kep : ∀ h ∈ p, Kep h.2.1 h.2.2
  liq : ∀ h ∈ p, h.1 < k
theorem ones_rev (ks : List (Int × Int)) : ones ks.reverse = (ones ks).reverse := by unfold ones; rw [List.map_reverse]
theorem led_past {k s : Nat} : ∀ (rp : Past), PaOk k rp.reverse → LedK k s (ones (rp.map (·.2))) (rp.reverse.map fun h => (h.1, 0)) (foldP (pur' k s) rp.reverse)
  | [], _ => .nil
  | h :: r, ok => by
    have e : (h :: r).reverse = r.reverse ++ [h] := by rw [List.reverse_cons]
    rw [e] at ok ⊢
    have ih := led_past (k := k) (s := s) r ⟨fun x hx => ok.kep x (List.mem_append_left _ hx), fun x hx => ok.liq x (List.mem_append_left _ hx)⟩
    have hl := ok.liq h (List.mem_append_right _ (List.mem_singleton.mpr rfl))
    rw [List.map_append, foldP_app]
    exact LedK.snoc (c := [h.2]) (i := 0) ih (by show 0 < 1; omega) hl
theorem led_past' {k s : Nat} {p : Past} (ok : PaOk k p) : LedK k s (ones (p.map (·.2)).reverse) (p.map fun h => (h.1, 0)) (foldP (pur' k s) p) := by
  have := led_past (k := k) (s := s) p.reverse (by rw [List.reverse_reverse]; exact ok)
  rw [List.reverse_reverse, List.map_reverse] at this
  exact this
theorem ones_kep {ks : List (Int × Int)} (h : ∀ q ∈ ks, Kep q.1 q.2) : Chs (ones ks.reverse) := ones_chs fun q hq => h q (List.mem_reverse.mp hq)
/-- the pot's own history is one of the ways -/
theorem past_ways {k s : Nat} {p : Past} (hs : s < k) (h8 : k ≤ 8) (ok : PaOk k p) : (s, p.map fun h => (h.1, 0)) ∈ ways (ones (p.map (·.2)).reverse) (foldP (pur' k s) p) :=
  led_ways hs h8 (led_past' ok) (ones_kep fun q hq => by obtain ⟨h, hh, rfl⟩ := List.mem_map.mp hq; exact ok.kep h hh)
/-- at most one thing before, where one history is left -/
theorem undL_one {q : Int × Int} {r : List (Int × Int)} {x : List Int} (hk : Kep q.1 q.2) (hr : ∀ p ∈ r, Kep p.1 p.2) (hx : Con x) (ho : oneR (q :: r) = true) : (undL [q] (ones r) x).length ≤ 1 := by
  unfold oneR at ho
  rw [Bool.and_eq_true, Bool.not_eq_true'] at ho
  have same : ∀ p ∈ undL [q] (ones r) x, ∀ p' ∈ undL [q] (ones r) x, p.1 = p'.1 := fun p hp p' hp' => by
    obtain ⟨h1, h2, h3, h4, h5⟩ := mem_undL.mp hp
    obtain ⟨g1, g2, g3, g4, g5⟩ := mem_undL.mp hp'
    have i0 : p.1.2 = 0 := by have : [q].length = 1 := rfl; omega
    have j0 : p'.1.2 = 0 := by have : [q].length = 1 := rfl; omega
    rw [i0] at h3 h5
    rw [j0] at g3 g5
    have eq : shAt [q] 0 = q := rfl
    rw [eq] at h3 h5 g3 g5
    have el : p.1.1 = p'.1.1 := by
      by_cases h2' : 2 * q.1 < q.2
      · exact last_most hx hk h2' h2 g2 h3 g3
      · have h6 := ho.1
        rw [decide_eq_true (show q.2 ≤ 2 * q.1 by omega), Bool.true_and, Bool.or_eq_false_iff] at h6
        have a1 : q.1 ≠ 1 := of_decide_eq_false h6.1
        have k1 := hk.a1
        have gg : gt1 q.1.natAbs (prodW r).natAbs = false := by rw [gt1_prod (by omega)]; exact h6.2
        have g0 : Nat.gcd q.1.natAbs (prodW r).natAbs = 1 := by
          have h4 := of_decide_eq_false gg
          have h5 := Nat.gcd_pos_of_pos_left (prodW r).natAbs (show 0 < q.1.natAbs by omega)
          omega
        have gs : ∀ z : List Int, reach (ones r) z = true → Nat.gcd q.1.natAbs z.sum.natAbs = 1 := fun z hz => by
          unfold reach at hz
          rw [Bool.and_eq_true, List.any_eq_true] at hz
          obtain ⟨_, v, hv, e⟩ := hz
          rw [prods_ones, List.mem_singleton] at hv
          have hd := Int.dvd_of_emod_eq_zero (of_decide_eq_true e)
          rw [hv] at hd
          exact Nat.Coprime.coprime_dvd_right (Int.natAbs_dvd_natAbs.mpr hd) g0
        have c1 := befo_con hx hk h2 h3
        have c2 := befo_con hx hk g2 g3
        have s1 := step_befo hx hk h2 h3
        have s2 := step_befo hx hk g2 g3
        have o1 := last_odd c1 hk (by rw [befo_len]; exact h2) a1 (gs _ (h5 ▸ h4))
        have o2 := last_odd c2 hk (by rw [befo_len]; exact g2) a1 (gs _ (g5 ▸ g4))
        rw [s1] at o1
        rw [s2] at o2
        refine Classical.byContradiction fun hne => ?_
        exact o1.2 (o2.1 _ (by rw [befo_len]; exact h2) hne)
    exact Prod.ext el (by rw [i0, j0])
  have nd := undL_nodup [q] (ones r) x
  cases hu : undL [q] (ones r) x with
  | nil => exact Nat.zero_le _
  | cons p l =>
    cases l with
    | nil => exact Nat.le_refl _
    | cons p' l =>
      rw [hu, List.map_cons, List.map_cons, List.nodup_cons] at nd
      refine absurd ?_ nd.1
      have := same p (by rw [hu]; exact List.mem_cons_self) p' (by rw [hu]; exact List.mem_cons_of_mem _ List.mem_cons_self)
      rw [this]
      exact List.mem_cons_self
def sglM (ks : List (Int × Int)) : List Mnu := ks.map fun q => [q]
theorem sglM_get {ks : List (Int × Int)} {m : Nat} (h : m < ks.length) : (sglM ks).getD m [] = [ks[m]] := by
  unfold sglM
  rw [List.getD_eq_getElem?_getD, List.getElem?_map, List.getElem?_eq_getElem h]
  rfl
theorem sglM_back (ks : List (Int × Int)) (m : Nat) : backM (sglM ks) m = ones (ks.take m).reverse := by
  unfold backM sglM ones
  rw [← List.map_take, List.map_reverse]
theorem oneR_tail {r : List (Int × Int)} : ∀ p : List (Int × Int), oneR (p ++ r) = true → oneR r = true
  | [], h => h
  | q :: p, h => by
    rw [List.cons_append] at h
    unfold oneR at h
    rw [Bool.and_eq_true] at h
    exact oneR_tail p h.2
/-- how many contents at each layer: one, or k times as many at each step -/
theorem ends_sgl {ks : List (Int × Int)} {x : List Int} (hk : ∀ q ∈ ks, Kep q.1 q.2) (hx : Con x) : ∀ d, d ≤ ks.length → (ends (sglM ks) x d).length ≤ x.length ^ d ∧ (dueB ks = true → (ends (sglM ks) x d).length ≤ 1)
  | 0, _ => ⟨by show 1 ≤ x.length ^ 0; rw [Nat.pow_zero]; exact Nat.le_refl _, fun _ => Nat.le_refl _⟩
  | d + 1, hd => by
    obtain ⟨i1, i2⟩ := ends_sgl hk hx d (by omega)
    have hl : (sglM ks).length = ks.length := List.length_map ..
    have kM : ∀ c ∈ sglM ks, ∀ q ∈ c, Kep q.1 q.2 := fun c hc q hq => by
      obtain ⟨p, hp, rfl⟩ := List.mem_map.mp hc
      rw [List.mem_singleton.mp hq]
      exact hk p hp
    have con := ends_con kM hx d (by omega)
    have hm : ks.length - 1 - d < ks.length := by omega
    have flat : ∀ (n : Nat), (∀ e ∈ ends (sglM ks) x d, (undL [ks[ks.length - 1 - d]] (backM (sglM ks) (ks.length - 1 - d)) e).length ≤ n) → (ends (sglM ks) x (d + 1)).length ≤ (ends (sglM ks) x d).length * n := fun n h => by
      rw [ends_succ]
      unfold nxt
      refine Nat.le_trans len_ddA ?_
      rw [List.length_nil, Nat.zero_add]
      unfold lay
      rw [hl, sglM_get hm]
      generalize ends (sglM ks) x d = es at h
      induction es with
      | nil => simp
      | cons e es ih =>
        rw [List.map_cons, List.flatMap_cons, List.length_append, List.length_map, List.length_cons, Nat.succ_mul]
        have h1 := h e List.mem_cons_self
        have := ih fun e he => h e (List.mem_cons_of_mem _ he)
        dsimp only
        omega
    refine ⟨?_, fun hdu => ?_⟩
    · rw [Nat.pow_succ]
      refine Nat.le_trans (flat x.length fun e he => ?_) (Nat.mul_le_mul_right _ i1)
      have := undL_len [ks[ks.length - 1 - d]] (backM (sglM ks) (ks.length - 1 - d)) e
      rw [(con e he).2] at this
      simpa using this
    · refine Nat.le_trans (flat 1 fun e he => ?_) (by have := i2 hdu; omega)
      rw [sglM_back]
      refine undL_one (hk _ (List.getElem_mem hm)) (fun p hp => hk p (List.mem_of_mem_take (List.mem_reverse.mp hp))) (con e he).1 ?_
      have e1 : ks.take (ks.length - 1 - d) ++ [ks[ks.length - 1 - d]] = ks.take (ks.length - 1 - d + 1) := by
        rw [List.take_add_one, List.getElem?_eq_getElem hm]; rfl
      have e2 : ks[ks.length - 1 - d] :: (ks.take (ks.length - 1 - d)).reverse = (ks.take (ks.length - 1 - d + 1)).reverse := by rw [← e1, List.reverse_append]; rfl
      rw [e2]
      have e3 : ks.reverse = (ks.drop (ks.length - 1 - d + 1)).reverse ++ (ks.take (ks.length - 1 - d + 1)).reverse := by rw [← List.reverse_append, List.take_append_drop]
      refine oneR_tail (ks.drop (ks.length - 1 - d + 1)).reverse ?_
      rw [← e3, ← dueB_rev, List.reverse_reverse]
      exact hdu
theorem tot_sgl {ks : List (Int × Int)} {x : List Int} (hk : ∀ q ∈ ks, Kep q.1 q.2) (hx : Con x) (h60 : ks.length ≤ 60) (h5 : x.length ≤ 5) (hu : ks.length ≤ 8 ∨ dueB ks = true) : tot (sglM ks) x ks.length ≤ 16000000 := by
  have hl : (sglM ks).length = ks.length := List.length_map ..
  have stepT : ∀ d, d < ks.length → tot (sglM ks) x (d + 1) = tot (sglM ks) x d + (ends (sglM ks) x d).length * x.length := fun d hd => by
    show tot (sglM ks) x d + (ends (sglM ks) x d).length * (x.length * ((sglM ks).getD ((sglM ks).length - 1 - d) []).length) = _
    rw [hl, sglM_get (by omega)]
    simp
  rcases hu with h8 | hdu
  · have go : ∀ d, d ≤ ks.length → tot (sglM ks) x d ≤ d * 5 ^ 8 := fun d => by
      induction d with
      | zero => intro _; exact Nat.zero_le _
      | succ d ih =>
        intro hd
        have h1 := ih (by omega)
        rw [stepT d (by omega), Nat.succ_mul]
        have h2 := (ends_sgl hk hx d (by omega)).1
        have h3 : x.length ^ d * x.length ≤ 5 ^ 8 := by
          rw [← Nat.pow_succ]
          exact Nat.le_trans (Nat.pow_le_pow_left h5 _) (Nat.pow_le_pow_right (by decide) (by omega))
        have h4 : (ends (sglM ks) x d).length * x.length ≤ x.length ^ d * x.length := Nat.mul_le_mul_right _ h2
        omega
    have := go ks.length (Nat.le_refl _)
    have : ks.length * 5 ^ 8 ≤ 8 * 5 ^ 8 := Nat.mul_le_mul_right _ h8
    have : 8 * 5 ^ 8 ≤ 16000000 := by decide
    omega
  · have go : ∀ d, d ≤ ks.length → tot (sglM ks) x d ≤ d * 5 := fun d => by
      induction d with
      | zero => intro _; exact Nat.zero_le _
      | succ d ih =>
        intro hd
        have h1 := ih (by omega)
        rw [stepT d (by omega), Nat.succ_mul]
        have h2 := (ends_sgl hk hx d (by omega)).2 hdu
        have h3 : (ends (sglM ks) x d).length * x.length ≤ 1 * x.length := Nat.mul_le_mul_right _ h2
        omega
    have := go ks.length (Nat.le_refl _)
    omega
end Ma
end

section
set_option Elab.async false
set_option linter.all false
set_option maxHeartbeats 1000000
/-! Arrangements: how often each liquid was used, and all rows of so many uses. -/
namespace Ma
theorem getD_ext0 {x y : List Int} (hl : x.length = y.length) (h : ∀ i, i < x.length → x.getD i 0 = y.getD i 0) : x = y := by
  refine List.ext_getElem? fun i => ?_
  by_cases hi : i < x.length
  · have := h i hi
    rw [List.getD_eq_getElem?_getD, List.getD_eq_getElem?_getD, List.getElem?_eq_getElem hi, List.getElem?_eq_getElem (by omega)] at this
    rw [List.getElem?_eq_getElem hi, List.getElem?_eq_getElem (by omega)]
    exact congrArg some this
  · rw [List.getElem?_eq_none (by omega), List.getElem?_eq_none (by omega)]
theorem set_getD {x : List Int} {c i : Nat} {v : Int} (hc : c < x.length) : (x.set c v).getD i 0 = if i = c then v else x.getD i 0 := by
  rw [List.getD_eq_getElem?_getD, List.getElem?_set]
  by_cases h : c = i
  · rw [if_pos h, if_pos hc, if_pos h.symm]
    rfl
  · rw [if_neg h, if_neg (fun z => h z.symm), ← List.getD_eq_getElem?_getD]
theorem plain_at {ns : List Int} {i : Nat} (hi : i < ns.length) : ((gcdN ns : Nat) : Int) * (plain ns).getD i 0 = ns.getD i 0 := by
  unfold plain
  rw [List.getD_eq_getElem?_getD, List.getElem?_map, List.getD_eq_getElem?_getD, List.getElem?_eq_getElem hi, Int.mul_comm]
  exact plain_mul (List.getElem_mem hi)
def cntU (m : Nat) (us : List Nat) : List Int := (List.range m).map fun i => ((us.count i : Nat) : Int)
theorem cntU_len (m : Nat) (us : List Nat) : (cntU m us).length = m := by unfold cntU; rw [List.length_map, List.length_range]
theorem cntU_get {m i : Nat} (us : List Nat) (h : i < m) : (cntU m us).getD i 0 = ((us.count i : Nat) : Int) := by
  unfold cntU
  rw [List.getD_eq_getElem?_getD, List.getElem?_map, List.getElem?_range h]
  rfl
theorem cntU_nn (m : Nat) (us : List Nat) : ∀ n ∈ cntU m us, 0 ≤ n := fun n hn => by
  obtain ⟨i, _, rfl⟩ := List.mem_map.mp hn
  exact Int.natCast_nonneg _
theorem cntU_cons {m c : Nat} (us : List Nat) (hc : c < m) : cntU m (c :: us) = (cntU m us).set c ((cntU m us).getD c 0 + 1) := by
  refine getD_ext0 (by rw [List.length_set, cntU_len, cntU_len]) fun i hi => ?_
  rw [cntU_len] at hi
  rw [set_getD (by rw [cntU_len]; exact hc), cntU_get _ hi, cntU_get _ hc, cntU_get _ hi, List.count_cons]
  by_cases h : c = i
  · subst h; simp
  · have h2 : (c == i) = false := by simp [h]
    have h3 : ¬ i = c := fun z => h z.symm
    rw [h2, if_neg h3]
    rfl
theorem cntU_perm {m : Nat} {us vs : List Nat} (h : us.Perm vs) : cntU m us = cntU m vs := by
  unfold cntU
  exact List.map_congr_left fun i _ => by rw [h.count_eq]
theorem cntU_snoc {m c : Nat} (us : List Nat) (hc : c < m) : cntU m (us ++ [c]) = (cntU m us).set c ((cntU m us).getD c 0 + 1) := by
  rw [cntU_perm (List.perm_append_comm (l₁ := us) (l₂ := [c]))]
  exact cntU_cons us hc
theorem cntU_sum {m : Nat} : ∀ {us : List Nat}, (∀ u ∈ us, u < m) → (cntU m us).sum = us.length
  | [], _ => by
    unfold cntU
    have : (List.range m).map (fun i => ((([] : List Nat).count i : Nat) : Int)) = (List.range m).map fun _ => (0 : Int) := List.map_congr_left fun i _ => rfl
    rw [this]
    generalize List.range m = l
    induction l with
    | nil => rfl
    | cons a l ih => rw [List.map_cons, List.sum_cons, ih]; rfl
  | u :: us, h => by
    have hu := h u List.mem_cons_self
    have ih := cntU_sum (us := us) fun v hv => h v (List.mem_cons_of_mem _ hv)
    rw [cntU_cons us hu, sum_set _ _ _ (by rw [cntU_len]; exact hu), ih, List.length_cons]
    omega
theorem cntU_amt {m : Nat} {us : List Nat} (h : ∀ u ∈ us, u < m) (h0 : 0 < us.length) : Amt (cntU m us) := ⟨cntU_nn m us, by rw [cntU_sum h]; omega⟩
theorem kep_next {n : Nat} (h0 : 0 < n) (h : n ≤ 99) : Kep (n : Int) ((n : Int) + 1) := by
  refine ⟨by omega, by omega, by omega, ?_⟩
  rw [show ((n : Int) + 1).natAbs = n + 1 by omega, Int.natAbs_natCast]
  have : Nat.gcd n (n + 1) = Nat.gcd n 1 := by rw [Nat.gcd_comm n (n + 1), Nat.gcd_comm n 1, Nat.add_comm, Nat.gcd_add_self_left]
  rw [this, Nat.gcd_one_right]
theorem step_cnt {m c : Nat} {us : List Nat} (h : ∀ u ∈ us, u < m) (hc : c < m) (h8 : m ≤ 8) (h0 : 0 < us.length) (h99 : us.length ≤ 99) : step (plain (cntU m us)) (us.length : Int) ((us.length : Int) + 1) c = plain (cntU m (us ++ [c])) := by
  have A := cntU_amt h h0
  have A' := cntU_amt (m := m) (us := us ++ [c]) (fun u hu => by
    rcases List.mem_append.mp hu with z | z
    · exact h u z
    · rw [List.mem_singleton.mp z]; exact hc) (by rw [List.length_append]; omega)
  have gp := gcdN_pos A
  have cp := plain_con A (by rw [cntU_len]; omega) (by rw [cntU_len]; exact h8)
  have lp : (plain (cntU m us)).length = m := by rw [plain_len, cntU_len]
  have ps := plain_sum A
  rw [cntU_sum h] at ps
  have hcp : c < (plain (cntU m us)).length := by rw [lp]; exact hc
  have pa := pre_amt cp (kep_next h0 h99) hcp
  have key : (pre (plain (cntU m us)) (us.length : Int) ((us.length : Int) + 1) c).map (fun n => ((gcdN (cntU m us) : Nat) : Int) * n) = (cntU m (us ++ [c])).map fun n => (us.length : Int) * n := by
    refine getD_ext0 (by rw [List.length_map, List.length_map, pre_len, lp, cntU_len]) fun i hi => ?_
    rw [List.length_map, pre_len, lp] at hi
    have gm : ∀ (x : List Int) (t : Int), i < x.length → (x.map fun n => t * n).getD i 0 = t * x.getD i 0 := fun x t hx => by
      rw [List.getD_eq_getElem?_getD, List.getElem?_map, List.getD_eq_getElem?_getD, List.getElem?_eq_getElem hx]
      rfl
    rw [gm _ _ (by rw [pre_len, lp]; exact hi), gm _ _ (by rw [cntU_len]; exact hi)]
    have e1 : (pre (plain (cntU m us)) (us.length : Int) ((us.length : Int) + 1) c).getD i 0 = (plain (cntU m us)).getD i 0 * (us.length : Int) + if i = c then (plain (cntU m us)).sum else 0 := by
      rw [List.getD_eq_getElem?_getD, pre_get (by rw [lp]; exact hi)]
      show (plain (cntU m us)).getD i 0 * (us.length : Int) + (if i = c then (((us.length : Int) + 1) - (us.length : Int)) * (plain (cntU m us)).sum else 0) = _
      rw [show ((us.length : Int) + 1) - (us.length : Int) = 1 by omega, Int.one_mul]
    have e2 := plain_at (ns := cntU m us) (i := i) (by rw [cntU_len]; exact hi)
    rw [e1, cntU_snoc us hc, set_getD (by rw [cntU_len]; exact hc), Int.mul_add, ← Int.mul_assoc, e2]
    by_cases hic : i = c
    · subst hic
      rw [if_pos rfl, if_pos rfl, Int.mul_comm _ (plain (cntU m us)).sum, ps, Int.mul_add, Int.mul_one, Int.mul_comm]
    · rw [if_neg hic, if_neg hic, Int.mul_zero, Int.add_zero, Int.mul_comm]
  have s1 := plain_scale (ns := pre (plain (cntU m us)) (us.length : Int) ((us.length : Int) + 1) c) (t := ((gcdN (cntU m us) : Nat) : Int)) (by omega) (gcdN_pos pa)
  have s2 := plain_scale (ns := cntU m (us ++ [c])) (t := (us.length : Int)) (by omega) (gcdN_pos A')
  unfold step
  rw [← s1, key, s2]
def kq (n : Nat) : List (Int × Int) := (List.range n).map fun (i : Nat) => ((i : Int) + 1, (i : Int) + 2)
theorem kq_len (n : Nat) : (kq n).length = n := by unfold kq; rw [List.length_map, List.length_range]
theorem kq_get {n i : Nat} (h : i < n) : (kq n)[i]? = some ((i : Int) + 1, (i : Int) + 2) := by
  unfold kq
  rw [List.getElem?_map, List.getElem?_range h]
  rfl
theorem kq_kep {n : Nat} (h : n ≤ 98) : ∀ q ∈ kq n, Kep q.1 q.2 := fun q hq => by
  obtain ⟨i, hi, rfl⟩ := List.mem_map.mp hq
  have hi := List.mem_range.mp hi
  have := kep_next (n := i + 1) (by omega) (by omega)
  rw [show ((i + 1 : Nat) : Int) = (i : Int) + 1 by omega] at this
  rw [show (i : Int) + 1 + 1 = (i : Int) + 2 by omega] at this
  exact this
theorem cnt_one {m s : Nat} (hs : s < m) (h8 : m ≤ 8) : plain (cntU m [s]) = pur' m s := by
  have e : cntU m [s] = pur' m s := by
    refine getD_ext0 (by rw [cntU_len, pur'_len]) fun i hi => ?_
    rw [cntU_len] at hi
    rw [cntU_get _ hi]
    unfold pur'
    rw [set_getD (by rw [List.length_replicate]; exact hs), List.count_singleton]
    by_cases h : i = s
    · subst h; simp
    · rw [if_neg h, List.getD_eq_getElem?_getD, List.getElem?_replicate, if_pos hi]
      have h2 : (s == i) = false := beq_eq_false_iff_ne.mpr fun z => h z.symm
      rw [h2]
      rfl
  rw [e]
  exact plain_of_one (pur'_con hs h8).g
theorem fold_cnt {m s : Nat} {cs : List Nat} (hs : s < m) (h8 : m ≤ 8) (hc : ∀ c ∈ cs, c < m) (hl : cs.length ≤ 90) : ∀ i, i ≤ cs.length → foldP (pur' m s) ((cs.zip (kq cs.length)).take i) = plain (cntU m (s :: cs.take i))
  | 0, _ => (cnt_one hs h8).symm
  | i + 1, h => by
    have ih := fold_cnt hs h8 hc hl i (by omega)
    have hz : (cs.zip (kq cs.length))[i]? = some (cs[i], ((i : Int) + 1, (i : Int) + 2)) := by
      rw [List.getElem?_zip_eq_some]
      exact ⟨List.getElem?_eq_getElem (by omega), kq_get (by omega)⟩
    have ht : ∀ u ∈ s :: cs.take i, u < m := fun u hu => by
      rcases List.mem_cons.mp hu with z | z
      · rw [z]; exact hs
      · exact hc u (List.mem_of_mem_take z)
    have hlen : (s :: cs.take i).length = i + 1 := by rw [List.length_cons, List.length_take]; omega
    have st := step_cnt (us := s :: cs.take i) (c := cs[i]) ht (hc _ (List.getElem_mem _)) h8 (by omega) (by omega)
    rw [hlen, show ((i + 1 : Nat) : Int) = (i : Int) + 1 by omega, show (i : Int) + 1 + 1 = (i : Int) + 2 by omega] at st
    rw [List.take_add_one, hz, foldP_app, ih]
    rw [show List.take (i + 1) cs = cs.take i ++ [cs[i]] by rw [List.take_add_one, List.getElem?_eq_getElem (by omega)]; rfl]
    exact st
theorem cnt_unique {m : Nat} {us vs : List Nat} (hu : ∀ u ∈ us, u < m) (hv : ∀ v ∈ vs, v < m) (hl : us.length = vs.length) (h0 : 0 < us.length) (e : plain (cntU m us) = plain (cntU m vs)) : cntU m us = cntU m vs := by
  have A := cntU_amt hu h0
  have B := cntU_amt hv (by omega)
  have p1 := plain_sum A
  have p2 := plain_sum B
  rw [cntU_sum hu] at p1
  rw [cntU_sum hv, ← e, ← hl] at p2
  have hp : 0 < (plain (cntU m us)).sum := by
    refine Int.not_le.mp fun z => ?_
    have := Int.mul_nonneg (show 0 ≤ -(plain (cntU m us)).sum by omega) (show (0 : Int) ≤ ((gcdN (cntU m us) : Nat) : Int) by omega)
    rw [Int.neg_mul, p1] at this
    omega
  have hg : ((gcdN (cntU m us) : Nat) : Int) = ((gcdN (cntU m vs) : Nat) : Int) := Int.eq_of_mul_eq_mul_left (Int.ne_of_gt hp) (p1.trans p2.symm)
  refine getD_ext0 (by rw [cntU_len, cntU_len]) fun i hi => ?_
  have hi2 : i < (cntU m vs).length := by rw [cntU_len] at hi ⊢; exact hi
  rw [← plain_at hi, ← plain_at hi2, e, hg]
/-- all rows of so many uses, ascending -/
def arr : Nat → List Int → List (List Nat)
  | 0, _ => [[]]
  | n + 1, c => (List.range c.length).flatMap fun i => if 0 < c.getD i 0 then (arr n (c.set i (c.getD i 0 - 1))).map (i :: ·) else []
theorem sum_allz : ∀ {c : List Int}, (∀ x ∈ c, 0 ≤ x) → c.sum = 0 → ∀ x ∈ c, x = 0
  | [], _, _ => fun x hx => by cases hx
  | a :: r, h, e => fun x hx => by
    have h0 := h a List.mem_cons_self
    have hr := sum_nn (ns := r) fun y hy => h y (List.mem_cons_of_mem _ hy)
    rw [List.sum_cons] at e
    rcases List.mem_cons.mp hx with z | z
    · omega
    · exact sum_allz (fun y hy => h y (List.mem_cons_of_mem _ hy)) (by omega) x z
theorem dec_nn {c : List Int} {i : Nat} (h : ∀ x ∈ c, 0 ≤ x) (hp : 0 < c.getD i 0) : ∀ x ∈ c.set i (c.getD i 0 - 1), 0 ≤ x := fun x hx => by
  rcases List.mem_or_eq_of_mem_set hx with z | z
  · exact h x z
  · omega
theorem dec_sum {c : List Int} {i : Nat} (hi : i < c.length) : (c.set i (c.getD i 0 - 1)).sum = c.sum - 1 := by
  rw [sum_set _ _ _ hi]; omega
theorem mem_arr : ∀ {n : Nat} {c : List Int}, (∀ x ∈ c, 0 ≤ x) → c.sum = n → ∀ r : List Nat, r ∈ arr n c ↔ (∀ u ∈ r, u < c.length) ∧ cntU c.length r = c
  | 0, c, h, e, r => by
    have hz := sum_allz h (by rw [e]; rfl)
    show r ∈ [[]] ↔ _
    rw [List.mem_singleton]
    constructor
    · rintro rfl
      refine ⟨fun u hu => (by cases hu), getD_ext0 (by rw [cntU_len]) fun i hi => ?_⟩
      rw [cntU_len] at hi
      rw [cntU_get _ hi, List.getD_eq_getElem?_getD, List.getElem?_eq_getElem hi]
      exact (hz _ (List.getElem_mem hi)).symm
    · rintro ⟨h1, h2⟩
      have := cntU_sum h1
      rw [h2, e] at this
      exact List.eq_nil_of_length_eq_zero (by omega)
  | n + 1, c, h, e, r => by
    unfold arr
    rw [List.mem_flatMap]
    constructor
    · rintro ⟨i, hi, hr⟩
      have hi := List.mem_range.mp hi
      split at hr
      · rename_i hp
        obtain ⟨r', hr', rfl⟩ := List.mem_map.mp hr
        obtain ⟨h1, h2⟩ := (mem_arr (dec_nn h hp) (by rw [dec_sum hi, e]; omega) r').mp hr'
        rw [List.length_set] at h1 h2
        refine ⟨fun u hu => ?_, ?_⟩
        · rcases List.mem_cons.mp hu with z | z
          · rw [z]; exact hi
          · exact h1 u z
        · rw [cntU_cons _ hi, h2]
          refine getD_ext0 (by rw [List.length_set, List.length_set]) fun k hk => ?_
          rw [set_getD (by rw [List.length_set]; exact hi), set_getD hi, set_getD hi]
          by_cases hki : k = i
          · subst hki; rw [if_pos rfl, if_pos rfl]; omega
          · rw [if_neg hki, if_neg hki]
      · cases hr
    · rintro ⟨h1, h2⟩
      cases r with
      | nil =>
        have := cntU_sum h1
        rw [h2, e] at this
        simp at this
        omega
      | cons i r' =>
        have hi := h1 i List.mem_cons_self
        have h1' : ∀ u ∈ r', u < c.length := fun u hu => h1 u (List.mem_cons_of_mem _ hu)
        rw [cntU_cons _ hi] at h2
        have hc : ∀ k, c.getD k 0 = if k = i then (cntU c.length r').getD i 0 + 1 else (cntU c.length r').getD k 0 := fun k => by
          conv => lhs; rw [← h2]
          rw [set_getD (by rw [cntU_len]; exact hi)]
        have hii := hc i
        rw [if_pos rfl, cntU_get _ hi] at hii
        have hp : 0 < c.getD i 0 := by omega
        refine ⟨i, List.mem_range.mpr hi, ?_⟩
        rw [if_pos hp]
        refine List.mem_map.mpr ⟨r', (mem_arr (dec_nn h hp) (by rw [dec_sum hi, e]; omega) r').mpr ⟨by rw [List.length_set]; exact h1', ?_⟩, rfl⟩
        rw [List.length_set]
        refine getD_ext0 (by rw [cntU_len, List.length_set]) fun k hk => ?_
        rw [cntU_len] at hk
        rw [set_getD hi, hc k]
        by_cases hki : k = i
        · subst hki; rw [if_pos rfl, hc k, if_pos rfl]; omega
        · rw [if_neg hki, if_neg hki]
/-- rows in their order -/
def rl : List Nat → List Nat → Bool
  | i :: a, j :: b => decide (i < j) || (decide (i = j) && rl a b)
  | [], _ => false
  | _ :: _, [] => false
theorem arr_srt : ∀ (n : Nat) (c : List Int), (arr n c).Pairwise fun a b => rl a b = true
  | 0, _ => List.pairwise_singleton _ _
  | n + 1, c => by
    unfold arr
    refine List.pairwise_flatMap.mpr ⟨fun i _ => ?_, ?_⟩
    · split
      · refine List.Pairwise.map _ (fun a b hab => ?_) (arr_srt n _)
        show (decide (i < i) || (decide (i = i) && rl a b)) = true
        rw [hab]; simp
      · exact .nil
    · refine List.Pairwise.imp ?_ List.pairwise_lt_range
      intro i j hij x hx y hy
      split at hx
      · split at hy
        · obtain ⟨a, _, rfl⟩ := List.mem_map.mp hx
          obtain ⟨b, _, rfl⟩ := List.mem_map.mp hy
          show (decide (i < j) || _) = true
          rw [decide_eq_true hij]; rfl
        · cases hy
      · cases hx
/-- how many ways there are to choose -/
def ch : Nat → Nat → Nat
  | _, 0 => 1
  | 0, _ + 1 => 0
  | n + 1, k + 1 => ch n k + ch n (k + 1)
theorem ch_zero (n : Nat) : ch n 0 = 1 := by cases n <;> rfl
theorem ch_over : ∀ {n k : Nat}, n < k → ch n k = 0
  | 0, k + 1, _ => rfl
  | n + 1, k + 1, h => by
    show ch n k + ch n (k + 1) = 0
    rw [ch_over (n := n) (k := k) (by omega), ch_over (n := n) (k := k + 1) (by omega)]
theorem ch_self : ∀ n, ch n n = 1
  | 0 => rfl
  | n + 1 => by
    show ch n n + ch n (n + 1) = 1
    rw [ch_self n, ch_over (by omega)]
theorem ch_step : ∀ n k, (k + 1) * ch n (k + 1) = (n - k) * ch n k
  | 0, k => by
    show (k + 1) * 0 = (0 - k) * ch 0 k
    rw [Nat.zero_sub, Nat.zero_mul]
    rfl
  | n + 1, k => by
    show (k + 1) * (ch n k + ch n (k + 1)) = (n + 1 - k) * ch (n + 1) k
    have A := ch_step n k
    rw [Nat.mul_add, A]
    by_cases hk : k ≤ n
    · have e1 : (k + 1) * ch n k + (n - k) * ch n k = (n + 1) * ch n k := by rw [← Nat.add_mul]; congr 1; omega
      rw [e1]
      cases k with
      | zero => rw [ch_zero, ch_zero]; rfl
      | succ j =>
        show (n + 1) * ch n (j + 1) = (n + 1 - (j + 1)) * (ch n j + ch n (j + 1))
        have B := ch_step n j
        have e2 : n + 1 - (j + 1) = n - j := by omega
        rw [e2, Nat.mul_add, ← B, ← Nat.add_mul]
        congr 1
        omega
    · rw [ch_over (show n < k by omega)]
      by_cases h2 : k = n + 1
      · subst h2; simp
      · rw [ch_over (show n + 1 < k by omega)]
        simp
def mult : List Int → Nat
  | [] => 1
  | a :: r => ch (a :: r).sum.toNat a.toNat * mult r
def decs (c : List Int) : Nat := ((List.range c.length).map fun i => if 0 < c.getD i 0 then mult (c.set i (c.getD i 0 - 1)) else 0).sum
theorem mult_zero : ∀ {c : List Int}, (∀ x ∈ c, x = 0) → mult c = 1
  | [], _ => rfl
  | a :: r, h => by
    have ha := h a List.mem_cons_self
    subst ha
    show ch _ (0 : Int).toNat * mult r = 1
    rw [mult_zero fun x hx => h x (List.mem_cons_of_mem _ hx)]
    show ch _ 0 * 1 = 1
    rw [ch_zero]
theorem sum_mulR (k : Nat) : ∀ l : List Nat, (l.map fun x => k * x).sum = k * l.sum
  | [] => rfl
  | a :: l => by rw [List.map_cons, List.sum_cons, List.sum_cons, sum_mulR k l, Nat.mul_add]
theorem decs_mult : ∀ {c : List Int}, (∀ x ∈ c, 0 ≤ x) → 0 < c.sum → decs c = mult c
  | [], _, h => by simp at h
  | a :: r, h, hs => by
    have ha := h a List.mem_cons_self
    have hr : ∀ x ∈ r, 0 ≤ x := fun x hx => h x (List.mem_cons_of_mem _ hx)
    have hrs := sum_nn hr
    rw [List.sum_cons] at hs
    have hsum : (a :: r).sum = a + r.sum := List.sum_cons ..
    have e1 : decs (a :: r) = (if 0 < a then ch (a + r.sum - 1).toNat (a - 1).toNat * mult r else 0) + ch (a + r.sum - 1).toNat a.toNat * decs r := by
      unfold decs
      rw [List.length_cons, List.range_succ_eq_map, List.map_cons, List.sum_cons, List.map_map]
      congr 1
      · show (if 0 < a then mult ((a - 1) :: r) else 0) = _
        split
        · show ch ((a - 1) :: r).sum.toNat (a - 1).toNat * mult r = _
          rw [List.sum_cons, show a - 1 + r.sum = a + r.sum - 1 by omega]
        · rfl
      · rw [← sum_mulR, List.map_map]
        congr 1
        refine List.map_congr_left fun i hi => ?_
        have hi := List.mem_range.mp hi
        show (if 0 < r.getD i 0 then mult (a :: r.set i (r.getD i 0 - 1)) else 0) = ch (a + r.sum - 1).toNat a.toNat * (if 0 < r.getD i 0 then mult (r.set i (r.getD i 0 - 1)) else 0)
        split
        · show ch (a :: r.set i (r.getD i 0 - 1)).sum.toNat a.toNat * _ = _
          rw [List.sum_cons, dec_sum hi, show a + (r.sum - 1) = a + r.sum - 1 by omega]
        · rfl
    have e2 : mult (a :: r) = ch (a + r.sum).toNat a.toNat * mult r := by
      show ch (a :: r).sum.toNat a.toNat * mult r = _
      rw [hsum]
    rw [e1, e2]
    obtain ⟨p, hp⟩ := Int.eq_ofNat_of_zero_le ha
    obtain ⟨q, hq⟩ := Int.eq_ofNat_of_zero_le hrs
    by_cases hr0 : r.sum = 0
    · have hz := sum_allz hr hr0
      have hd : decs r = 0 := by
        unfold decs
        have : (List.range r.length).map (fun i => if 0 < r.getD i 0 then mult (r.set i (r.getD i 0 - 1)) else 0) = (List.range r.length).map fun _ => 0 := List.map_congr_left fun i hi => by
          have hi := List.mem_range.mp hi
          have : r.getD i 0 = 0 := by
            rw [List.getD_eq_getElem?_getD, List.getElem?_eq_getElem hi]
            exact hz _ (List.getElem_mem hi)
          rw [this]; rfl
        rw [this]
        generalize List.range r.length = l
        induction l with
        | nil => rfl
        | cons x l ih => rw [List.map_cons, List.sum_cons, ih]
      rw [hd, Nat.mul_zero, Nat.add_zero, hr0, if_pos (by omega), mult_zero hz, Int.add_zero, show (a - 1).toNat = p - 1 by omega, show a.toNat = p by omega, ch_self, ch_self]
    · rw [decs_mult hr (by omega)]
      rw [show (a + r.sum - 1).toNat = p + q - 1 by omega, show (a + r.sum).toNat = (p + q - 1) + 1 by omega, show a.toNat = p by omega]
      cases p with
      | zero =>
        rw [if_neg (by omega), ch_zero, ch_zero, Nat.zero_add]
      | succ p =>
        rw [if_pos (by omega), show (a - 1).toNat = p by omega, ← Nat.add_mul]
        rfl
theorem arr_len : ∀ {n : Nat} {c : List Int}, (∀ x ∈ c, 0 ≤ x) → c.sum = n → (arr n c).length = mult c
  | 0, c, h, e => by
    rw [mult_zero (sum_allz h (by rw [e]; rfl))]
    rfl
  | n + 1, c, h, e => by
    rw [← decs_mult h (by omega)]
    unfold arr decs
    rw [List.length_flatMap]
    congr 1
    refine List.map_congr_left fun i hi => ?_
    have hi := List.mem_range.mp hi
    split
    · rename_i hp
      rw [List.length_map, arr_len (dec_nn h hp) (by rw [dec_sum hi, e]; omega)]
    · rfl
end Ma
end

section
set_option Elab.async false
set_option linter.all false
set_option maxHeartbeats 1000000
/-! Cups to and fro between two pots. -/
namespace Ma
def lin (u v : Int) (x y : List Int) : List Int := List.zipWith (fun m n => u * m + v * n) x y
theorem lin_len {u v : Int} {x y : List Int} (h : y.length = x.length) : (lin u v x y).length = x.length := by
  unfold lin
  rw [List.length_zipWith, h, Nat.min_self]
theorem lin_getD {u v : Int} {x y : List Int} {i : Nat} (h : y.length = x.length) (hi : i < x.length) : (lin u v x y).getD i 0 = u * x.getD i 0 + v * y.getD i 0 := by
  unfold lin
  rw [List.getD_eq_getElem?_getD, List.getElem?_zipWith, List.getElem?_eq_getElem hi, List.getElem?_eq_getElem (show i < y.length by omega), List.getD_eq_getElem?_getD, List.getD_eq_getElem?_getD, List.getElem?_eq_getElem hi, List.getElem?_eq_getElem (show i < y.length by omega)]
  rfl
theorem lin_sum (u v : Int) : ∀ {x y : List Int}, y.length = x.length → (lin u v x y).sum = u * x.sum + v * y.sum
  | [], [], _ => by show (0 : Int) = u * 0 + v * 0; omega
  | m :: x, n :: y, h => by
    have e := lin_sum u v (x := x) (y := y) (by simpa using h)
    show (u * m + v * n + (lin u v x y).sum) = u * (m :: x).sum + v * (n :: y).sum
    rw [List.sum_cons, List.sum_cons, e, Int.mul_add, Int.mul_add]
    omega
theorem lin_nn {u v : Int} (hu : 0 ≤ u) (hv : 0 ≤ v) {x y : List Int} (h : y.length = x.length) (hx : ∀ n ∈ x, 0 ≤ n) (hy : ∀ n ∈ y, 0 ≤ n) : ∀ n ∈ lin u v x y, 0 ≤ n := fun n hn => by
  obtain ⟨i, hi, e⟩ := List.getElem_of_mem hn
  rw [lin_len h] at hi
  have e2 : (lin u v x y).getD i 0 = n := by
    rw [List.getD_eq_getElem?_getD, List.getElem?_eq_getElem (by rw [lin_len h]; exact hi), e]
    rfl
  rw [lin_getD h hi] at e2
  have h1 := Int.mul_nonneg hu (hx _ (getD_in hi))
  have h2 := Int.mul_nonneg hv (hy _ (getD_in (ns := y) (i := i) (by omega)))
  omega
/-- what is in the first pot, undivided -/
def nearL (p q : Int) (x y : List Int) : List Int := lin (q * q * y.sum) (q * p * x.sum) x y
def farL (p q : Int) (x y : List Int) : List Int := lin (q * p * y.sum) (q * q * x.sum) x y
/-- two pots that are poured between -/
structure Pots (x y : List Int) : Prop where
  cx : Con x
  cy : Con y
  len : y.length = x.length
structure Cup (p q : Int) : Prop where
  p1 : 1 ≤ p
  pq : p ≤ q
  q100 : q ≤ 100
variable {x y : List Int} {p q : Int}
theorem near_sum (h : y.length = x.length) : (nearL p q x y).sum = q * (p + q) * (x.sum * y.sum) := by
  unfold nearL
  rw [lin_sum _ _ h]
  generalize x.sum = a
  generalize y.sum = b
  rw [Int.mul_add, Int.add_mul]
  have e1 : q * q * b * a = q * q * (a * b) := by simp only [Int.mul_comm, Int.mul_left_comm, Int.mul_assoc]
  have e2 : q * p * a * b = q * p * (a * b) := by simp only [Int.mul_comm, Int.mul_left_comm, Int.mul_assoc]
  omega
theorem far_sum (h : y.length = x.length) : (farL p q x y).sum = q * (p + q) * (x.sum * y.sum) := by
  unfold farL
  rw [lin_sum _ _ h]
  generalize x.sum = a
  generalize y.sum = b
  rw [Int.mul_add, Int.add_mul]
  have e1 : q * p * b * a = q * p * (a * b) := by simp only [Int.mul_comm, Int.mul_left_comm, Int.mul_assoc]
  have e2 : q * q * a * b = q * q * (a * b) := by simp only [Int.mul_comm, Int.mul_left_comm, Int.mul_assoc]
  omega
theorem pot_pos (P : Pots x y) (c : Cup p q) : 0 < q * (p + q) * (x.sum * y.sum) :=
  Int.mul_pos (Int.mul_pos (by have := c.p1; have := c.pq; omega) (by have := c.p1; have := c.pq; omega)) (Int.mul_pos P.cx.amt.pos P.cy.amt.pos)
theorem near_amt (P : Pots x y) (c : Cup p q) : Amt (nearL p q x y) := by
  have h1 := c.p1
  have h2 := c.pq
  have a0 := Int.le_of_lt P.cx.amt.pos
  have b0 := Int.le_of_lt P.cy.amt.pos
  refine ⟨lin_nn (Int.mul_nonneg (Int.mul_nonneg (by omega) (by omega)) b0) (Int.mul_nonneg (Int.mul_nonneg (by omega) (by omega)) a0) P.len P.cx.nn P.cy.nn, ?_⟩
  rw [near_sum P.len]
  exact pot_pos P c
theorem far_amt (P : Pots x y) (c : Cup p q) : Amt (farL p q x y) := by
  have h1 := c.p1
  have h2 := c.pq
  have a0 := Int.le_of_lt P.cx.amt.pos
  have b0 := Int.le_of_lt P.cy.amt.pos
  refine ⟨lin_nn (Int.mul_nonneg (Int.mul_nonneg (by omega) (by omega)) b0) (Int.mul_nonneg (Int.mul_nonneg (by omega) (by omega)) a0) P.len P.cx.nn P.cy.nn, ?_⟩
  rw [far_sum P.len]
  exact pot_pos P c
theorem near_len (h : y.length = x.length) : (nearL p q x y).length = x.length := lin_len h
theorem far_len (h : y.length = x.length) : (farL p q x y).length = x.length := lin_len h
theorem Pots.next (P : Pots x y) (c : Cup p q) : Pots (plain (nearL p q x y)) (plain (farL p q x y)) :=
  ⟨plain_con (near_amt P c) (by rw [near_len P.len]; exact P.cx.len) (by rw [near_len P.len]; exact P.cx.le8),
   plain_con (far_amt P c) (by rw [far_len P.len]; exact P.cx.len) (by rw [far_len P.len]; exact P.cx.le8),
   by rw [plain_len, plain_len, near_len P.len, far_len P.len]⟩
theorem lin_dvd {s : Int} {N : List Int} {u v g1 g2 k : Int} (h : y.length = x.length) (hN : Amt N) (hl : N.length = x.length) (hu : 0 ≤ u) (hv : 0 ≤ v) (hx : ∀ n ∈ x, 0 ≤ n) (hy : ∀ n ∈ y, 0 ≤ n) (hg : 0 < g1 * g2) (hk : 0 < k)
    (he : ∀ i, i < x.length → g1 * g2 * N.getD i 0 = k * (u * x.getD i 0 + v * y.getD i 0)) (hs : u * x.sum + v * y.sum = s) (s0 : 0 < s) : ∃ g', g' * (plain N).sum = s := by
  have hM : Amt (lin u v x y) := ⟨lin_nn hu hv h hx hy, by rw [lin_sum _ _ h, hs]; exact s0⟩
  have e : plain N = plain (lin u v x y) := by
    refine plain_prop hN hM hg hk (list_ext (by rw [List.length_map, List.length_map, hl, lin_len h]) fun i hi => ?_)
    rw [List.length_map, hl] at hi
    rw [map_getD (by omega), map_getD (by rw [lin_len h]; exact hi), lin_getD h hi]
    exact he i hi
  have e2 := plain_sum hM
  rw [lin_sum _ _ h, hs] at e2
  exact ⟨((gcdN (lin u v x y) : Nat) : Int), by rw [e, Int.mul_comm]; exact e2⟩
theorem pour_dvd (P : Pots x y) (c : Cup p q) {D : Int} (D0 : 0 < D) (h1 : ∃ g, g * x.sum = D) (h2 : ∃ g, g * y.sum = D) : (∃ g, g * (plain (nearL p q x y)).sum = D * (q + p)) ∧ ∃ g, g * (plain (farL p q x y)).sum = D * (q + p) := by
  obtain ⟨g1, e1⟩ := h1
  obtain ⟨g2, e2⟩ := h2
  have hp := c.p1
  have hq := c.pq
  have a0 := P.cx.amt.pos
  have b0 := P.cy.amt.pos
  have g10 : 0 < g1 := by
    by_cases z : 0 < g1
    · exact z
    · have := Int.mul_le_mul_of_nonneg_right (show g1 ≤ 0 by omega) (Int.le_of_lt a0)
      omega
  have g20 : 0 < g2 := by
    by_cases z : 0 < g2
    · exact z
    · have := Int.mul_le_mul_of_nonneg_right (show g2 ≤ 0 by omega) (Int.le_of_lt b0)
      omega
  have s0 : 0 < D * (q + p) := Int.mul_pos D0 (by omega)
  have k0 : 0 < q * D := Int.mul_pos (by omega) D0
  refine ⟨lin_dvd (u := q * g1) (v := p * g2) (k := q * D) P.len (near_amt P c) (near_len P.len) (Int.mul_nonneg (by omega) (by omega)) (Int.mul_nonneg (by omega) (by omega)) P.cx.nn P.cy.nn (Int.mul_pos g10 g20) k0 (fun i hi => ?_) ?_ s0, lin_dvd (u := p * g1) (v := q * g2) (k := q * D) P.len (far_amt P c) (far_len P.len) (Int.mul_nonneg (by omega) (by omega)) (Int.mul_nonneg (by omega) (by omega)) P.cx.nn P.cy.nn (Int.mul_pos g10 g20) k0 (fun i hi => ?_) ?_ s0⟩
  · unfold nearL
    rw [lin_getD P.len hi, Int.mul_add, Int.mul_add]
    congr 1
    · rw [← e2]
      simp only [Int.mul_comm, Int.mul_left_comm, Int.mul_assoc]
    · rw [← e1]
      simp only [Int.mul_comm, Int.mul_left_comm, Int.mul_assoc]
  · rw [Int.mul_assoc, Int.mul_assoc, e1, e2, Int.mul_add, Int.mul_comm D, Int.mul_comm D]
  · unfold farL
    rw [lin_getD P.len hi, Int.mul_add, Int.mul_add]
    congr 1
    · rw [← e2]
      simp only [Int.mul_comm, Int.mul_left_comm, Int.mul_assoc]
    · rw [← e1]
      simp only [Int.mul_comm, Int.mul_left_comm, Int.mul_assoc]
  · rw [Int.mul_assoc, Int.mul_assoc, e1, e2, Int.mul_add, Int.mul_comm D, Int.mul_comm D, Int.add_comm]
theorem dvd_le {g s D : Int} (h : g * s = D) (s0 : 0 < s) (D0 : 0 < D) : s ≤ D := by
  have g0 : 1 ≤ g := by
    by_cases z : 1 ≤ g
    · exact z
    · have := Int.mul_le_mul_of_nonneg_right (show g ≤ 0 by omega) (Int.le_of_lt s0)
      omega
  have := Int.mul_le_mul_of_nonneg_right g0 (Int.le_of_lt s0)
  omega
end Ma
end

section
set_option Elab.async false
set_option linter.all false
set_option maxHeartbeats 1000000
/-! A cup to and fro, by mixtures of two contents. -/
namespace Ma
end Ma
end

section
set_option Elab.async false
set_option linter.all false
set_option maxHeartbeats 1000000
/-! Rows of cups between several pots. -/
namespace Ma
structure Deed where
  i : Nat
  j : Nat
  p : Int
  q : Int
structure DeedOk (m : Nat) (d : Deed) : Prop where
  hi : d.i < m
  hj : d.j < m
  ne : d.i ≠ d.j
  cup : Cup d.p d.q
  g : Nat.gcd d.p.natAbs d.q.natAbs = 1
def pourN (cs : List (List Int)) (d : Deed) : List Int := plain (nearL d.p d.q (cs.getD d.i []) (cs.getD d.j []))
def pourF (cs : List (List Int)) (d : Deed) : List Int := plain (farL d.p d.q (cs.getD d.i []) (cs.getD d.j []))
def pourAt (cs : List (List Int)) (d : Deed) : List (List Int) := (cs.set d.i (pourN cs d)).set d.j (pourF cs d)
def pourAll (cs : List (List Int)) (ds : List Deed) : List (List Int) := ds.foldl pourAt cs
def pm (ds : List Deed) : Int := ds.foldl (fun a d => a * (d.q + d.p)) 1
structure Prow (m n : Nat) (cs : List (List Int)) (D : Int) : Prop where
  len : cs.length = m
  con : ∀ c ∈ cs, Con c
  wid : ∀ c ∈ cs, c.length = n
  D0 : 0 < D
  dvd : ∀ c ∈ cs, ∃ g, g * c.sum = D
theorem getDl_mem {α : Type} {cs : List α} {i : Nat} {z : α} (h : i < cs.length) : cs.getD i z ∈ cs := by
  rw [List.getD_eq_getElem?_getD, List.getElem?_eq_getElem h]
  exact List.getElem_mem h
theorem Prow.pots {m n : Nat} {cs : List (List Int)} {D : Int} (R : Prow m n cs D) {i j : Nat} (hi : i < m) (hj : j < m) : Pots (cs.getD i []) (cs.getD j []) := by
  have a := getDl_mem (z := ([] : List Int)) (show i < cs.length by rw [R.len]; exact hi)
  have b := getDl_mem (z := ([] : List Int)) (show j < cs.length by rw [R.len]; exact hj)
  exact ⟨R.con _ a, R.con _ b, by rw [R.wid _ a, R.wid _ b]⟩
theorem pourAt_len (cs : List (List Int)) (d : Deed) : (pourAt cs d).length = cs.length := by
  unfold pourAt
  rw [List.length_set, List.length_set]
theorem Prow.next {m n : Nat} {cs : List (List Int)} {D : Int} (R : Prow m n cs D) {d : Deed} (h : DeedOk m d) : Prow m n (pourAt cs d) (D * (d.q + d.p)) := by
  have P := R.pots h.hi h.hj
  have c := h.cup
  have ha := getDl_mem (z := ([] : List Int)) (show d.i < cs.length by rw [R.len]; exact h.hi)
  have hb := getDl_mem (z := ([] : List Int)) (show d.j < cs.length by rw [R.len]; exact h.hj)
  have N := P.next c
  obtain ⟨d1, d2⟩ := pour_dvd P c R.D0 (R.dvd _ ha) (R.dvd _ hb)
  have p1 := c.p1
  have pq := c.pq
  have all : ∀ x ∈ pourAt cs d, x = pourF cs d ∨ x = pourN cs d ∨ x ∈ cs := fun x hx => by
    unfold pourAt at hx
    rcases List.mem_or_eq_of_mem_set hx with hx | hx
    · rcases List.mem_or_eq_of_mem_set hx with hx | hx
      · exact .inr (.inr hx)
      · exact .inr (.inl hx)
    · exact .inl hx
  refine ⟨by rw [pourAt_len, R.len], fun x hx => ?_, fun x hx => ?_, Int.mul_pos R.D0 (by omega), fun x hx => ?_⟩
  · rcases all x hx with rfl | rfl | h
    · exact N.cy
    · exact N.cx
    · exact R.con x h
  · rcases all x hx with rfl | rfl | h
    · unfold pourF
      rw [plain_len, far_len P.len, R.wid _ ha]
    · unfold pourN
      rw [plain_len, near_len P.len, R.wid _ ha]
    · exact R.wid x h
  · rcases all x hx with rfl | rfl | h
    · exact d2
    · exact d1
    · obtain ⟨g, e⟩ := R.dvd x h
      exact ⟨g * (d.q + d.p), by rw [← e, Int.mul_right_comm]⟩
theorem Prow.small {m n : Nat} {cs : List (List Int)} {D : Int} (R : Prow m n cs D) {c : List Int} (h : c ∈ cs) : c.sum ≤ D := by
  obtain ⟨g, e⟩ := R.dvd c h
  exact dvd_le e (R.con c h).amt.pos R.D0
theorem pm_snoc (ds : List Deed) (d : Deed) : pm (ds ++ [d]) = pm ds * (d.q + d.p) := by
  unfold pm
  rw [List.foldl_append]
  rfl
theorem pourAll_snoc (cs : List (List Int)) (ds : List Deed) (d : Deed) : pourAll cs (ds ++ [d]) = pourAt (pourAll cs ds) d := by
  unfold pourAll
  rw [List.foldl_append]
  rfl
theorem take_snoc {α : Type} {ds : List α} {i : Nat} {d : α} (h : ds[i]? = some d) : ds.take (i + 1) = ds.take i ++ [d] := by
  rw [List.take_add_one, h]
  rfl
theorem Prow.run {m n : Nat} {cs : List (List Int)} {D : Int} (R : Prow m n cs D) {ds : List Deed} (h : ∀ d ∈ ds, DeedOk m d) : ∀ i, i ≤ ds.length → Prow m n (pourAll cs (ds.take i)) (D * pm (ds.take i))
  | 0, _ => by
    show Prow m n cs (D * 1)
    rw [Int.mul_one]
    exact R
  | i + 1, hi => by
    have e := List.getElem?_eq_getElem (show i < ds.length by omega)
    have := (R.run h i (by omega)).next (h _ (List.getElem_mem (show i < ds.length by omega)))
    rw [take_snoc e, pm_snoc, pourAll_snoc, ← Int.mul_assoc]
    exact this
/-- the product of the bottoms -/
def psum : List (List Int) → Int
  | [] => 1
  | c :: r => c.sum * psum r
theorem psum_pos : ∀ (cs : List (List Int)), (∀ c ∈ cs, Con c) → 0 < psum cs
  | [], _ => by show (0 : Int) < 1; decide
  | c :: r, h => Int.mul_pos (h c List.mem_cons_self).amt.pos (psum_pos r fun x hx => h x (List.mem_cons_of_mem _ hx))
theorem psum_dvd : ∀ (cs : List (List Int)) (c : List Int), c ∈ cs → ∃ g, g * c.sum = psum cs
  | d :: r, c, h => by
    rcases List.mem_cons.mp h with rfl | h
    · exact ⟨psum r, Int.mul_comm _ _⟩
    · obtain ⟨g, e⟩ := psum_dvd r c h
      exact ⟨d.sum * g, by rw [Int.mul_assoc, e]; rfl⟩
theorem Prow.first {m n : Nat} {cs : List (List Int)} (hl : cs.length = m) (hc : ∀ c ∈ cs, Con c) (hw : ∀ c ∈ cs, c.length = n) : Prow m n cs (psum cs) :=
  ⟨hl, hc, hw, psum_pos cs hc, psum_dvd cs⟩
end Ma
end

section
set_option linter.all false
set_option maxHeartbeats 1000000
/-! Mixtures (greater bounds): weighted sums of contents over a bottom, and that a common factor goes away. -/
namespace Mz
open Ma
def wsum (ws : List Int) : Nat → Int
  | 0 => 0
  | i + 1 => wsum ws i + ws.getD i 0
/-- contents of one length with weights -/
structure Mix (cs : List (List Int)) (ws : List Int) (n : Nat) : Prop where
  c0 : 0 < cs.length
  c8 : cs.length ≤ 8
  wl : ws.length = cs.length
  con : ∀ c ∈ cs, Con c
  len : ∀ c ∈ cs, c.length = n
  small : ∀ c ∈ cs, c.sum < 2 ^ 530
  w0 : ∀ w ∈ ws, 0 ≤ w ∧ w < 2 ^ 98
  wp : 0 < ws.sum
theorem Mix.at {cs : List (List Int)} {ws : List Int} {n : Nat} (M : Mix cs ws n) {i : Nat} (h : i < cs.length) : cs.getD i [] ∈ cs := by
  rw [List.getD_eq_getElem?_getD, List.getElem?_eq_getElem h]
  exact List.getElem_mem h
theorem Mix.sp {cs : List (List Int)} {ws : List Int} {n : Nat} (M : Mix cs ws n) {i : Nat} (h : i < cs.length) : 0 < (cs.getD i []).sum := (M.con _ (M.at h)).amt.pos
/-! sums -/
theorem wsum_take (ws : List Int) : ∀ i, i ≤ ws.length → wsum ws i = (ws.take i).sum
  | 0, _ => by rw [List.take_zero]; rfl
  | i + 1, h => by
    show wsum ws i + ws.getD i 0 = _
    rw [wsum_take ws i (by omega), List.take_add_one, List.getElem?_eq_getElem (by omega), List.sum_append, List.getD_eq_getElem?_getD, List.getElem?_eq_getElem (by omega)]
    show _ + ws[i] = _ + (ws[i] + 0)
    rw [Int.add_zero]
theorem Mix.ws {cs : List (List Int)} {ws : List Int} {n : Nat} (M : Mix cs ws n) : wsum ws cs.length = ws.sum := by
  rw [wsum_take ws _ (by rw [M.wl]; exact Nat.le_refl _), ← M.wl, List.take_length]
theorem gcdF_scale (t : Nat) : ∀ (ns : List Int) (d : Nat), gcdF (t * d) (ns.map fun n => (t : Int) * n) = t * gcdF d ns
  | [], d => rfl
  | n :: r, d => by
    show gcdF (Nat.gcd (t * d) ((t : Int) * n).natAbs) _ = t * gcdF (Nat.gcd d n.natAbs) r
    rw [Int.natAbs_mul, Int.natAbs_natCast, Nat.gcd_mul_left, gcdF_scale t r]
theorem plain_scale {ns : List Int} {t : Int} (ht : 0 < t) (hg : 0 < gcdN ns) : plain (ns.map fun n => t * n) = plain ns := by
  obtain ⟨k, rfl⟩ := Int.eq_ofNat_of_zero_le (Int.le_of_lt ht)
  unfold plain
  have e : gcdN (ns.map fun n => (k : Int) * n) = k * gcdN ns := by
    have := gcdF_scale k ns 0
    rw [Nat.mul_zero] at this
    exact this
  rw [e, List.map_map]
  refine List.map_congr_left fun n _ => ?_
  show (k : Int) * n / ((k * gcdN ns : Nat) : Int) = _
  rw [Int.natCast_mul, Int.mul_ediv_mul_of_pos _ _ ht]
end Mz
end

section
set_option Elab.async false
set_option linter.all false
set_option maxHeartbeats 1000000
/-! What cups keep: mixtures of all pots, either pot first, deeds between other pots. -/
namespace Ma
theorem Prow.up {m n : Nat} {cs : List (List Int)} {D k : Int} (R : Prow m n cs D) (hk : 0 < k) : Prow m n cs (D * k) :=
  ⟨R.len, R.con, R.wid, Int.mul_pos R.D0 hk, fun c hc => let ⟨g, e⟩ := R.dvd c hc; ⟨g * k, by rw [← e, Int.mul_right_comm]⟩⟩
def Deed.turn (d : Deed) : Deed := ⟨d.j, d.i, d.p, d.q⟩
theorem DeedOk.turn {m : Nat} {d : Deed} (h : DeedOk m d) : DeedOk m d.turn := ⟨h.hj, h.hi, fun z => h.ne z.symm, h.cup, h.g⟩
end Ma
end

section
set_option Elab.async false
set_option linter.all false
set_option maxHeartbeats 1000000
set_option maxRecDepth 100000
/-! Cups with pure pots are top-ups; how many histories few kept shares have. -/
namespace Ma
open Mc
theorem tot_few {ks : List (Int × Int)} {x : List Int} (hk : ∀ q ∈ ks, Kep q.1 q.2) (hx : Con x) (h4 : ks.length ≤ 4) (h8 : x.length ≤ 8) : tot (sglM ks) x ks.length ≤ 16000000 := by
  have hl : (sglM ks).length = ks.length := List.length_map ..
  have stepT : ∀ d, d < ks.length → tot (sglM ks) x (d + 1) = tot (sglM ks) x d + (ends (sglM ks) x d).length * x.length := fun d hd => by
    show tot (sglM ks) x d + (ends (sglM ks) x d).length * (x.length * ((sglM ks).getD ((sglM ks).length - 1 - d) []).length) = _
    rw [hl, sglM_get (by omega)]
    simp
  have go : ∀ d, d ≤ ks.length → tot (sglM ks) x d ≤ d * 8 ^ 4 := fun d => by
    induction d with
    | zero => intro _; exact Nat.zero_le _
    | succ d ih =>
      intro hd
      have h1 := ih (by omega)
      rw [stepT d (by omega), Nat.succ_mul]
      have h2 := (ends_sgl hk hx d (by omega)).1
      have h3 : x.length ^ d * x.length ≤ 8 ^ 4 := by
        rw [← Nat.pow_succ]
        exact Nat.le_trans (Nat.pow_le_pow_left h8 _) (Nat.pow_le_pow_right (by decide) (by omega))
      have h5 : (ends (sglM ks) x d).length * x.length ≤ x.length ^ d * x.length := Nat.mul_le_mul_right _ h2
      omega
  have := go ks.length (Nat.le_refl _)
  have : ks.length * 8 ^ 4 ≤ 4 * 8 ^ 4 := Nat.mul_le_mul_right _ h4
  have : 4 * 8 ^ 4 ≤ 16000000 := by decide
  omega
/-! how many -/
end Ma
end

section
set_option Elab.async false
set_option linter.all false
set_option maxRecDepth 100000
set_option maxHeartbeats 4000000
namespace K34
open PySem PySem.Spec PyProof.Rows L2 GxR Gx Ma Mc PySem.W
theorem ctn_foldP {x : List Int} : ∀ {ks : List (Int × Int)} {cs : List Nat}, ks.length = cs.length → ∀ i, i ≤ cs.length → ctn x ks cs i = foldP x ((cs.zip ks).take i)
  | ks, cs, hl, 0, _ => rfl
  | ks, cs, hl, i + 1, h => by
    have hz : (cs.zip ks).length = cs.length := by rw [List.length_zip]; omega
    rw [List.take_add_one, foldP_app, ← ctn_foldP hl i (by omega)]
    have e : (cs.zip ks)[i]? = some (cs.getD i 0, ks.getD i (1, 2)) := by
      rw [List.getElem?_eq_getElem (by omega), List.getElem_zip, List.getD_eq_getElem?_getD, List.getElem?_eq_getElem (show i < cs.length by omega), List.getD_eq_getElem?_getD, List.getElem?_eq_getElem (show i < ks.length by omega)]
      rfl
    rw [e]
    rfl
theorem waysK_eq (ks : List (Int × Int)) (x : List Int) : waysK ks x = ways (ones ks.reverse) x := by
  unfold waysK
  have e : backM (sgl ks) (sgl ks).length = ones ks.reverse := by
    rw [ones_rev]
    unfold backM
    rw [List.take_length]
    rfl
  rw [e]
def toW (h : Nat × List Nat) : Way := (h.1, h.2.map fun c => (c, 0))
/-- the tokens of a row -/
def tl (cs : List Nat) : List (Int ⊕ List Nat) := keyToksAll (((cs.map fun c => (c, 0)).map stI).map SrtO.prD)
theorem tl_cons (c : Nat) (cs : List Nat) : tl (c :: cs) = .inl 1 :: .inl 1 :: .inl (c : Int) :: .inl 1 :: .inl 0 :: .inl 0 :: tl cs := by
  unfold tl
  simp only [List.map_cons, SrtO.prD, keyToks, keyToksAll, List.cons_append, List.nil_append]
  rfl
theorem lex_same {x : Int ⊕ List Nat} {r t : List (Int ⊕ List Nat)} (h : itemOrd.blt x x = false) : PyProof.Rows.lexLt itemOrd (x :: r) (x :: t) = PyProof.Rows.lexLt itemOrd r t := by
  rw [lex_cons, h]
  rfl
theorem blt_int (i j : Int) : itemOrd.blt (.inl i) (.inl j) = decide (i < j) := rfl
theorem blt_ii (i : Int) : itemOrd.blt (.inl i) (.inl i) = false := by rw [blt_int]; exact decide_eq_false (Int.lt_irrefl i)
theorem tl_lt : ∀ {a b : List Nat} (s t : List (Int ⊕ List Nat)), rl a b = true → PyProof.Rows.lexLt itemOrd (tl a ++ s) (tl b ++ t) = true
  | i :: a, j :: b, s, t, h => by
    rw [tl_cons, tl_cons]
    simp only [List.cons_append]
    rw [lex_same (blt_ii 1), lex_same (blt_ii 1)]
    have h : (decide (i < j) || (decide (i = j) && rl a b)) = true := h
    by_cases hij : i < j
    · rw [lex_cons, blt_int, decide_eq_true (show ((i : Nat) : Int) < ((j : Nat) : Int) by omega)]
      rfl
    · rw [decide_eq_false hij, Bool.false_or, Bool.and_eq_true] at h
      have e := of_decide_eq_true h.1
      subst e
      rw [lex_same (blt_ii _), lex_same (blt_ii 1), lex_same (blt_ii 0), lex_same (blt_ii 0)]
      exact tl_lt s t h.2
  | [], _, _, _, h => by simp [rl] at h
  | _ :: _, [], _, _, h => by simp [rl] at h
theorem wLt_row {i j : Nat} {a b : List Nat} (h : rl (i :: a) (j :: b) = true) : wLt (toW (i, a)) (toW (j, b)) = true := by
  unfold wLt dataLt wD SrtO.rowP toW
  simp only [keyToks, keyToksAll, List.cons_append, List.nil_append]
  rw [lex_same (blt_ii 1)]
  have h : (decide (i < j) || (decide (i = j) && rl a b)) = true := h
  by_cases hij : i < j
  · rw [lex_cons, blt_int, decide_eq_true (show ((i : Nat) : Int) < ((j : Nat) : Int) by omega)]
    rfl
  · rw [decide_eq_false hij, Bool.false_or, Bool.and_eq_true] at h
    have e := of_decide_eq_true h.1
    subst e
    rw [lex_same (blt_ii _), lex_same (blt_ii 1)]
    exact tl_lt _ _ h.2
theorem led_ones {k s : Nat} : ∀ {r : List (Int × Int)} {sts : List (Nat × Nat)} {x : List Int}, LedK k s (ones r) sts x → ∃ cs : List Nat, (∀ c ∈ cs, c < k) ∧ cs.length = r.length ∧ sts = (cs.map fun c => (c, 0)) ∧ x = foldP (pur' k s) (cs.zip r.reverse)
  | [], sts, x, L => by
    obtain ⟨rfl, rfl⟩ := L.inv0
    exact ⟨[], (fun c h => by cases h), rfl, rfl, rfl⟩
  | q :: r, sts, x, L => by
    obtain ⟨st, y, l, i, rfl, L', hi, hl, rfl⟩ := LedK.inv (c := [q]) (r := ones r) L
    obtain ⟨cs, h1, h2, rfl, rfl⟩ := led_ones L'
    have i0 : i = 0 := by have : i < 1 := hi; omega
    subst i0
    refine ⟨cs ++ [l], fun c hc => ?_, by rw [List.length_append, h2]; rfl, by rw [List.map_append]; rfl, ?_⟩
    · rcases List.mem_append.mp hc with h | h
      · exact h1 c h
      · rw [List.mem_singleton.mp h]; exact hl
    · rw [List.reverse_cons, List.zip_append (by rw [h2, List.length_reverse]), foldP_app]
      rfl
theorem chs_ones {r : List (Int × Int)} (h : ∀ q ∈ r, Kep q.1 q.2) : Chs (ones r) := fun c hc q hq => by
  obtain ⟨p, hp, rfl⟩ := List.mem_map.mp hc
  rw [List.mem_singleton.mp hq]
  exact h p hp
def hdl (r : List Nat) : Nat × List Nat := (r.headD 0, r.tail)
structure UsOk (m : Nat) (us : List Nat) (n : Nat) : Prop where
  lt : ∀ u ∈ us, u < m
  m8 : m ≤ 8
  len : us.length = n + 1
  n60 : n ≤ 60
theorem UsOk.con {m n : Nat} {us : List Nat} (h : UsOk m us n) : Con (plain (cntU m us)) := by
  have h0 : 0 < us.length := by rw [h.len]; omega
  obtain ⟨u, hu⟩ : ∃ u, u ∈ us := ⟨us[0], List.getElem_mem h0⟩
  have := h.lt u hu
  exact plain_con (cntU_amt h.lt h0) (by rw [cntU_len]; omega) (by rw [cntU_len]; exact h.m8)
theorem UsOk.plen {m n : Nat} {us : List Nat} (h : UsOk m us n) : (plain (cntU m us)).length = m := by rw [Ma.plain_len, cntU_len]
theorem UsOk.fold {m n s : Nat} {cs : List Nat} (h : UsOk m (s :: cs) n) : foldP (pur' m s) (cs.zip (kq n)) = plain (cntU m (s :: cs)) := by
  have hl : cs.length = n := by have := h.len; rw [List.length_cons] at this; omega
  have := fold_cnt (h.lt s List.mem_cons_self) h.m8 (fun c hc => h.lt c (List.mem_cons_of_mem _ hc)) (by have := h.n60; omega) cs.length (Nat.le_refl _)
  rw [List.take_length, List.take_of_length_le (by rw [List.length_zip, kq_len]; omega), hl] at this
  exact this
theorem UsOk.sum {m n : Nat} {us : List Nat} (h : UsOk m us n) : (cntU m us).sum = ((n + 1 : Nat) : Int) := by rw [cntU_sum h.lt, h.len]
theorem mem_ways_kq {m n : Nat} {us : List Nat} (h : UsOk m us n) (v : Way) : v ∈ (arr (n + 1) (cntU m us)).map (fun r => toW (hdl r)) ↔ v ∈ waysK (kq n) (plain (cntU m us)) := by
  rw [waysK_eq]
  have kk := kq_kep (n := n) (by have := h.n60; omega)
  constructor
  · intro hv
    obtain ⟨r, hr, rfl⟩ := List.mem_map.mp hv
    obtain ⟨h1, h2⟩ := (mem_arr (cntU_nn m us) h.sum r).mp hr
    rw [cntU_len] at h1 h2
    have hl : r.length = n + 1 := by
      have e1 := cntU_sum h1
      rw [h2, h.sum] at e1
      omega
    cases r with
    | nil => simp at hl
    | cons s cs =>
      have ok : UsOk m (s :: cs) n := ⟨h1, h.m8, hl, h.n60⟩
      have hcl : cs.length = n := by rw [List.length_cons] at hl; omega
      have m1 : (cs.zip (kq n)).map (·.1) = cs := List.map_fst_zip (by rw [kq_len]; omega)
      have m2 : (cs.zip (kq n)).map (·.2) = kq n := List.map_snd_zip (by rw [kq_len]; omega)
      have pk : PaOk m (cs.zip (kq n)) := ⟨fun g hg => kk _ (by rw [← m2]; exact List.mem_map.mpr ⟨g, hg, rfl⟩), fun g hg => h1 _ (List.mem_cons_of_mem _ (by rw [← m1]; exact List.mem_map.mpr ⟨g, hg, rfl⟩))⟩
      have := past_ways (h1 s List.mem_cons_self) h.m8 pk
      rw [m2, ok.fold, h2] at this
      have e : ((cs.zip (kq n)).map fun g => (g.1, 0)) = cs.map fun c => (c, 0) := by
        conv => rhs; rw [← m1, List.map_map]
        rfl
      rw [e] at this
      exact this
  · intro hv
    obtain ⟨s, sts⟩ := v
    obtain ⟨hs, L⟩ := ways_led (k := m) h.m8 (chs_ones fun q hq => kk q (List.mem_reverse.mp hq)) h.con h.plen hv
    obtain ⟨cs, c1, c2, rfl, e⟩ := led_ones L
    rw [List.reverse_reverse] at e
    rw [List.length_reverse, kq_len] at c2
    have ok : UsOk m (s :: cs) n := ⟨fun u hu => by
      rcases List.mem_cons.mp hu with z | z
      · rw [z]; exact hs
      · exact c1 u z, h.m8, by rw [List.length_cons, c2], h.n60⟩
    rw [ok.fold] at e
    have eu := cnt_unique ok.lt h.lt (by rw [ok.len, h.len]) (by rw [ok.len]; omega) e.symm
    refine List.mem_map.mpr ⟨s :: cs, (mem_arr (cntU_nn m us) h.sum _).mpr ⟨by rw [cntU_len]; exact ok.lt, by rw [cntU_len]; exact eu⟩, rfl⟩
theorem arr_ne {n : Nat} {c : List Int} {r : List Nat} (h : r ∈ arr (n + 1) c) : ∃ s cs, r = s :: cs := by
  unfold arr at h
  obtain ⟨i, _, hr⟩ := List.mem_flatMap.mp h
  split at hr
  · obtain ⟨r', _, rfl⟩ := List.mem_map.mp hr
    exact ⟨_, _, rfl⟩
  · cases hr
theorem wLt_irr (a : Way) : wLt a a = false := lex_irrefl (O := itemOrd) _
theorem wLt_asy {a b : Way} (h : wLt a b = true) : wLt b a = false := by
  cases e : wLt b a with
  | false => rfl
  | true =>
    have := lex_trans (O := itemOrd) _ _ _ h e
    rw [show PyProof.Rows.lexLt itemOrd (keyToks (wD a)) (keyToks (wD a)) = wLt a a from rfl, wLt_irr] at this
    cases this
theorem arr_wlt (n : Nat) (c : List Int) : ((arr (n + 1) c).map fun r => toW (hdl r)).Pairwise fun a b => wLt a b = true := by
  refine List.pairwise_map.mpr (List.Pairwise.imp_of_mem (fun {r r'} hr hr' h => ?_) (arr_srt (n + 1) c))
  obtain ⟨s, cs, rfl⟩ := arr_ne hr
  obtain ⟨s', cs', rfl⟩ := arr_ne hr'
  exact wLt_row h
theorem srt_kq {m n : Nat} {us : List Nat} (h : UsOk m us n) : srtW (waysK (kq n) (plain (cntU m us))) = (arr (n + 1) (cntU m us)).map fun r => toW (hdl r) := by
  refine (srtW_eq ?_ ((arr_wlt n _).imp fun h => wLt_asy h)).symm
  refine (List.perm_ext_iff_of_nodup ?_ (by rw [waysK_eq]; exact ways_nodup _ _)).mpr (mem_ways_kq h)
  exact (arr_wlt n _).imp fun hab e => by rw [e, wLt_irr] at hab; cases hab
theorem hist_kq {m n : Nat} {us : List Nat} (h : UsOk m us n) : hist (kq n) (plain (cntU m us)) = (arr (n + 1) (cntU m us)).map hdl := by
  unfold hist
  rw [srt_kq h, List.map_map]
  refine List.map_congr_left fun r _ => ?_
  show ((hdl r).1, ((hdl r).2.map fun c => (c, 0)).map (·.1)) = hdl r
  rw [List.map_map]
  exact Prod.ext rfl (List.map_id _)
theorem ways_kq_len {m n : Nat} {us : List Nat} (h : UsOk m us n) : (waysK (kq n) (plain (cntU m us))).length = mult (cntU m us) := by
  rw [← (srtW_perm _).length_eq, srt_kq h, List.length_map, arr_len (cntU_nn m us) h.sum]
theorem due_kq {n : Nat} (h : 1 ≤ n) : dueB (kq n) = false := by
  refine due_false (i := 0) (by rw [kq_len]; exact h) ?_
  unfold badB
  have e : (kq n).getD 0 (1, 2) = (1, 2) := by
    rw [List.getD_eq_getElem?_getD, kq_get h]
    rfl
  rw [e]
  rfl
theorem tot_kq {m n : Nat} {us : List Nat} (h : UsOk m us n) (n8 : n ≤ 8) (hh : m ≤ 5 ∨ n ≤ 4) : tot (sgl (kq n)) (plain (cntU m us)) (kq n).length ≤ 16000000 := by
  have kk := kq_kep (n := n) (by omega)
  rcases hh with h5 | h4
  · exact tot_sgl kk h.con (by rw [kq_len]; omega) (by rw [h.plen]; exact h5) (.inl (by rw [kq_len]; exact n8))
  · exact tot_few kk h.con (by rw [kq_len]; exact h4) (by rw [h.plen]; exact h.m8)
end K34
end

section
set_option Elab.async false
set_option linter.all false
set_option maxRecDepth 100000
set_option maxHeartbeats 4000000
namespace K34
open PySem PySem.Spec PyProof.Rows L2 GxR Gx Ma Mc
section
variable {P : Program} {w : World} {K : PySem.W.Frag} {mg : Str → Option Value} {base : Heap}

theorem ch_le : ∀ n k, ch n k ≤ 2 ^ n
  | n, 0 => by rw [ch_zero]; exact Nat.one_le_two_pow
  | 0, k + 1 => Nat.zero_le _
  | n + 1, k + 1 => by
    show ch n k + ch n (k + 1) ≤ 2 ^ (n + 1)
    have := ch_le n k
    have := ch_le n (k + 1)
    rw [Nat.pow_succ]
    omega
def sp_choices : Sp := fun vs H Q _ => ∃ m k : Nat, vs = [V.int m, V.int k] ∧ k ≤ m ∧ m ≤ 9 ∧ Q (.int (ch m k : Nat)) H
def sp_ways (T : Unit) : Sp := fun vs H Q _ => ∃ (l : Addr) (c : List Int) (n : Nat), vs = [V.ref l] ∧ LI H l c ∧ (∀ x ∈ c, 0 ≤ x) ∧ c.sum = n ∧ n ≤ 9 ∧ c.length ≤ 8 ∧ Q (.int (mult c : Nat)) H

theorem ok__law_choices {f : Addr} {fd : FuncData}  (F : Fun K "_law_choices" "_law_choices" s__law_choices f fd) (B : Bl mg)  : FnOk P w K mg base CX0 1 f fd ["many", "some"] (sp_choices) := by
  refine F.ok sc__law_choices (fun vs H Q E h => ?_) (fun cdv A outer s H vs Q E hr h => ?_)
  · obtain ⟨m, k, rfl, _⟩ := h; rfl
  · obtain ⟨m, k, rfl, hk, hm, q⟩ := h
    have nd := sc__law_choices.nd
    refine ⟨_, (pss_cons (ps_set (i := 2) nd rfl (Or.inl rfl) pe_int)
      (pss_cons (ps_for PassesOwn.never rfl (pi_range1 rfl B.range (pa_cons (pv 1) pa_nil)) (pg_name (i := 3) nd rfl (Or.inl rfl)) (pss_one (ps_set (i := 2) nd rfl (Or.inl rfl) (pe_op op_fdivW (pe_op op_mulW (pv 2) (pe_op op_sub (pv 0) (pv 3))) (pe_op op_add (pv 3) pe_int)))))
      (pss_one (ps_ret (pv 2))))), ?_⟩
    refine ⟨.int (k : Nat), rfl, (k : Nat), rfl, by omega, by omega, for_range (lo := 0) (n := ((k : Nat) : Int).toNat) (fun i σ G => ∃ y3, σ = [some (.int (m : Nat)), some (.int (k : Nat)), some (.int (ch m i : Nat)), y3] ∧ G = H) ⟨_, by rw [ch_zero]; rfl, rfl⟩ (fun i σ G hi ⟨y3, e1, e2⟩ => ?_) (fun σ G ⟨y3, e1, e2⟩ => ?_)⟩
    · subst e1
      subst e2
      have hi : i < k := by omega
      have e0 : (0 : Int) + ((i : Nat) : Int) = ((i : Nat) : Int) := Int.zero_add _
      rw [e0]
      have c1 := ch_le m i
      have c2 : 2 ^ m ≤ 2 ^ 9 := Nat.pow_le_pow_right (by decide) hm
      have p9 : (2 : Nat) ^ 9 < 2 ^ 20 := by decide
      have w1 : CMulW ((ch m i : Nat) : Int) (((m : Nat) : Int) - ((i : Nat) : Int)) := wide_mul (a := 20) (b := 20) (by rw [Int.natAbs_natCast]; omega) (by omega) (by decide) (by decide) (by decide)
      refine ⟨.int _, rfl, .int _, rfl, .int _, rfl, _, _, rfl, rfl, _, _, rfl, rfl, w1, .int _, rfl, _, 1, rfl, rfl, _, _, rfl, rfl, ⟨by omega, ?_⟩, ?_⟩
      · exact Nat.lt_of_le_of_lt (Nat.log2_le_self _) (by omega)
      · have cs := ch_step m i
        have ev : ((ch m i : Nat) : Int) * (((m : Nat) : Int) - ((i : Nat) : Int)) / (((i : Nat) : Int) + 1) = ((ch m (i + 1) : Nat) : Int) := by
          have e1 : ((m : Nat) : Int) - ((i : Nat) : Int) = ((m - i : Nat) : Int) := by omega
          rw [e1, ← Int.natCast_mul, Nat.mul_comm, ← cs, Int.natCast_mul, show ((i : Nat) : Int) + 1 = ((i + 1 : Nat) : Int) by omega]
          exact Int.mul_ediv_cancel_left _ (by omega)
        refine ⟨some (V.int (i : Nat)), ?_, rfl⟩
        show [some (V.int (m : Nat)), some (V.int (k : Nat)), some (V.int (((ch m i : Nat) : Int) * (((m : Nat) : Int) - ((i : Nat) : Int)) / (((i : Nat) : Int) + 1))), some (V.int (i : Nat))] = _
        rw [ev]
    · subst e1
      subst e2
      rw [Int.toNat_natCast]
      exact ⟨.int (ch m k : Nat), rfl, q⟩

theorem drop_sum {c : List Int} {i : Nat} (h : i < c.length) : (c.drop i).sum = c.getD i 0 + (c.drop (i + 1)).sum := by
  rw [List.drop_eq_getElem_cons h, List.sum_cons, List.getD_eq_getElem?_getD, List.getElem?_eq_getElem h]
  rfl
theorem drop_nn {c : List Int} (h : ∀ x ∈ c, 0 ≤ x) (i : Nat) : ∀ x ∈ c.drop i, 0 ≤ x := fun x hx => h x (List.mem_of_mem_drop hx)
theorem drop_le {c : List Int} (h : ∀ x ∈ c, 0 ≤ x) : ∀ i, (c.drop i).sum ≤ c.sum
  | 0 => by rw [List.drop_zero]; exact Int.le_refl _
  | i + 1 => by
    have ih := drop_le h i
    by_cases hi : i < c.length
    · rw [drop_sum hi] at ih
      have : 0 ≤ c.getD i 0 := by rw [List.getD_eq_getElem?_getD, List.getElem?_eq_getElem hi]; exact h _ (List.getElem_mem hi)
      omega
    · rw [List.drop_of_length_le (by omega)]
      exact sum_nn h
theorem mult_drop {c : List Int} {i : Nat} (h : i < c.length) : mult (c.drop i) = ch (c.drop i).sum.toNat (c.getD i 0).toNat * mult (c.drop (i + 1)) := by
  have e : c.drop i = c.getD i 0 :: c.drop (i + 1) := by
    rw [List.drop_eq_getElem_cons h, List.getD_eq_getElem?_getD, List.getElem?_eq_getElem h]
    rfl
  rw [e]
  rfl

theorem ok__law_ways {f : Addr} {fd : FuncData}  (F : Fun K "_law_ways" "_law_ways" s__law_ways f fd) (B : Bl mg) (C__law_choices : Cal P w K mg base 1 "_law_choices" ["many", "some"] sp_choices) : FnOk P w K mg base CX0 2 f fd ["counts_here"] (sp_ways ()) := by
  refine F.ok sc__law_ways (fun vs H Q E h => ?_) (fun cdv A outer s H vs Q E hr h => ?_)
  · obtain ⟨l, c, n, rfl, _⟩ := h; rfl
  · obtain ⟨l, c, n, rfl, hl, nn, hs, n9, l8, q⟩ := h
    have nd := sc__law_ways.nd
    refine ⟨_, (pss_cons (ps_par (i := 1) (j := 2) (by rfl) nd rfl rfl (by decide) rfl rfl (pa_cons pe_int (pa_cons (pe_callB (cr_sum rfl) (by rfl) B.sum (by decide +kernel) (pa_cons (pv 0) pa_nil)) pa_nil)) (by rfl))
      (pss_cons (ps_for PassesOwn.never rfl (pi_list (pv 0)) (pg_name (i := 3) nd rfl (Or.inl rfl)) (pss_cons (ps_set (i := 1) nd rfl (Or.inl rfl) (pe_op op_mulW (pv 1) (pe_cal C__law_choices (hr.mono (by decide)) (pa_cons (pv 2) (pa_cons (pv 3) pa_nil)))))
      (pss_one (ps_set (i := 2) nd rfl (Or.inl rfl) (pe_op op_sub (pv 2) (pv 3))))))
      (pss_one (ps_ret (pv 1))))), ?_⟩
    refine ⟨.ref l, rfl, l, c, rfl, SqL.of hl, ⟨_, _, rfl, ?_⟩⟩
    refine ⟨.ref l, rfl, l, rfl, ⟨_, SqL.of hl⟩, for_list (K := K) (xs := c.map V.int) (fun i σ G => ∃ y3 f, σ = [some (.ref l), some (.int (f : Nat)), some (.int (c.drop i).sum), y3] ∧ G = H ∧ f * mult (c.drop i) = mult c ∧ f ≤ 512 ^ i) ⟨_, 1, rfl, rfl, Nat.one_mul _, Nat.le_refl _⟩ (fun i σ G _ ⟨_, _, _, e2, _⟩ => by rw [e2]; exact SqL.of hl) (fun i x σ G hx ⟨y3, f, e1, e2, e3, e4⟩ => ?_) (fun σ G ⟨y3, f, e1, e2, e3, e4⟩ => ?_)⟩
    · subst e1
      subst e2
      have hi : i < c.length := by
        have := (List.getElem?_eq_some_iff.mp hx).1
        rw [List.length_map] at this
        exact this
      have hxx : x = V.int (c.getD i 0) := by
        rw [List.getElem?_map, List.getElem?_eq_getElem hi] at hx
        rw [List.getD_eq_getElem?_getD, List.getElem?_eq_getElem hi]
        exact (Option.some.inj hx).symm
      subst hxx
      have ha : 0 ≤ c.getD i 0 := by rw [List.getD_eq_getElem?_getD, List.getElem?_eq_getElem hi]; exact nn _ (List.getElem_mem hi)
      have hd := drop_sum hi
      have hd0 := sum_nn (drop_nn nn (i + 1))
      have hdl := drop_le nn i
      have md := mult_drop hi
      obtain ⟨p, hp⟩ := Int.eq_ofNat_of_zero_le ha
      obtain ⟨L, hL⟩ := Int.eq_ofNat_of_zero_le (sum_nn (drop_nn nn i))
      rw [hL] at hd hdl md
      rw [hp] at hd md
      rw [hp, hL]
      rw [Int.toNat_natCast, Int.toNat_natCast] at md
      have f9 : f < 2 ^ 80 := by
        have h1 : 512 ^ i ≤ 512 ^ 8 := Nat.pow_le_pow_right (by decide) (by omega)
        have h2 : (512 : Nat) ^ 8 < 2 ^ 80 := by decide
        omega
      have cl := ch_le L p
      have c2 : 2 ^ L ≤ 2 ^ 9 := Nat.pow_le_pow_right (by decide) (by omega)
      have p9 : (2 : Nat) ^ 9 < 2 ^ 20 := by decide
      refine ⟨.int (f : Nat), rfl, .int (L : Nat), rfl, .int (p : Nat), rfl, L, p, rfl, by omega, by omega, _, _, rfl, rfl, wide_mul (a := 80) (b := 20) (by rw [Int.natAbs_natCast]; exact f9) (by rw [Int.natAbs_natCast]; omega) (by decide) (by decide) (by decide), ?_⟩
      refine ⟨.int (L : Nat), rfl, .int (p : Nat), rfl, _, _, rfl, rfl, ?_⟩
      refine ⟨some (V.int (p : Nat)), f * ch L p, ?_, rfl, ?_, ?_⟩
      · show [some (V.ref l), some (V.int (((f : Nat) : Int) * ((ch L p : Nat) : Int))), some (V.int (((L : Nat) : Int) - ((p : Nat) : Int))), some (V.int (p : Nat))] = _
        rw [← Int.natCast_mul, show ((L : Nat) : Int) - ((p : Nat) : Int) = (c.drop (i + 1)).sum by omega]
      · rw [Nat.mul_assoc, ← md]; exact e3
      · rw [Nat.pow_succ]
        exact Nat.mul_le_mul e4 (by omega)
    · subst e1
      subst e2
      rw [List.length_map, List.drop_length] at e3
      have e5 : f = mult c := by rw [← e3]; exact (Nat.mul_one f).symm
      rw [e5]
      exact ⟨_, rfl, q⟩

end
end K34
end

section
set_option Elab.async false
set_option linter.all false
set_option maxRecDepth 100000
set_option maxHeartbeats 4000000
namespace K34
open PySem PySem.Spec PyProof.Rows L2 GxR Gx Ma Mc
section
variable {P : Program} {w : World} {K : PySem.W.Frag} {mg : Str → Option Value} {base : Heap}

theorem cut_take (xs : List V) (i : Nat) : cutV xs none (some (i : Int)) = xs.take i := by
  unfold cutV
  have e1 : HT.sIx xs.length 0 none = 0 := rfl
  have e2 : HT.sIx xs.length xs.length (some (i : Int)) = min i xs.length := by
    unfold HT.sIx
    dsimp only
    rw [if_neg (by omega)]
    omega
  rw [e1, e2, List.drop_zero, Nat.sub_zero]
  by_cases h : i ≤ xs.length
  · rw [Nat.min_eq_left h]
  · rw [Nat.min_eq_right (by omega), List.take_length, List.take_of_length_le (by omega)]
theorem cut_drop (xs : List V) (i : Nat) : cutV xs (some (i : Int)) none = xs.drop i := by
  unfold cutV
  have e1 : HT.sIx xs.length xs.length none = xs.length := rfl
  have e2 : HT.sIx xs.length 0 (some (i : Int)) = min i xs.length := by
    unfold HT.sIx
    dsimp only
    rw [if_neg (by omega)]
    omega
  rw [e1, e2]
  by_cases h : i ≤ xs.length
  · rw [Nat.min_eq_left h, List.take_of_length_le (by rw [List.length_drop]; exact Nat.le_refl _)]
  · rw [Nat.min_eq_right (by omega), List.drop_length, List.drop_of_length_le (by omega), List.take_nil]
def RwO (H : Hp) (a : Addr) (r : List Nat) : Prop := LI H a (rowI r)
theorem rwO_mo : MoA RwO := fun _ _ _ _ s h => s _ _ h trivial
theorem paired_append {α β : Type} {F : α → β → Prop} : ∀ {as us : List α} {xs ys : List β}, Paired F as xs → Paired F us ys → Paired F (as ++ us) (xs ++ ys)
  | _, _, _, _, .nil, h => h
  | _, _, _, _, .cons a b, h => .cons a (paired_append b h)
def RwN (L : Addr) (H : Hp) (a : Addr) (r : List Nat) : Prop := LI H a (rowI r) ∧ a ≠ L
theorem rwN_mo (L : Addr) : MoA (RwN L) := fun _ _ _ _ s h => ⟨s _ _ h.1 trivial, h.2⟩
theorem PvA.many {α : Type} {f : Hp → Addr → α → Prop} (m : MoA f) {H1 H H4 : Hp} {D : Addr} {done ds : List α} (p : PvA f H1 D done H) (hD : H1 D = none) (s : Same H H4) {us : List Addr} (hu : Paired (f (hid D H4)) us ds) :
    ∃ as : List Addr, H4 D = some (.lst (as.map V.ref)) ∧ as.length = done.length ∧ PvA f H1 D (done ++ ds) (upd H4 D (.lst (as.map V.ref ++ us.map V.ref))) := by
  obtain ⟨as, e, r⟩ := p.d
  refine ⟨as, s _ _ e, r.length, fun x o hx => ?_, as ++ us, ?_, ?_⟩
  · rw [upd_ne (ne_of_none hx hD)]
    exact s _ _ (p.s _ _ hx)
  · rw [upd_same, List.map_append]
  · have h1 := r.mono (F' := f (hid D (upd H4 D (.lst (as.map V.ref ++ us.map V.ref))))) fun _ _ z => m _ _ _ _ (.of ((hid_same s).trans hid_upd)) z
    have h2 := hu.mono (F' := f (hid D (upd H4 D (.lst (as.map V.ref ++ us.map V.ref))))) fun _ _ z => m _ _ _ _ (.of hid_upd) z
    exact paired_append h1 h2
theorem arr_le8 : ∀ {n : Nat} {c : List Int}, c.length ≤ 8 → (arr n c).length ≤ 8 ^ n
  | 0, _, _ => Nat.le_refl _
  | n + 1, c, h => by
    unfold arr
    rw [List.length_flatMap]
    have key : ∀ L : List Nat, (L.map fun i => (if 0 < c.getD i 0 then (arr n (c.set i (c.getD i 0 - 1))).map (i :: ·) else []).length).sum ≤ L.length * 8 ^ n := fun L => by
      induction L with
      | nil => simp
      | cons a L ih =>
        rw [List.map_cons, List.sum_cons, List.length_cons, Nat.succ_mul]
        have : (if 0 < c.getD a 0 then (arr n (c.set a (c.getD a 0 - 1))).map (a :: ·) else []).length ≤ 8 ^ n := by
          split
          · rw [List.length_map]
            exact arr_le8 (by rw [List.length_set]; exact h)
          · exact Nat.zero_le _
        omega
    have := key (List.range c.length)
    rw [List.length_range] at this
    rw [Nat.pow_succ, Nat.mul_comm]
    exact Nat.le_trans this (Nat.mul_le_mul_right _ h)
theorem arr_row : ∀ {n : Nat} {c : List Int}, ∀ r ∈ arr n c, r.length = n
  | 0, c, r, h => by rw [List.mem_singleton.mp h]; rfl
  | n + 1, c, r, h => by
    unfold arr at h
    obtain ⟨i, _, hr⟩ := List.mem_flatMap.mp h
    split at hr
    · obtain ⟨r', h', rfl⟩ := List.mem_map.mp hr
      rw [List.length_cons, arr_row r' h']
    · cases hr
/-- what the first liquids give -/
def arrT (n : Nat) (c : List Int) (i : Nat) : List (List Nat) := (List.range i).flatMap fun i => if 0 < c.getD i 0 then (arr n (c.set i (c.getD i 0 - 1))).map (i :: ·) else []
theorem arrT_next (n : Nat) (c : List Int) (i : Nat) : arrT n c (i + 1) = arrT n c i ++ if 0 < c.getD i 0 then (arr n (c.set i (c.getD i 0 - 1))).map (i :: ·) else [] := by
  unfold arrT
  rw [List.range_succ, List.flatMap_append, List.flatMap_cons, List.flatMap_nil, List.append_nil]
theorem arrT_all (n : Nat) (c : List Int) : arrT n c c.length = arr (n + 1) c := rfl
theorem arrT_mono (n : Nat) (c : List Int) (i : Nat) : ∀ d, (arrT n c i).length ≤ (arrT n c (i + d)).length
  | 0 => Nat.le_refl _
  | d + 1 => by
    have := arrT_mono n c i d
    rw [← Nat.add_assoc, arrT_next, List.length_append]
    omega
theorem arrT_le {n : Nat} {c : List Int} {i : Nat} (h : i ≤ c.length) : (arrT n c i).length ≤ (arr (n + 1) c).length := by
  have := arrT_mono n c i (c.length - i)
  rw [show i + (c.length - i) = c.length by omega, arrT_all] at this
  exact this
theorem set_cut {c : List Int} {i : Nat} {v : Int} (h : i < c.length) : c.take i ++ [v] ++ c.drop (i + 1) = c.set i v := by
  rw [List.set_eq_take_append_cons_drop, if_pos h, List.append_assoc]
  rfl
def sp_arr (n : Nat) : Sp := fun vs H Q _ => ∃ (l : Addr) (c : List Int), vs = [V.ref l] ∧ LI H l c ∧ (∀ x ∈ c, 0 ≤ x) ∧ c.sum = n ∧ n ≤ 9 ∧ c.length ≤ 8 ∧ (arr n c).length ≤ 500 ∧ ∀ p H', Same H H' → H p = none → LO RwO H' p (arr n c) → Q (.ref p) H'
theorem ok__law_arrangedF {f : Addr} {fd : FuncData} (F : Fun K "_law_arranged" "_law_arranged" s__law_arranged f fd) : FnOk P w K mg base CX0 1 f fd ["counts_here"] (fun _ _ _ _ => False) := by
  refine F.ok sc__law_arranged (fun vs H Q E h => ?_) (fun cdv A outer s H vs Q E hr h => ?_)
  · exact False.elim h
  · exact False.elim h

theorem ok__law_arranged {f : Addr} {fd : FuncData}  (F : Fun K "_law_arranged" "_law_arranged" s__law_arranged f fd) (B : Bl mg) {n : Nat} {spI : Sp} (hI : ∀ k, n = k + 1 → spI = sp_arr k) (C__law_arranged : Cal P w K mg base (n + 1) "_law_arranged" ["counts_here"] spI) : FnOk P w K mg base CX0 (n + 2) f fd ["counts_here"] (sp_arr n) := by
  refine F.ok sc__law_arranged (fun vs H Q E h => ?_) (fun cdv A outer s H vs Q E hr h => ?_)
  · obtain ⟨l, c, rfl, _⟩ := h; rfl
  · obtain ⟨l, c, rfl, hl, nn, hs, n9, l8, h5, q⟩ := h
    have nd := sc__law_arranged.nd
    refine ⟨_, (pss_cons (ps_if (pt_cmpR op_eq (pe_callB (cr_sum rfl) (by rfl) B.sum (by decide +kernel) (pa_cons (pv 0) pa_nil)) pe_int (nomark _))
      (pss_one (ps_ret (pe_lst (pa_cons (pe_lst pa_nil) pa_nil)))) pss_nil)
      (pss_cons (ps_set (i := 1) nd rfl (Or.inl rfl) (pe_lst pa_nil))
      (pss_cons (ps_for PassesOwn.never rfl (pi_enum (by rfl) B.enumerate (pa_cons (pv 0) pa_nil)) (pg_tup (by rfl) (pgs_cons (pg_name (i := 2) nd rfl (Or.inr rfl)) (pgs_cons (pg_name (i := 3) nd rfl (Or.inl rfl)) pgs_nil))) (pss_one (ps_if (pt_cmpR op_gt (pv 3) pe_int (nomark _))
      (pss_cons (ps_set (i := 4) nd rfl (Or.inl rfl) (pe_op op_cat (pe_op op_cat (pe_slice sl_list (pv 0) po_none (po_some (pv 2))) (pe_lst (pa_cons (pe_op op_sub (pv 3) pe_int) pa_nil))) (pe_slice sl_list (pv 0) (po_some (pe_op op_add (pv 2) pe_int)) po_none)))
      (pss_one (ps_expr (pe_bm PySem.F.plainAttrs_list PySem.F.slot_list_extend PySem.F.type_list_extend mt_extend (pv 1) (pa_cons (pe_lc (own := [("row_here", 5)]) (g := gName 5) rfl nd (pi_list (pe_cal C__law_arranged (hr.mono (by omega)) (pa_cons (pv 4) pa_nil))) (blkOk_by (own := [("row_here", 5)]) (N := ["counts_here", "found", "spot", "many", "rest", "row_here"]) (sc := defScope s__law_arranged) (by decide +kernel)) (fun _ _ _ _ _ => (pg_name (i := 5) nd rfl (Or.inl rfl))) (fun _ _ _ _ _ => pts_nil) (fun _ _ _ _ _ => (pe_op op_cat (pe_lst (pa_cons (pv 2) pa_nil)) (pv 5)))) pa_nil))))) pss_nil)))
      (pss_one (ps_ret (pv 1)))))), ?_⟩
    refine ⟨.ref l, rfl, l, c, rfl, SqL.of hl, rfl, _, rfl, ?_⟩
    rw [dec_int]
    by_cases h0 : n = 0
    · subst h0
      rw [decide_eq_true (show c.sum = 0 by rw [hs]; rfl)]
      refine iteT ⟨by show 0 ≤ 16777216; decide, fun A1 nA1 => ?_⟩
      have sA := sameN (o := HO.lst []) nA1
      have hA : LI (upd H A1 (.lst [])) A1 (rowI []) := upd_same
      generalize upd H A1 (.lst []) = H1 at sA hA
      refine ⟨by show 1 ≤ 16777216; decide, fun F nF => ?_⟩
      have sF := sameN (o := HO.lst [V.ref A1]) nF
      exact q F _ (sA.trans sF) (sA.free nF) ⟨[A1], upd_same, .cons (sF _ _ hA) .nil⟩
    obtain ⟨k, rfl⟩ : ∃ k, n = k + 1 := ⟨n - 1, by omega⟩
    have hsp := hI k rfl
    subst hsp
    rw [decide_eq_false (show ¬ c.sum = 0 by rw [hs]; omega)]
    refine iteF ⟨by show 0 ≤ 16777216; decide, fun L nL => ?_⟩
    have hLn : ∀ G, Same (upd H L (.lst [])) G → Same H G := fun G s => (sameN nL).trans s
    refine ⟨.ref l, rfl, l, _, rfl, SqL.of (sameN nL _ _ hl), ?_⟩
    refine for_it walk_enum (fun i σ G => ∃ y2 y3 y4 y5, σ = [some (.ref l), some (.ref L), y2, y3, y4, y5] ∧ PvA RwO H L (arrT k c i) G) ⟨none, none, none, none, rfl, PvA.zero nL⟩ (fun i σ G _ ⟨_, _, _, _, _, pv⟩ => SqL.of (pv.s _ _ hl)) (fun i z σ G G3 hi ⟨y2, y3, y4, y5, e0, pv⟩ hy => ?_) (fun σ G ⟨y2, y3, y4, y5, e0, pv⟩ => ?_)
    · subst e0
      obtain ⟨T, v1, v2, rfl, nT, rfl, hv1, hv2⟩ := hy
      obtain rfl := Option.some.inj hv1
      rw [List.length_map] at hi
      have hv : v2 = V.int (c.getD i 0) := by
        dsimp only at hv2
        rw [List.getElem?_map, List.getElem?_eq_getElem hi] at hv2
        rw [List.getD_eq_getElem?_getD, List.getElem?_eq_getElem hi]
        exact (Option.some.inj hv2).symm
      subst hv
      have ha : 0 ≤ c.getD i 0 := by rw [List.getD_eq_getElem?_getD, List.getElem?_eq_getElem hi]; exact nn _ (List.getElem_mem hi)
      have sT := sameN (o := .tup [.int (i : Nat), .int (c.getD i 0)]) nT
      have hT : L2.upd G T (.tup [.int (i : Nat), .int (c.getD i 0)]) T = some (.tup [.int (i : Nat), .int (c.getD i 0)]) := upd_same
      generalize L2.upd G T (.tup [.int (i : Nat), .int (c.getD i 0)]) = G4 at sT hT
      have pv4 := pv.keep rwO_mo sT
      refine ⟨T, _, rfl, SqT.of hT, rfl, _, _, rfl, _, _, rfl, rfl, ?_⟩
      refine ⟨.int (c.getD i 0), rfl, _, _, rfl, rfl, _, rfl, ?_⟩
      by_cases hm : 0 < c.getD i 0
      case neg =>
        rw [decide_eq_false hm]
        exact iteF ⟨_, _, _, _, rfl, by rw [arrT_next, if_neg hm, List.append_nil]; exact pv4⟩
      rw [decide_eq_true hm]
      have hl4 := pv4.s _ _ hl
      have e1 : cutV (c.map V.int) none (some ((i : Nat) : Int)) = (c.take i).map V.int := by rw [cut_take, ← List.map_take]
      have e2 : cutV (c.map V.int) (some (((i : Nat) : Int) + 1)) none = (c.drop (i + 1)).map V.int := by
        rw [show ((i : Nat) : Int) + 1 = ((i + 1 : Nat) : Int) by omega, cut_drop, ← List.map_drop]
      refine iteT ⟨.ref l, rfl, .int (i : Nat), rfl, (i : Nat), rfl, l, _, rfl, SqL.of hl4, fun q1 nq1 => ?_⟩
      rw [e1]
      have s1 := sameN (o := HO.lst ((c.take i).map V.int)) nq1
      have h1 : upd G4 q1 (.lst ((c.take i).map V.int)) q1 = some (.lst ((c.take i).map V.int)) := upd_same
      generalize upd G4 q1 (.lst ((c.take i).map V.int)) = G5 at s1 h1
      refine ⟨.int (c.getD i 0), rfl, _, 1, rfl, rfl, by show 1 ≤ 16777216; decide, fun q2 nq2 => ?_⟩
      have s2 := sameN (o := HO.lst [V.int (c.getD i 0 - 1)]) nq2
      have h2 : upd G5 q2 (.lst [.int (c.getD i 0 - 1)]) q2 = some (.lst [.int (c.getD i 0 - 1)]) := upd_same
      generalize upd G5 q2 (.lst [.int (c.getD i 0 - 1)]) = G6 at s2 h2
      refine ⟨q1, q2, _, _, rfl, rfl, s2 _ _ h1, h2, by rw [List.length_map, List.length_take]; show min i c.length + 1 ≤ 16777216; omega, fun q3 nq3 => ?_⟩
      have s3 := sameN (o := HO.lst ((c.take i).map V.int ++ [V.int (c.getD i 0 - 1)])) nq3
      have h3 : upd G6 q3 (.lst ((c.take i).map V.int ++ [V.int (c.getD i 0 - 1)])) q3 = some (.lst ((c.take i).map V.int ++ [V.int (c.getD i 0 - 1)])) := upd_same
      generalize upd G6 q3 (.lst ((c.take i).map V.int ++ [V.int (c.getD i 0 - 1)])) = G7 at s3 h3
      have s47 := s1.trans (s2.trans s3)
      refine ⟨.ref l, rfl, .int (i : Nat), rfl, _, 1, rfl, rfl, _, rfl, l, _, rfl, SqL.of (s47 _ _ hl4), fun q4 nq4 => ?_⟩
      rw [e2]
      have s4 := sameN (o := HO.lst ((c.drop (i + 1)).map V.int)) nq4
      have h4 : upd G7 q4 (.lst ((c.drop (i + 1)).map V.int)) q4 = some (.lst ((c.drop (i + 1)).map V.int)) := upd_same
      generalize upd G7 q4 (.lst ((c.drop (i + 1)).map V.int)) = G8 at s4 h4
      refine ⟨q3, q4, _, _, rfl, rfl, s4 _ _ h3, h4, by rw [List.length_append, List.length_map, List.length_take, List.length_map, List.length_drop]; show min i c.length + 1 + (c.length - (i + 1)) ≤ 16777216; omega, fun q5 nq5 => ?_⟩
      have e5 : (c.take i).map V.int ++ [V.int (c.getD i 0 - 1)] ++ (c.drop (i + 1)).map V.int = (c.set i (c.getD i 0 - 1)).map V.int := by
        rw [← set_cut hi, List.map_append, List.map_append]
        rfl
      rw [e5]
      have s5 := sameN (o := HO.lst ((c.set i (c.getD i 0 - 1)).map V.int)) nq5
      have h5' : LI (upd G8 q5 (.lst ((c.set i (c.getD i 0 - 1)).map V.int))) q5 (c.set i (c.getD i 0 - 1)) := upd_same
      generalize upd G8 q5 (.lst ((c.set i (c.getD i 0 - 1)).map V.int)) = G9 at s5 h5'
      have s49 := s47.trans (s4.trans s5)
      have pv9 := pv4.keep rwO_mo s49
      obtain ⟨as9, hL9, _⟩ := id pv9.d
      have an := arrT_next k c i
      rw [if_pos hm] at an
      have al1 := arrT_le (n := k) (c := c) (i := i + 1) (by omega)
      rw [an, List.length_append, List.length_map] at al1
      refine ⟨.ref L, rfl, .inl ⟨rfl, _, SqL.of hL9⟩, .ref q5, rfl, q5, _, rfl, h5', dec_nn nn hm, by rw [dec_sum hi, hs]; omega, by omega, by rw [List.length_set]; exact l8, by omega, fun R Ga sa nR hR => ?_⟩
      obtain ⟨rs, hRat, rR⟩ := hR
      refine ⟨R, rfl, ⟨_, SqL.of hRat⟩, fun C nC => ?_⟩
      have pva := pv9.keep rwO_mo sa
      obtain ⟨asa, hLa, _⟩ := id pva.d
      have CL : C ≠ L := fun e => by rw [e, hLa] at nC; cases nC
      refine lc_list (K := K) (xs := rs.map V.ref) (fun m H' => PvA (RwN L) Ga C (((arr k (c.set i (c.getD i 0 - 1))).take m).map (i :: ·)) H') (PvA.zero nC) (fun m H' _ pw => SqL.of (pw.s _ _ hRat)) (fun m y H' hy pw => ?_) (fun Gb pw => ?_)
      · obtain ⟨a, hj, rfl, la⟩ := LO.at_ rR hy
        have la' := pw.s _ _ la
        have rl := arr_row _ (List.getElem_mem hj)
        refine ⟨rfl, .int (i : Nat), rfl, by show 1 ≤ 16777216; decide, fun o1 no1 => ?_⟩
        have b1 := sameN (o := HO.lst [V.int (i : Nat)]) no1
        have ho1 : L2.upd H' o1 (.lst [.int (i : Nat)]) o1 = some (.lst [.int (i : Nat)]) := upd_same
        generalize L2.upd H' o1 (.lst [.int (i : Nat)]) = H5 at b1 ho1
        refine ⟨.ref a, rfl, o1, a, _, _, rfl, rfl, ho1, b1 _ _ la', by rw [List.length_map, rowI_len, rl]; show 1 + k ≤ 16777216; omega, fun r nr => ?_⟩
        have b2 := sameN (o := HO.lst ([V.int (i : Nat)] ++ (rowI (arr k (c.set i (c.getD i 0 - 1)))[m]).map V.int)) nr
        have hr' : LI (L2.upd H5 r (.lst ([V.int (i : Nat)] ++ (rowI (arr k (c.set i (c.getD i 0 - 1)))[m]).map V.int))) r (rowI (i :: (arr k (c.set i (c.getD i 0 - 1)))[m])) := upd_same
        generalize L2.upd H5 r (.lst ([V.int (i : Nat)] ++ (rowI (arr k (c.set i (c.getD i 0 - 1)))[m]).map V.int)) = H6 at b2 hr'
        obtain ⟨ac, hC5, _⟩ := id pw.d
        have rC : r ≠ C := fun e => by rw [e, b1 _ _ hC5] at nr; cases nr
        have rL : r ≠ L := fun e => by rw [e, b1 _ _ (pw.s _ _ hLa)] at nr; cases nr
        obtain ⟨acc, f1, f2, f3⟩ := pw.ext (rwN_mo L) nC (b1.trans b2) (q := r) (b := i :: (arr k (c.set i (c.getD i 0 - 1)))[m]) (by rw [List.length_map, List.length_take]; omega) ⟨by show hid C H6 r = _; rw [hid_ne rC]; exact hr', rL⟩
        refine ⟨acc, f1, f2, ?_⟩
        rw [List.take_add_one, List.getElem?_eq_getElem hj, List.map_append]
        exact f3
      · rw [List.length_map, rR.length, List.take_length] at pw
        obtain ⟨us, hC, rU⟩ := pw.fin (rwN_mo L)
        have ul := rU.length
        rw [List.length_map] at ul
        obtain ⟨as, hLb, lb, pvb⟩ := pva.many rwO_mo nL pw.s (us := us) (ds := (arr k (c.set i (c.getD i 0 - 1))).map (i :: ·)) (rU.mono fun a r h => by show hid L Gb a = _; rw [hid_ne h.2]; exact h.1)
        refine ⟨L, C, _, _, rfl, rfl, hLb, hC, by rw [List.length_map, List.length_map, lb, ul]; show _ ≤ 16777216; omega, ?_⟩
        exact ⟨_, _, _, _, rfl, by rw [an]; exact pvb⟩
    · subst e0
      rw [List.length_map] at pv
      exact ⟨.ref L, rfl, q L G pv.s nL (pv.fin rwO_mo)⟩


end
end K34
end

section
set_option Elab.async false
set_option linter.all false
set_option maxHeartbeats 1000000
/-! l.count(n) within a comprehension. -/
namespace Gx
open PySem PySem.Spec PyProof.Rows L2
theorem pe_lcntK {X : Cx} {e : Expr} {to : TE} {t : TA} {K : PySem.W.Frag} (eK : X.K = K) (h : PE X e (tBM X.K "list" (rCntI X.K) to t)) : PE X e (tBM K "list" (rCntI K) to t) := eK ▸ h
end Gx
end

section
set_option Elab.async false
set_option linter.all false
set_option maxRecDepth 100000
set_option maxHeartbeats 4000000
namespace K34
open PySem PySem.Spec PyProof.Rows L2 GxR Gx Ma Mc
section
variable {P : Program} {w : World} {K : PySem.W.Frag} {mg : Str → Option Value} {base : Heap}

def hd (h : Nat × List Nat) : PyData := .tuple [.int (h.1 : Nat), .list ((rowI h.2).map PyData.int)]
theorem tr_his1 {H0 H : Hp} {a : Addr} {h : Nat × List Nat} (ho : HisO H0 H a h) (hl : h.2.length ≤ 1000) : Gx.Tr H 2 (.ref a) (hd h) := by
  obtain ⟨q, e, l, _⟩ := ho
  exact .ofT e (.cons (.int 1 _) (.cons (.ints l (by unfold rowI; rw [List.length_map]; exact hl)) .nil)) (by show 2 ≤ 1000; decide)
theorem trAll_his {H0 H : Hp} : ∀ {as : List Addr} {hs : List (Nat × List Nat)}, Paired (HisO H0 H) as hs → (∀ h ∈ hs, h.2.length ≤ 1000) → TrAll H 2 (as.map V.ref) (hs.map hd)
  | _, _, .nil, _ => .nil
  | _, _, .cons h t, hl => .cons (tr_his1 h (hl _ List.mem_cons_self)) (trAll_his t fun x hx => hl x (List.mem_cons_of_mem _ hx))
theorem tr_his {H0 H : Hp} {q : Addr} {hs : List (Nat × List Nat)} (h : HisL H0 H q hs) (h5 : hs.length ≤ 1000) (hl : ∀ h ∈ hs, h.2.length ≤ 1000) : Gx.Tr H 3 (.ref q) (.list (hs.map hd)) := by
  obtain ⟨as, e, r⟩ := h
  exact .ofL e (trAll_his r hl) (by rw [List.length_map, r.length]; exact h5)
theorem ix_listK {X : Cx} {K : PySem.W.Frag} (e : X.K = K) : IxR X (rIxL K) := e ▸ ix_list
def sp_arrU : Sp := fun vs H Q E => ∃ n, n ≤ 9 ∧ sp_arr n vs H Q E
theorem count_rowI (i : Nat) : ∀ us : List Nat, (rowI us).count ((i : Nat) : Int) = us.count i
  | [] => rfl
  | u :: us => by
    show (((u : Nat) : Int) :: rowI us).count ((i : Nat) : Int) = _
    rw [List.count_cons, List.count_cons, count_rowI i us]
    congr 1
    by_cases h : u = i
    · subst h; simp
    · have h1 : ((u : Int) == (i : Int)) = false := beq_eq_false_iff_ne.mpr (by omega)
      have h2 : (u == i) = false := beq_eq_false_iff_ne.mpr h
      rw [h1, h2]
theorem UsOk.row {m n s : Nat} {cs : List Nat} (h : UsOk m (s :: cs) n) : Rowy (pur' m s) (kq n) cs := by
  have hl : cs.length = n := by have := h.len; rw [List.length_cons] at this; omega
  have h60 := h.n60
  exact ⟨pur'_con (h.lt s List.mem_cons_self) h.m8, by rw [kq_len, hl], by omega, kq_kep (by omega), fun c hc => by rw [pur'_len]; exact h.lt c (List.mem_cons_of_mem _ hc)⟩
theorem UsOk.ctn {m n s : Nat} {cs : List Nat} (h : UsOk m (s :: cs) n) : ctn (pur' m s) (kq n) cs cs.length = plain (cntU m (s :: cs)) := by
  have hl : cs.length = n := by have := h.len; rw [List.length_cons] at this; omega
  rw [ctn_foldP (by rw [kq_len, hl]) _ (Nat.le_refl _), List.take_of_length_le (by rw [List.length_zip, kq_len]; omega), h.fold]
theorem UsOk.gcd {m n : Nat} {us : List Nat} (h : UsOk m us n) : gcdN (cntU m us) < 2 ^ 8000 := by
  have A := cntU_amt h.lt (by rw [h.len]; omega)
  have ps := plain_sum A
  rw [h.sum] at ps
  have h1 : ((gcdN (cntU m us) : Nat) : Int) ≤ ((n + 1 : Nat) : Int) := Int.le_of_dvd (by omega) ⟨(plain (cntU m us)).sum, by rw [Int.mul_comm]; exact ps.symm⟩
  have h60 := h.n60
  have h2 : gcdN (cntU m us) ≤ 61 := by omega
  exact Nat.lt_of_le_of_lt h2 (Nat.lt_of_lt_of_le (by decide : 61 < 2 ^ 6) (Nat.pow_le_pow_right (by decide) (by decide)))
theorem UsOk.perm {m n : Nat} {us vs : List Nat} (h : UsOk m us n) (p : vs.Perm us) : UsOk m vs n := ⟨fun u hu => h.lt u (p.mem_iff.mp hu), h.m8, by rw [p.length_eq]; exact h.len, h.n60⟩
theorem rowI_perm {ns : List Int} {us : List Nat} (p : ns.Perm (rowI us)) : ∃ vs : List Nat, ns = rowI vs ∧ vs.Perm us := by
  refine ⟨ns.map Int.toNat, ?_, ?_⟩
  · unfold rowI
    rw [List.map_map]
    have : ∀ n ∈ ns, ((fun (c : Nat) => (c : Int)) ∘ Int.toNat) n = n := fun n hn => by
      obtain ⟨u, _, rfl⟩ := List.mem_map.mp (p.mem_iff.mp hn)
      show (((u : Int).toNat : Nat) : Int) = (u : Int)
      rw [Int.toNat_natCast]
    rw [List.map_congr_left this]
    exact (List.map_id _).symm
  · have := p.map Int.toNat
    unfold rowI at this
    rw [List.map_map] at this
    have e : us.map (Int.toNat ∘ fun (c : Nat) => (c : Int)) = us := by
      have : ∀ u ∈ us, (Int.toNat ∘ fun (c : Nat) => (c : Int)) u = u := fun u _ => Int.toNat_natCast u
      rw [List.map_congr_left this]
      exact List.map_id _
    rw [e] at this
    exact this
structure Tb34 (T Ts Tc Tk Tr : Addr) (H : Hp) : Prop where
  t1 : H T = some (TabO T)
  t2 : H Ts = some (TabO Ts)
  t3 : H Tc = some (TabO Tc)
  t4 : H Tk = some (TabO Tk)
  t5 : H Tr = some (TabO Tr)
theorem Tb34.same {T Ts Tc Tk Tr : Addr} {H G : Hp} (h : Tb34 T Ts Tc Tk Tr H) (s : Same H G) : Tb34 T Ts Tc Tk Tr G := ⟨s _ _ h.t1, s _ _ h.t2, s _ _ h.t3, s _ _ h.t4, s _ _ h.t5⟩
theorem Tb34.but {T Ts Tc Tk Tr j : Addr} {H G : Hp} {n : Nat} (h : Tb34 T Ts Tc Tk Tr H) (hj : Jar H j n) (u : But j H G) : Tb34 T Ts Tc Tk Tr G := by
  have k : ∀ {t : Addr}, H t = some (TabO t) → G t = some (TabO t) := fun {t} h => u _ _ (fun e => by
    obtain ⟨_, _, _, q, _⟩ := hj
    rw [e, q] at h
    cases h) h
  exact ⟨k h.t1, k h.t2, k h.t3, k h.t4, k h.t5⟩
def sp_lright (T Ts Tc Tk Tr : Addr) : Sp := fun vs H Q _ => ∃ (j : Addr) (n m z : Nat), vs = [V.ref j, V.int m, V.int z] ∧ Jar H j n ∧ n ≤ 300000 ∧ 1 ≤ m ∧ m ≤ 8 ∧ z ≤ 60 ∧ (z ≤ 8 → m ≤ 5 ∨ z ≤ 4) ∧ Tb34 T Ts Tc Tk Tr H ∧ ∀ H', But j H H' → Fre H H' → Jar H' j (n + 100) → Q (.bl true) H'
theorem kq_getD {n i : Nat} (h : i < n) : (kq n).getD i (1, 2) = ((i : Int) + 1, (i : Int) + 2) := by
  rw [List.getD_eq_getElem?_getD, kq_get h]
  rfl
theorem snoc_all {us : List Addr} {u : Addr} {R : Nat → Addr → Prop} (h : ∀ i a, us[i]? = some a → R i a) (h2 : R us.length u) : ∀ i a, (us ++ [u])[i]? = some a → R i a := fun i a e => by
  by_cases hi : i < us.length
  · rw [List.getElem?_append_left hi] at e; exact h i a e
  · have hi2 : i = us.length := by
      have := (List.getElem?_eq_some_iff.mp e).1
      rw [List.length_append] at this
      simp at this
      omega
    subst hi2
    rw [List.getElem?_append_right (Nat.le_refl _), Nat.sub_self] at e
    rw [← Option.some.inj e]
    exact h2

theorem ok__law_right {f : Addr} {fd : FuncData}  (F : Fun K "_law_right" "_law_right" s__law_right f fd) (B : Bl mg) {T Ts Tc Tk Tr C1 C2 : Addr} (ER_TooMany : Er K mg "TooMany" C2) (C__law_spots : Cal P w K mg base 2 "_law_spots" ["jar", "many", "size"] sp_lspots) (C_pure_content : Cal P w K mg base 4 "pure_content" ["count", "liquid"] sp_pure_content) (C_topped_by : Cal P w K mg base 9 "topped_by" ["content", "keeps", "row"] (sp_topped_by Tc Tk Tr)) (C__law_plain : Cal P w K mg base 2 "_law_plain" ["numbers_here"] sp_without_divisor) (C__law_ways : Cal P w K mg base 2 "_law_ways" ["counts_here"] (sp_ways ())) (C_histories_along : CalE P w K mg base 10 "histories_along" ["content", "keeps"] (sp_along T Ts Tc Tk C1 C2)) (C_is_one_left : Cal P w K mg base 9 "is_one_left" ["keeps"] (sp_one_left Tk)) (C__law_arranged : Cal P w K mg base 11 "_law_arranged" ["counts_here"] sp_arrU) : FnOk P w K mg base CX0 12 f fd ["jar", "many", "size"] (sp_lright T Ts Tc Tk Tr) := by
  refine F.ok sc__law_right (fun vs H Q E h => ?_) (fun cdv A outer s H vs Q E hr h => ?_)
  · obtain ⟨j, n, m, z, rfl, _⟩ := h; rfl
  · obtain ⟨j, n, m, z, rfl, hj, hn, m1, m8, z60, hmz, tb, qq⟩ := h
    have nd := sc__law_right.nd
    refine ⟨_, (pss_cons (ps_setLc (i := 3) (own := [("spot", 10)]) (g := gName 10) rfl nd rfl rfl (sw_true rfl rfl rfl (by decide +kernel)) (pi_range2 rfl B.range (pa_cons pe_int (pa_cons (pe_op op_add (pv 2) pe_int) pa_nil))) (blkOk_by (own := [("spot", 10)]) (N := ["jar", "many", "size", "keeps_here", "used", "counts_here", "pot", "mixed", "is_many", "due", "spot", "row_here"]) (sc := defScope s__law_right) (by decide +kernel)) (fun _ _ _ _ _ => (pg_name (i := 10) nd rfl (Or.inl rfl))) (fun _ _ _ _ _ => pts_nil) (fun _ _ _ _ _ => (pe_tup (pa_cons (pv 10) (pa_cons (pe_op op_add (pv 10) pe_int) pa_nil)))))
      (pss_cons (ps_set (i := 4) nd rfl (Or.inr rfl) (pe_cal C__law_spots (hr.mono (by decide)) (pa_cons (pv 0) (pa_cons (pv 1) (pa_cons (pe_op op_add (pv 2) pe_int) pa_nil)))))
      (pss_cons (ps_setLc (i := 5) (own := [("spot", 10)]) (g := gName 10) rfl nd rfl rfl (sw_true rfl rfl rfl (by decide +kernel)) (pi_range1 rfl B.range (pa_cons (pv 1) pa_nil)) (blkOk_by (own := [("spot", 10)]) (N := ["jar", "many", "size", "keeps_here", "used", "counts_here", "pot", "mixed", "is_many", "due", "spot", "row_here"]) (sc := defScope s__law_right) (by decide +kernel)) (fun _ _ _ _ _ => (pg_name (i := 10) nd rfl (Or.inl rfl))) (fun _ _ _ _ _ => pts_nil) (fun _ _ _ _ _ => (pe_lcntK (K := K) rfl (pe_bm PySem.F.plainAttrs_list PySem.F.slot_list_count PySem.F.type_list_count mt_lcount (pv 4) (pa_cons (pv 10) pa_nil)))))
      (pss_cons (ps_set (i := 6) nd rfl (Or.inl rfl) (pe_cal C_topped_by (hr.mono (by decide)) (pa_cons (pe_cal C_pure_content (hr.mono (by decide)) (pa_cons (pv 1) (pa_cons (pe_ix ix_list (pv 4) pe_int (fun _ _ => rfl)) pa_nil))) (pa_cons (pv 3) (pa_cons (pe_slice sl_list (pv 4) (po_some pe_int) po_none) pa_nil)))))
      (pss_cons (ps_if (pt_cmpR (op_neD hr.units) (pv 6) (pe_cal C__law_plain (hr.mono (by decide)) (pa_cons (pv 5) pa_nil)) (nomark _))
      (pss_one (ps_ret pe_bl)) pss_nil)
      (pss_cons (ps_set (i := 7) nd rfl (Or.inl rfl) (pe_callB cr_sorted (by rfl) B.sorted (by decide +kernel) (pa_cons (pv 4) pa_nil)))
      (pss_cons (ps_if (pt_cmpR (op_neD hr.units) (pe_cal C_topped_by (hr.mono (by decide)) (pa_cons (pe_cal C_pure_content (hr.mono (by decide)) (pa_cons (pv 1) (pa_cons (pe_ix ix_list (pv 7) pe_int (fun _ _ => rfl)) pa_nil))) (pa_cons (pv 3) (pa_cons (pe_slice sl_list (pv 7) (po_some pe_int) po_none) pa_nil)))) (pv 6) (nomark _))
      (pss_one (ps_ret pe_bl)) pss_nil)
      (pss_cons (ps_if (pt_cmpR op_gt (pv 2) pe_int (nomark _))
      (pss_one (ps_ret pe_bl)) pss_nil)
      (pss_cons (ps_if (pt_cmpR op_gt (pe_cal C__law_ways (hr.mono (by decide)) (pa_cons (pv 5) pa_nil)) pe_int (nomark _))
      (pss_cons (ps_set (i := 8) nd rfl (Or.inl rfl) pe_bl)
      (pss_cons (ps_try_only rfl rfl ⟨rfl, by decide, .inl ER_TooMany.at_⟩ takes0 (fun W pn xe tk po => (pss_one (ps_expr (pe_calE C_histories_along (hr.mono (by decide)) tk (pa_cons (pv 6) (pa_cons (pv 3) pa_nil)))))) (fun a oe cls d pn _ _ => (pss_one (ps_set (i := 8) nd rfl (Or.inl rfl) pe_bl))))
      (pss_one (ps_ret (pe_and (pv 8) (pe_one (pe_not (pe_cal C_is_one_left (hr.mono (by decide)) (pa_cons (pv 3) pa_nil))))))))) pss_nil)
      (pss_cons (ps_setLc (i := 9) (own := [("row_here", 11)]) (g := gName 11) rfl nd rfl rfl (sw_true rfl rfl rfl (by decide +kernel)) (pi_list (pe_cal C__law_arranged (hr.mono (by decide)) (pa_cons (pv 5) pa_nil))) (blkOk_by (own := [("row_here", 11)]) (N := ["jar", "many", "size", "keeps_here", "used", "counts_here", "pot", "mixed", "is_many", "due", "spot", "row_here"]) (sc := defScope s__law_right) (by decide +kernel)) (fun _ _ _ _ _ => (pg_name (i := 11) nd rfl (Or.inl rfl))) (fun _ _ _ _ _ => pts_nil) (fun _ _ _ _ _ => (pe_tup (pa_cons (pe_ix (ix_listK (K := K) rfl) (pv 11) pe_int (fun _ _ => rfl)) (pa_cons (pe_slice (sl_listK (K := K) rfl) (pv 11) (po_some pe_int) po_none) pa_nil)))))
      (pss_one (ps_ret (pe_and (pe_cmpR op_eq (pe_callB call_len_seq (by rfl) B.len PySem.boot_len (pa_cons (pv 9) pa_nil)) (pe_cal C__law_ways (hr.mono (by decide)) (pa_cons (pv 5) pa_nil)) (nomark _)) (pe_one (pe_cmpR (op_eqD hr.units) (pe_calE C_histories_along (hr.mono (by decide)) takes0 (pa_cons (pv 6) (pa_cons (pv 3) pa_nil))) (pv 9) (nomark _)))))))))))))))), ?_⟩
    refine ⟨.int (z : Nat), rfl, _, 1, rfl, rfl, ?_⟩
    refine ⟨1, ((z : Nat) : Int) + 1, rfl, ⟨by omega, by omega, by omega, by omega⟩, fun D nD => ?_⟩
    refine lc_range (lo := 1) (n := (((z : Nat) : Int) + 1 - 1).toNat) (fun k H' => ∃ ts : List Addr, ts.length = k ∧ (∀ i t, ts[i]? = some t → t ≠ D ∧ H' t = some (.tup [.int ((i : Nat) + 1 : Int), .int ((i : Nat) + 2 : Int)])) ∧ H' D = some (.lst (ts.map V.ref)) ∧ Same H H') ⟨[], rfl, (fun i t h => by cases h), upd_same, sameN nD⟩ (fun k H' hk ⟨ts, a1, a2, a3, a4⟩ => ?_) (fun G1 ⟨ts, a1, a2, a3, a4⟩ => ?_)
    · have hk60 : k < 60 := by omega
      refine ⟨rfl, .int _, rfl, .int _, rfl, _, 1, rfl, rfl, by show 2 ≤ 16777216; decide, fun u nu => ?_⟩
      have e1 : (1 : Int) + ((k : Nat) : Int) = ((k : Nat) : Int) + 1 := by omega
      dsimp only
      rw [e1, show ((k : Nat) : Int) + 1 + 1 = ((k : Nat) : Int) + 2 by omega]
      have su := sameN (o := HO.tup [V.int (((k : Nat) : Int) + 1), V.int (((k : Nat) : Int) + 2)]) nu
      have hu : upd H' u (.tup [.int (((k : Nat) : Int) + 1), .int (((k : Nat) : Int) + 2)]) u = some (.tup [.int (((k : Nat) : Int) + 1), .int (((k : Nat) : Int) + 2)]) := upd_same
      have uD : u ≠ D := fun e => by rw [e, a3] at nu; cases nu
      generalize upd H' u (.tup [.int (((k : Nat) : Int) + 1), .int (((k : Nat) : Int) + 2)]) = G8 at su hu
      refine ⟨_, su _ _ a3, by rw [List.length_map, a1]; show _ < 16777216; omega, ts ++ [u], by rw [List.length_append, a1]; rfl, snoc_all (fun i t h' => ?_) ?_, by rw [upd_same, List.map_append]; rfl, fun y o e => ?_⟩
      · obtain ⟨w1, w2⟩ := a2 i t h'
        exact ⟨w1, by rw [upd_ne w1]; exact su _ _ w2⟩
      · exact ⟨uD, by rw [upd_ne uD, hu, a1]⟩
      · rw [upd_ne (ne_of_none e nD)]; exact su _ _ (a4 _ _ e)
    have a1 : ts.length = z := by omega
    have K1 : Keeps G1 D ts (kq z) := ⟨a3, by rw [kq_len, a1], fun i t h => by
      have hi := (List.getElem?_eq_some_iff.mp h).1
      rw [kq_getD (by omega)]
      exact (a2 i t h).2⟩
    have j1 := hj.keep a4
    refine ⟨.ref j, rfl, .int (m : Nat), rfl, .int (z : Nat), rfl, _, 1, rfl, rfl, j, n, m, z + 1, rfl, j1, by omega, m1, m8, by omega, fun r us G2 u2 f2 nr j2 hr lc hlt => ?_⟩
    have Dj : D ≠ j := fun e => by obtain ⟨_, _, _, q, _⟩ := hj; rw [e, q] at nD; cases nD
    have K2' : Keeps G2 D ts (kq z) := ⟨u2 _ _ Dj K1.at_, K1.len, fun i t h => u2 _ _ (fun e => by
      have := (a2 i t h).2
      obtain ⟨_, _, _, q, _⟩ := j1
      rw [e, q] at this
      cases this) (K1.tup i t h)⟩
    have u02 : But j H G2 := (But.of a4).trans u2
    have f02 : Fre H G2 := fun x hx => a4.free (f2 _ hx)
    have tb2 := tb.but hj u02
    have fin : ∀ G', Same G2 G' → Q (.bl true) G' := fun G' s => qq G' (u02.trans (But.of s)) (f02.trans (Fre.of s)) ((j2.keep s).le (by omega))
    clear a2 a3 a4 K1 j1 u2 f2 u02 f02 tb hj nD nr j2
    obtain ⟨s, cs, rfl⟩ : ∃ s cs, us = s :: cs := by
      cases us with
      | nil => simp at lc
      | cons s cs => exact ⟨s, cs, rfl⟩
    have lcs : cs.length = z := by rw [List.length_cons] at lc; omega
    have ok : UsOk m (s :: cs) z := ⟨hlt, m8, lc, z60⟩
    have hs : s < m := hlt s List.mem_cons_self
    have hcs : ∀ c ∈ cs, c < m := fun c hc => hlt c (List.mem_cons_of_mem _ hc)
    refine ⟨.int (m : Nat), rfl, (m : Nat), rfl, by omega, by omega, fun C nC => ?_⟩
    refine lc_range (lo := 0) (n := ((m : Nat) : Int).toNat) (fun k H' => H' C = some (.lst (((List.range k).map fun i => (((s :: cs).count i : Nat) : Int)).map V.int)) ∧ Same G2 H') ⟨upd_same, sameN nC⟩ (fun i H' hi ⟨p1, p2⟩ => ?_) (fun G3 ⟨p1, p2⟩ => ?_)
    · have hr' : SqL K H' r ((rowI (s :: cs)).map V.int) := SqL.of (p2 _ _ hr)
      have e0 : (0 : Int) + ((i : Nat) : Int) = ((i : Nat) : Int) := Int.zero_add _
      refine ⟨rfl, .ref r, rfl, .inl ⟨rfl, _, hr'⟩, .int _, rfl, r, rowI (s :: cs), ((i : Nat) : Int), rfl, by rw [e0], hr', _, p1, by rw [List.length_map, List.length_map, List.length_range]; show i < 16777216; omega, ?_, fun y o e => ?_⟩
      · rw [upd_same, List.range_succ, List.map_append, List.map_append, count_rowI]
        rfl
      · rw [upd_ne (ne_of_none e nC)]; exact p2 _ _ e
    rw [Int.toNat_natCast] at p1
    have hC3 : LI G3 C (cntU m (s :: cs)) := p1
    have tb3 := tb2.same p2
    have fin3 : ∀ G', Same G3 G' → Q (.bl true) G' := fun G' s => fin G' (p2.trans s)
    have hr3 : LI G3 r (rowI (s :: cs)) := p2 _ _ hr
    have K3 := K2'.same p2
    clear p1 p2 fin hr K2' tb2 nC
    have w7 : ∀ {s0 : Nat}, s0 < m → (pur' m s0).sum < 2 ^ 7000 := fun h => by rw [pur'_sum h]; exact Int.lt_of_lt_of_le (by decide : (1 : Int) < 2 ^ 1) (pow_le_of (by decide))
    refine ⟨.int (m : Nat), rfl, .ref r, rfl, r, _, (0 : Int), .int (s : Nat), rfl, rfl, SqL.of hr3, atI_nat (j := 0) rfl, m, s, rfl, m1, m8, hs, fun p0 G4 s4 n4 e4 => ?_⟩
    refine ⟨.ref D, rfl, .ref r, rfl, 1, rfl, r, _, rfl, SqL.of (s4 _ _ hr3), fun q1 nq1 => ?_⟩
    rw [cut_tail, show ((rowI (s :: cs)).map V.int).drop 1 = (rowI cs).map V.int from rfl]
    have s5 := sameN (o := HO.lst ((rowI cs).map V.int)) nq1
    have h5 : LI (upd G4 q1 (.lst ((rowI cs).map V.int))) q1 (rowI cs) := upd_same
    generalize upd G4 q1 (.lst ((rowI cs).map V.int)) = G5 at s5 h5
    have s35 := s4.trans s5
    have tb5 := tb3.same s35
    refine ⟨p0, D, q1, pur' m s, ts, kq z, cs, rfl, s5 _ _ e4, K3.same s35, h5, ok.row, w7 hs, tb5.t3, tb5.t4, tb5.t5, fun p G6 s6 n6 e6 => ?_⟩
    rw [ok.ctn] at e6
    have s36 := s35.trans s6
    clear e4 h5 s4 s5 s6 tb5 s35 n4 nq1
    refine ⟨.ref p, rfl, .ref C, rfl, C, cntU m (s :: cs), rfl, s36 _ _ hC3, cntU_amt hlt (by rw [lc]; omega), by rw [cntU_len]; omega, ok.gcd, fun pl G7 s7 n7 e7 => ?_⟩
    refine ⟨_, _, dp_li (s7 _ _ e6), dp_li e7, shaped_ints _, shaped_ints _, _, rfl, ?_⟩
    rw [eqv_ints]
    have s37 := s36.trans s7
    have e6' := s7 _ _ e6
    refine ⟨.ref r, rfl, r, rowI (s :: cs), rfl, SqL.of (s37 _ _ hr3), by rw [rowI_len, lc]; omega, fun ns' pm hperm _ npm => ?_⟩
    obtain ⟨vs, rfl, hvs⟩ := rowI_perm hperm
    have s8 := sameN (o := HO.lst ((rowI vs).map V.int)) npm
    have h8 : LI (upd G7 pm (.lst ((rowI vs).map V.int))) pm (rowI vs) := upd_same
    generalize upd G7 pm (.lst ((rowI vs).map V.int)) = G8 at s8 h8
    have okv := ok.perm hvs
    have ev := cntU_perm (m := m) hvs
    obtain ⟨s', cs', rfl⟩ : ∃ s' cs', vs = s' :: cs' := by
      cases vs with
      | nil => have := okv.len; simp at this
      | cons s cs => exact ⟨s, cs, rfl⟩
    have hs' : s' < m := okv.lt s' List.mem_cons_self
    have s38 := s37.trans s8
    refine ⟨.int (m : Nat), rfl, .ref pm, rfl, pm, _, (0 : Int), .int (s' : Nat), rfl, rfl, SqL.of h8, atI_nat (j := 0) rfl, m, s', rfl, m1, m8, hs', fun p1 G9 s9 n9 e9 => ?_⟩
    refine ⟨.ref D, rfl, .ref pm, rfl, 1, rfl, pm, _, rfl, SqL.of (s9 _ _ h8), fun q2 nq2 => ?_⟩
    rw [cut_tail, show ((rowI (s' :: cs')).map V.int).drop 1 = (rowI cs').map V.int from rfl]
    have s10 := sameN (o := HO.lst ((rowI cs').map V.int)) nq2
    have h10 : LI (upd G9 q2 (.lst ((rowI cs').map V.int))) q2 (rowI cs') := upd_same
    generalize upd G9 q2 (.lst ((rowI cs').map V.int)) = Ga at s10 h10
    have s3a := s38.trans (s9.trans s10)
    have tba := tb3.same s3a
    refine ⟨p1, D, q2, pur' m s', ts, kq z, cs', rfl, s10 _ _ e9, K3.same s3a, h10, okv.row, w7 hs', tba.t3, tba.t4, tba.t5, fun pv Gb s11 n11 e11 => ?_⟩
    rw [okv.ctn, ev] at e11
    have s7b := s8.trans ((s9.trans s10).trans s11)
    have e6b := s7b _ _ e6'
    refine ⟨.ref p, rfl, _, _, dp_li e11, dp_li e6b, shaped_ints _, shaped_ints _, _, rfl, ?_⟩
    rw [eqv_ints]
    have s3b := s37.trans s7b
    have fin : ∀ G', Same Gb G' → Q (.bl true) G' := fun G' s => fin3 G' (s3b.trans s)
    have hCb := s3b _ _ hC3
    have Kb := K3.same s3b
    have tbb := tb3.same s3b
    clear e9 h10 s9 s10 s11 tba s3a e11 s7b e6' s37 s36 s38 h8 e6 e7 s7 hC3 K3 tb3 fin3 s3b s8 hr3 okv ev hvs hperm hs'
    refine ⟨.int (z : Nat), rfl, _, _, rfl, rfl, _, rfl, ?_⟩
    by_cases hz8 : z ≤ 8
    case neg =>
      rw [decide_eq_true (show (8 : Int) < ((z : Nat) : Int) by omega)]
      exact fin Gb fun _ _ h => h
    rw [decide_eq_false (show ¬ (8 : Int) < ((z : Nat) : Int) by omega)]
    have hsum := ok.sum
    have lC : (cntU m (s :: cs)).length = m := cntU_len _ _
    have wl := ways_kq_len ok
    have KO : KeepsOk (kq z) := ⟨by rw [kq_len]; omega, kq_kep (by omega)⟩
    have x6 : (plain (cntU m (s :: cs))).sum < 2 ^ 6000 := by
      have := plain_sum_le (cntU_amt hlt (by rw [lc]; omega))
      rw [hsum] at this
      exact Int.lt_of_lt_of_le (show (plain (cntU m (s :: cs))).sum < 2 ^ 6 by omega) (pow_le_of (by decide))
    refine ⟨.ref C, rfl, C, cntU m (s :: cs), z + 1, rfl, hCb, cntU_nn _ _, hsum, by omega, by rw [lC]; exact m8, ?_⟩
    refine ⟨_, _, rfl, rfl, _, rfl, ?_⟩
    by_cases h5 : 500 < mult (cntU m (s :: cs))
    · rw [decide_eq_true (show (500 : Int) < ((mult (cntU m (s :: cs)) : Nat) : Int) by omega)]
      refine iteT ⟨.ref p, rfl, .ref D, rfl, p, D, plain (cntU m (s :: cs)), ts, kq z, rfl, e6b, ok.con, x6, Kb, KO, fun _ => tot_kq ok hz8 (hmz hz8), tbb.t1, tbb.t2, tbb.t3, tbb.t4, fun hh => absurd (.inl (by rw [kq_len]; exact hz8)) hh, fun _ _ Gc sc => ?_, fun _ h6 => absurd h6 (by rw [wl]; omega)⟩
      refine ⟨true, ER_TooMany.me, (fun _ a ha => ?_), fun z => nomatch z⟩
      have hz1 : 1 ≤ z := by
        refine Nat.not_lt.mp fun zz => ?_
        have e0 : z = 0 := by omega
        have h1 := arr_len (cntU_nn m (s :: cs)) hsum
        have h2 := arr_le8 (n := z + 1) (c := cntU m (s :: cs)) (by rw [lC]; exact m8)
        rw [h1, e0] at h2
        omega
      refine ⟨.bl true, rfl, true, rfl, .ref D, rfl, D, ts, kq z, rfl, Kb.same sc, KO, (tbb.same sc).t4, ?_⟩
      rw [due_kq hz1]
      exact ⟨_, rfl, fin Gc sc⟩
    · rw [decide_eq_false (show ¬ (500 : Int) < ((mult (cntU m (s :: cs)) : Nat) : Int) by omega)]
      have al := arr_len (cntU_nn m (s :: cs)) hsum
      refine iteF ⟨.ref C, rfl, z + 1, by omega, C, cntU m (s :: cs), rfl, hCb, cntU_nn _ _, hsum, by omega, by rw [lC]; exact m8, by rw [al]; omega, fun R Gc sc nR hR => ?_⟩
      obtain ⟨rs, hRat, rR⟩ := hR
      refine ⟨R, rfl, ⟨_, SqL.of hRat⟩, fun B nB => ?_⟩
      refine lc_list (K := K) (xs := rs.map V.ref) (fun k H' => PvA (HisO Gb) Gc B (((arr (z + 1) (cntU m (s :: cs))).take k).map hdl) H') (PvA.zero nB) (fun k H' _ pw => SqL.of (pw.s _ _ hRat)) (fun k y H' hy pw => ?_) (fun Gd pw => ?_)
      · obtain ⟨a, hjj, rfl, la⟩ := LO.at_ rR hy
        have la' := pw.s _ _ la
        obtain ⟨s0, c0, e0⟩ := arr_ne (List.getElem_mem hjj)
        have rl := arr_row _ (List.getElem_mem hjj)
        have ih : hdl (arr (z + 1) (cntU m (s :: cs)))[k] = (s0, c0) := by rw [e0]; rfl
        have hla : LI H' a (rowI (s0 :: c0)) := by rw [← e0]; exact la'
        refine ⟨rfl, .ref a, rfl, a, _, (0 : Int), .int (s0 : Nat), rfl, rfl, SqL.of hla, atI_nat (j := 0) rfl, .ref a, rfl, 1, rfl, a, _, rfl, SqL.of hla, fun q1 nq1 => ?_⟩
        rw [cut_tail, show ((rowI (s0 :: c0)).map V.int).drop 1 = (rowI c0).map V.int from rfl]
        have b1 := sameN (o := HO.lst ((rowI c0).map V.int)) nq1
        have hq1 : LI (upd H' q1 (.lst ((rowI c0).map V.int))) q1 (rowI c0) := upd_same
        generalize upd H' q1 (.lst ((rowI c0).map V.int)) = H5 at b1 hq1
        refine ⟨by show 2 ≤ 16777216; decide, fun t nt => ?_⟩
        have b2 := sameN (o := HO.tup [V.int (s0 : Nat), V.ref q1]) nt
        have ht : upd H5 t (.tup [.int (s0 : Nat), .ref q1]) t = some (.tup [.int (s0 : Nat), .ref q1]) := upd_same
        generalize upd H5 t (.tup [.int (s0 : Nat), .ref q1]) = H6 at b2 ht
        obtain ⟨ac, hB5, _⟩ := id pw.d
        have q1B : q1 ≠ B := fun e => by rw [e, hB5] at nq1; cases nq1
        have tB : t ≠ B := fun e => by rw [e, b1 _ _ hB5] at nt; cases nt
        have sBb := sc.trans pw.s
        obtain ⟨acc, f1, f2, f3⟩ := pw.ext hisO_mo nB (b1.trans b2) (q := t) (b := (s0, c0)) (by rw [List.length_map, List.length_take]; omega) ⟨q1, by rw [hid_ne tB]; exact ht, by show hid B H6 q1 = _; rw [hid_ne q1B]; exact b2 _ _ hq1, sBb.free (b1.free nt), sBb.free nq1⟩
        refine ⟨acc, f1, f2, ?_⟩
        rw [List.take_add_one, List.getElem?_eq_getElem hjj, List.map_append]
        rw [show List.map hdl (some (arr (z + 1) (cntU m (s :: cs)))[k]).toList = [(s0, c0)] by show [hdl _] = _; rw [ih]]
        exact f3
      · rw [List.length_map, rR.length, List.take_length] at pw
        have hB := pw.fin hisO_mo
        have sbd := sc.trans pw.s
        have hrow : ∀ h ∈ (arr (z + 1) (cntU m (s :: cs))).map hdl, h.2.length ≤ 1000 := fun h hh => by
          obtain ⟨r0, hr0, rfl⟩ := List.mem_map.mp hh
          have := arr_row r0 hr0
          show r0.tail.length ≤ 1000
          rw [List.length_tail]
          omega
        have hlen : ((arr (z + 1) (cntU m (s :: cs))).map hdl).length ≤ 1000 := by rw [List.length_map, al]; omega
        obtain ⟨bs, hBat, rB⟩ := id hB
        have bl := rB.length
        rw [List.length_map] at bl
        refine ⟨.ref B, rfl, B, _, rfl, .inl (SqL.of hBat), .ref C, rfl, C, cntU m (s :: cs), z + 1, rfl, sbd _ _ hCb, cntU_nn _ _, hsum, by omega, by rw [lC]; exact m8, rfl, ?_⟩
        rw [List.length_map, bl, al, decide_eq_true rfl]
        refine ⟨true, rfl, ?_⟩
        have tbd := tbb.same sbd
        refine iteT ⟨.ref p, rfl, .ref D, rfl, p, D, plain (cntU m (s :: cs)), ts, kq z, rfl, sbd _ _ e6b, ok.con, x6, Kb.same sbd, KO, fun _ => tot_kq ok hz8 (hmz hz8), tbd.t1, tbd.t2, tbd.t3, tbd.t4, fun hh => hh (.inl (by rw [kq_len]; exact hz8)), fun _ h6 => absurd h6 (by rw [wl]; omega), fun _ _ q Ge se nq hl => ?_⟩
        rw [hist_kq ok] at hl
        have tL := tr_his hl hlen hrow
        have tB := (tr_his hB hlen hrow).same se
        refine ⟨.ref B, rfl, _, _, tL.dp, tB.dp, tL.shaped (by decide), tB.shaped (by decide), ?_⟩
        rw [tL.eqv]
        exact fin Ge (sbd.trans se)


end
end K34
end

section
set_option Elab.async false
set_option linter.all false
set_option maxRecDepth 100000
set_option maxHeartbeats 4000000
namespace K34
open PySem PySem.Spec PyProof.Rows L2 GxR Gx Ma Mc
section
variable {P : Program} {w : World} {K : PySem.W.Frag} {mg : Str → Option Value} {base : Heap}

def sp_law (K : PySem.W.Frag) (T Ts Tc Tk Tr : Addr) : Sp := fun vs H Q _ => ∃ (s : Addr) (ns : List Int), vs = [V.ref s] ∧ SqL K H s (ns.map V.int) ∧ ns.length ≤ 63 ∧ Tb34 T Ts Tc Tk Tr H ∧ ∀ H', Tb34 T Ts Tc Tk Tr H' → Q (.bl true) H'

theorem ok_law {f : Addr} {fd : FuncData}  (F : Fun K "law" "law" s_law f fd) (B : Bl mg) {T Ts Tc Tk Tr : Addr} (C__law_jar : Cal P w K mg base 1 "_law_jar" ["script", "k"] (sp_jar K)) (C__law_dip : Cal P w K mg base 1 "_law_dip" ["jar", "many"] sp_dip) (C__law_right : Cal P w K mg base 12 "_law_right" ["jar", "many", "size"] (sp_lright T Ts Tc Tk Tr)) : FnG P w K mg base 13 f fd ["script"] (sp_law K T Ts Tc Tk Tr) := by
  refine fnG_of F sc_law (fun vs H Q E h => ?_) (fun cdv A outer s H vs Q E hr hgd h => ?_)
  · obtain ⟨s, ns, rfl, _⟩ := h; rfl
  · obtain ⟨s, ns, rfl, hs, hlen, tb, q⟩ := h
    have nd := sc_law.nd
    refine ⟨_, (pss_cons (ps_for PassesOwn.never rfl (pi_range1 rfl B.range (pa_cons (pe_callB (call_max2 rfl) (by rfl) B.max (by decide +kernel) (pa_cons pe_int (pa_cons (pe_callB (call_min2 rfl) (by rfl) B.min (by decide +kernel) (pa_cons pe_int (pa_cons (pe_callB call_len_seq (by rfl) B.len PySem.boot_len (pa_cons (pv 0) pa_nil)) pa_nil))) pa_nil))) pa_nil)) (pg_name (i := 1) nd rfl (Or.inl rfl)) (pss_cons (ps_set (i := 2) nd rfl (Or.inl rfl) (pe_cal C__law_jar (hr.mono (by decide)) (pa_cons (pv 0) (pa_cons (pv 1) pa_nil))))
      (pss_cons (ps_for PassesOwn.never rfl (pi_range1 rfl B.range (pa_cons pe_int pa_nil)) (pg_name (i := 3) nd rfl (Or.inl rfl)) (pss_one (ps_if (pt_not (pt_val (pe_cal C__law_right (hr.mono (by decide)) (pa_cons (pv 2) (pa_cons (pe_op op_add pe_int (pe_cal C__law_dip (hr.mono (by decide)) (pa_cons (pv 2) (pa_cons pe_int pa_nil)))) (pa_cons (pe_cal C__law_dip (hr.mono (by decide)) (pa_cons (pv 2) (pa_cons pe_int pa_nil))) pa_nil))))))
      (pss_one (ps_ret pe_bl)) pss_nil)))
      (pss_cons (ps_if (pt_not (pt_val (pe_cal C__law_right (hr.mono (by decide)) (pa_cons (pv 2) (pa_cons (pe_op op_add pe_int (pe_cal C__law_dip (hr.mono (by decide)) (pa_cons (pv 2) (pa_cons pe_int pa_nil)))) (pa_cons (pe_op op_add pe_int (pe_cal C__law_dip (hr.mono (by decide)) (pa_cons (pv 2) (pa_cons pe_int pa_nil)))) pa_nil))))))
      (pss_one (ps_ret pe_bl)) pss_nil)
      (pss_one (ps_if (pt_not (pt_val (pe_cal C__law_right (hr.mono (by decide)) (pa_cons (pv 2) (pa_cons (pe_op op_add pe_int (pe_cal C__law_dip (hr.mono (by decide)) (pa_cons (pv 2) (pa_cons pe_int pa_nil)))) (pa_cons (pe_op op_add pe_int (pe_cal C__law_dip (hr.mono (by decide)) (pa_cons (pv 2) (pa_cons pe_int pa_nil)))) pa_nil))))))
      (pss_one (ps_ret pe_bl)) pss_nil))))))
      (pss_one (ps_ret (pe_cal C__law_right (hr.mono (by decide)) (pa_cons (pe_cal C__law_jar (hr.mono (by decide)) (pa_cons (pv 0) (pa_cons pe_int pa_nil))) (pa_cons (pe_op op_add pe_int (pe_cal C__law_dip (hr.mono (by decide)) (pa_cons (pe_cal C__law_jar (hr.mono (by decide)) (pa_cons (pv 0) (pa_cons pe_int pa_nil))) (pa_cons pe_int pa_nil)))) (pa_cons pe_int pa_nil))))))), ?_⟩
    refine ⟨.ref s, rfl, s, _, rfl, .inl hs, 3, _, rfl, 1, _, rfl, ?_⟩
    generalize hN : (if (if ((ns.map V.int).length : Int) < 3 then ((ns.map V.int).length : Int) else 3) > 1 then (if ((ns.map V.int).length : Int) < 3 then ((ns.map V.int).length : Int) else 3) else 1) = N
    have hN5 : N ≤ 3 := by
      rw [← hN]
      split <;> split <;> omega
    have hN1 : 1 ≤ N := by
      rw [← hN]
      split <;> split <;> omega
    refine ⟨N, rfl, by omega, by omega, ?_⟩
    refine for_range (lo := 0) (n := N.toNat) (fun i σ H' => ∃ y1 y2 y3, σ = [some (.ref s), y1, y2, y3] ∧ Same H H') ⟨none, none, none, rfl, sameR H⟩ (fun i σ H' hi ⟨y1, y2, y3, e1, e2⟩ => ?_) (fun σ H' ⟨y1, y2, y3, e1, e2⟩ => ?_)
    · subst e1
      refine ⟨.ref s, rfl, .int (0 + (i : Nat)), rfl, s, ns, i, by rw [Int.zero_add]; rfl, sql_same hs e2, by omega, fun j H1 s1 nj hj => ?_⟩
      have e3 := e2.trans s1
      have nj0 : H j = none := e2.free nj
      refine ⟨3, rfl, by decide, by decide, ?_⟩
      refine for_range (lo := 0) (n := 3) (fun t σ H' => ∃ z3, σ = [some (.ref s), some (.int (0 + (i : Nat))), some (.ref j), z3] ∧ Same H H' ∧ Jar H' j (200 * t)) ⟨_, rfl, e3, hj⟩ (fun t σ H2 ht ⟨z3, d1, d2, d3⟩ => ?_) (fun σ H2 ⟨z3, d1, d2, d3⟩ => ?_)
      · subst d1
        refine ⟨.ref j, rfl, .ref j, rfl, j, 2, _, rfl, d3, by omega, by decide, by decide +kernel, fun d H4 b4 f4 j4 x0 x1 => ⟨2, d, rfl, rfl, ?_⟩⟩
        obtain ⟨dn, rfl⟩ := Int.eq_ofNat_of_zero_le x0
        have d4 : Same H H4 := b4.same2 d2 nj0
        refine ⟨.ref j, rfl, j, 6, _, rfl, j4, by omega, by decide, by decide +kernel, fun e H5 b5 f5 j5 v0 v1 => ?_⟩
        obtain ⟨en, rfl⟩ := Int.eq_ofNat_of_zero_le v0
        have d5 : Same H H5 := b5.same2 d4 nj0
        have em : (2 : Int) + ((dn : Nat) : Int) = ((dn + 2 : Nat) : Int) := by omega
        dsimp only
        rw [em]
        refine ⟨j, _, dn + 2, en, rfl, j5, by omega, by omega, by omega, by omega, by omega, tb.same d5, fun H6 b6 f6 j6 => ⟨true, rfl, ?_⟩⟩
        exact ⟨_, rfl, b6.same2 d5 nj0, j6.le (by omega)⟩
      · subst d1
        refine ⟨.ref j, rfl, .ref j, rfl, j, 5, _, rfl, d3, by omega, by decide, by decide +kernel, fun d H4 b4 f4 j4 x0 x1 => ⟨4, d, rfl, rfl, ?_⟩⟩
        obtain ⟨dn, rfl⟩ := Int.eq_ofNat_of_zero_le x0
        have d4 : Same H H4 := b4.same2 d2 nj0
        refine ⟨.ref j, rfl, j, 2, _, rfl, j4, by omega, by decide, by decide +kernel, fun e H5 b5 f5 j5 v0 v1 => ⟨3, e, rfl, rfl, ?_⟩⟩
        obtain ⟨en, rfl⟩ := Int.eq_ofNat_of_zero_le v0
        have d5 : Same H H5 := b5.same2 d4 nj0
        have em : (4 : Int) + ((dn : Nat) : Int) = ((dn + 4 : Nat) : Int) := by omega
        have ee : (3 : Int) + ((en : Nat) : Int) = ((en + 3 : Nat) : Int) := by omega
        dsimp only
        rw [em, ee]
        refine ⟨j, _, dn + 4, en + 3, rfl, j5, by omega, by omega, by omega, by omega, by omega, tb.same d5, fun H6 b6 f6 j6 => ⟨true, rfl, ?_⟩⟩
        have d6 : Same H H6 := b6.same2 d5 nj0
        refine ⟨.ref j, rfl, .ref j, rfl, j, 8, _, rfl, j6, by omega, by decide, by decide +kernel, fun d' H7 b7 f7 j7 x0' x1' => ⟨1, d', rfl, rfl, ?_⟩⟩
        obtain ⟨dm, rfl⟩ := Int.eq_ofNat_of_zero_le x0'
        have d7 : Same H H7 := b7.same2 d6 nj0
        refine ⟨.ref j, rfl, j, 52, _, rfl, j7, by omega, by decide, by decide +kernel, fun e' H8 b8 f8 j8 v0' v1' => ⟨9, e', rfl, rfl, ?_⟩⟩
        obtain ⟨eq', rfl⟩ := Int.eq_ofNat_of_zero_le v0'
        have d8 : Same H H8 := b8.same2 d7 nj0
        have em' : (1 : Int) + ((dm : Nat) : Int) = ((dm + 1 : Nat) : Int) := by omega
        have ee' : (9 : Int) + ((eq' : Nat) : Int) = ((eq' + 9 : Nat) : Int) := by omega
        dsimp only
        rw [em', ee']
        refine ⟨j, _, dm + 1, eq' + 9, rfl, j8, by omega, by omega, by omega, by omega, by omega, tb.same d8, fun H9 b9 f9 j9 => ⟨true, rfl, ?_⟩⟩
        exact ⟨_, _, _, rfl, b9.same2 d8 nj0⟩
    · subst e1
      refine ⟨.ref s, rfl, s, ns, 0, rfl, sql_same hs e2, by omega, fun j H1 s1 nj hj => ?_⟩
      have e3 := e2.trans s1
      have nj0 : H j = none := e2.free nj
      refine ⟨.ref s, rfl, s, ns, 1, rfl, sql_same hs e3, by omega, fun j' H2 s2 nj' hj' => ?_⟩
      have e4 := e3.trans s2
      have nj1 : H j' = none := e3.free nj'
      refine ⟨j', 2, _, rfl, hj', by omega, by decide, by decide +kernel, fun d H4 b4 f4 j4 x0 x1 => ⟨2, d, rfl, rfl, ?_⟩⟩
      obtain ⟨dn, rfl⟩ := Int.eq_ofNat_of_zero_le x0
      have em : (2 : Int) + ((dn : Nat) : Int) = ((dn + 2 : Nat) : Int) := by omega
      dsimp only
      rw [em]
      have d4 : Same H H4 := b4.same2 e4 nj1
      have jj : j ≠ j' := fun e => by
        obtain ⟨_, _, _, q, _⟩ := hj
        rw [← e, q] at nj'
        cases nj'
      have hj4 : Jar H4 j 0 := by
        obtain ⟨a, b, c, q, r⟩ := hj
        exact ⟨a, b, c, b4 _ _ jj (s2 _ _ q), r⟩
      refine ⟨j, 0, dn + 2, 8, rfl, hj4, by omega, by omega, by omega, by omega, by omega, tb.same d4, fun H6 b6 f6 j6 => ?_⟩
      exact q H6 (tb.same (b6.same2 d4 nj0))

end
end K34
end

section
set_option Elab.async false
set_option linter.all false
/-! Gm: a method whose code grows a table -/
namespace Gx
open PySem PySem.Spec PyProof.Rows L2 GxR
structure DMC (K : PySem.W.Frag) (C : Addr) (m qual : Str) (st : Stmt) (c : Addr) : Prop where
  ex : ∃ f fd, FunC K m qual st f fd c ∧ Meth K C m f
section
variable {P : Program} {w : World} {K : PySem.W.Frag} {mg : Str → Option Value} {base : Heap} {k : Nat} {C : Addr} {x m qual : Str} {ps : List Str} {sp : Sp} {st : Stmt}
theorem mtC_mk {c : Addr} (D : DMC K C m qual st c) (hb : ∀ f fd, Fun K m qual st f fd → Binds K fd ps []) (F : ∀ f fd, FunC K m qual st f fd c → FnOk P w K mg base CX0 k f fd ps sp) : Mt P w K mg base k C m ps sp :=
  let ⟨f, fd, F0, m0⟩ := D.ex; ⟨⟨f, fd, F f fd F0, m0, hb f fd F0.fn⟩⟩
end
section
variable {K : PySem.W.Frag} {mg : Str → Option Value} {h : Heap} {C : Addr} {Goal : Prop}
theorem with_methC {y : Str} (tt : Addr) (KL : Kls K mg y C) {x qual : Str} {st : Stmt} {f cc : Addr} {oc : Value} {od an : Option Addr} {osl : Array (Option Value)} {kV doc pm ct : Value} (a : PySem.W.findIn K (.ref C) x = some (some (.ref f))) (i : PySem.W.isFn K (.ref f) = true)
    (l : K.lookup f = some ⟨oc, od, .func (PySem.W.fnOf x qual (defArgs st) (defBody st) (defScope st) .none kV doc pm an (.ref cc) ct), osl⟩) (c : PySem.W.codeIn K (.ref cc) qual = true) (k : PySem.W.keepIn K (.ref f) = true)
    (t : PySem.W.codeHdIn K cc tt = true) (n : K.lookup tt = none) (go : ∀ c, DMC K C x qual st c → PySem.W.codeHdIn K c tt = true → K.lookup tt = none → Goal) : Goal :=
  go cc ⟨⟨f, _, ⟨⟨oc, od, kV, doc, pm, an, ct, osl, rfl, l, c⟩, k⟩, ⟨a, i, k⟩⟩⟩ t n
theorem with_exm {x y : Str} {C1 C2 : Addr} (e1 : Er K mg x C1) (e2 : Er K mg y C2) (e : PySem.W.exmOne K (.ref C2) (.ref C1) = some false) (go : PySem.W.exmOne K (.ref C2) (.ref C1) = some false → Goal) : Goal := go e
end
/-- as LawE; the tables ts are known to be empty at the head -/
def LawM (l : PySem.W.OpenLaw) (q : Program) (w : World) (K : PySem.W.Frag) (k n : Nat) (x : Str) (mg : Str → Option Value) (fa : Addr) (ts : List Addr) : Prop :=
  ∃ (fd : FuncData) (tn : List (Str × Addr × Addr)) (sp : Sp), (∀ p ∈ tn, ((PySem.W.tabIn K p.1 = some p.2 ∧ ((recsOf q).any fun e => e.name == p.1) = true) ∨ (PySem.W.codeHdIn K p.2.1 p.2.2 = true ∧ p.2.2 ∈ ts)) ∧ K.lookup p.2.2 = none) ∧ (∀ (s : Shared) (u : Value), BindsTo s fd ⟨[u], []⟩ [(x, u)]) ∧
    (∀ (H : Hp) (a : Addr) (ns : List Int), ns.length ≤ n → (∀ z ∈ ns, Builtin.Int.intBits z ≤ 1048576) → (∀ p ∈ tn, H p.2.2 = some (TabO p.2.2)) → SqL K H a (ns.map V.int) → sp [.ref a] H (fun v H' => v = .bl true ∧ ∀ p ∈ tn, H' p.2.2 = some (TabO p.2.2)) E0) ∧
    ∀ base : Heap, K.In base → base.Ns mainGlobals mg → (∀ p ∈ tn, TabB base mg p.2.1 p.2.2) → FnG l.prog w K mg base k fa fd [x] sp
theorem walk_M {l : PySem.W.OpenLaw} {n k : Nat} {q : Program} {loose : List Str} {XP : (Str → Option Value) → Heap → Prop} {YP : World → Heap → Prop} {d : DefRec} {K : Params → PySem.W.Frag} {x : Str} (ts : List Addr)
    (hn : l.most = some n) (hn2 : n ≤ sizeLine) (hdf : d.params.defaults = []) (hr : Room k callerA) (hY : ∀ (w : World) (h : Heap), YP w h → (K w.params).In h) (hYT : ∀ (w : World) (h : Heap), YP w h → ∀ P ∈ ts, h.get? P = some (PySem.W.tabObj #[]))
    (F : ∀ (w : World) (mg : Str → Option Value) (fa : Addr) (h : Heap), (K w.params).In h → h.Ns mainGlobals mg → mg d.name = some (.ref fa) → LawM l q w (K w.params) k n x mg fa ts) :
    PySem.W.WalkO q loose XP YP l.row.toRowW d [] (fun f vs => PySem.call f vs) := by
  refine Att.attach_callB hn hdf fun w s₀ s1 mg mb fa o pm cd doc a vs ns G Y ho hd hcd hmg hobj hints hlen hbits hg => ?_
  have KX := hY w _ Y
  have KT := hYT w _ Y
  obtain ⟨fd, tn, sp, hT, hb, hsp, hF⟩ := F w mg fa _ KX G.T.g hmg
  have key : ∀ p ∈ tn, PySem.W.CodeHd s1.heap p.2.1 p.2.2 ∧ s1.heap.get? p.2.2 = some { cls := .none, data := .fields #[] } := fun p hp => by
    obtain ⟨h1 | h1, _⟩ := hT p hp
    · obtain ⟨h1, h2⟩ := h1
      cases e : (recsOf q).find? (fun e => e.name == p.1) with
      | none =>
        rw [List.find?_eq_none] at e
        obtain ⟨z, z1, z2⟩ := List.any_eq_true.mp h2
        exact absurd z2 (e z z1)
      | some d0 => exact PySem.W.tab_of G.T KX e h1
    · exact ⟨PySem.W.codeHd_of_K KX h1.1, KT _ h1.2⟩
  have tr : ∀ p ∈ tn.map (·.2), ∃ y ∈ tn, y.2 = p := fun p hp => let ⟨y, h1, h2⟩ := List.mem_map.mp hp; ⟨y, h1, h2⟩
  refine law_end (cs := tn.map (·.2)) KX G.T.g G.T.b G.T.builtins G.T.nolimit hg (fun p hp => ?_) (fun p hp => ?_) (fun p hp => ?_) G.T.bmain hobj hints (Nat.le_trans hlen hn2) hr (fun base h1 h2 h3 => hF base h1 h2 fun p hp => h3 p.2 (List.mem_map.mpr ⟨p, hp, rfl⟩)) hb fun H hH hS => ?_
  · obtain ⟨y, hy, e⟩ := tr p hp
    rw [← e]
    exact (key y hy).2
  · obtain ⟨y, hy, e⟩ := tr p hp
    rw [← e]
    exact (hT y hy).2
  · obtain ⟨y, hy, e⟩ := tr p hp
    rw [← e]
    exact (key y hy).1
  · have := hsp H a ns hlen hbits (fun p hp => hH p.2 (List.mem_map.mpr ⟨p, hp, rfl⟩)) hS
    have e : (fun (v : V) (H' : Hp) => v = V.bl true ∧ ∀ p ∈ tn.map (·.2), H' p.2 = some (TabO p.2)) = fun v H' => v = V.bl true ∧ ∀ p ∈ tn, H' p.2.2 = some (TabO p.2.2) := by
      funext v H'
      exact propext ⟨fun ⟨a, b⟩ => ⟨a, fun p hp => b p.2 (List.mem_map.mpr ⟨p, hp, rfl⟩)⟩, fun ⟨a, b⟩ => ⟨a, fun p hp => by
        obtain ⟨y, hy, e⟩ := tr p hp
        rw [← e]
        exact b y hy⟩⟩
    rw [e]
    exact this
end Gx
end

section
set_option Elab.async false
set_option linter.all false
set_option maxRecDepth 100000
set_option maxHeartbeats 4000000
namespace K34
open PySem PySem.Spec PyProof.Rows L2 GxR Gx Ma

theorem bd_ContentSearch___init__' {K : PySem.W.Frag} : ∀ f fd, Fun K "__init__" "ContentSearch.__init__" s_ContentSearch___init__ f fd → Binds K fd ["self", "choices"] [] := fun f fd F => F.binds fun _ _ _ _ _ _ us hl => match us, hl with | [_, _], _ => rfl
section
variable {P : Program} {w : World} {K : PySem.W.Frag} {mg : Str → Option Value} {base : Heap}
theorem arr_union {f : Addr} {fd : FuncData} (h : ∀ n, n ≤ 9 → FnOk P w K mg base CX0 (n + 2) f fd ["counts_here"] (sp_arr n)) : FnOk P w K mg base CX0 11 f fd ["counts_here"] sp_arrU :=
  ⟨fun vs H Q E ⟨n, _, q⟩ => by obtain ⟨l, c, rfl, _⟩ := q; rfl, fun A outer s H args us vs Q E hr he hb hv ⟨n, hn, q⟩ => ((h n hn).mono (by omega)).run A outer s H args us vs Q E hr he hb hv q⟩
end
theorem k34_end {l : PySem.W.OpenLaw} {q : Program} {w : World} {K : PySem.W.Frag} {mg : Str → Option Value} {fa : Addr} {c_ContentSearch_is_bottom P_ContentSearch_is_bottom c_count_of P_count_of c_is_list_of_amounts P_is_list_of_amounts c_is_list_of_keeps P_is_list_of_keeps c_is_list_of_liquids P_is_list_of_liquids : Addr} {ts : List Addr} {E_InvalidKept E_TooMany : Addr} {C_ContentSearch : Addr} (KL_ContentSearch : Kls K mg "ContentSearch" C_ContentSearch) (NC : CNA K C_ContentSearch) (BD_ContentSearch_undone : Bd K C_ContentSearch "undone") (EXM : PySem.W.exmOne K (.ref E_TooMany) (.ref E_InvalidKept) = some false) (hmg : mg "law" = some (.ref fa))
  (d_is_integer : DF K mg "is_integer" s_is_integer)
  (d_is_within : DF K mg "is_within" s_is_within)
  (d_is_pair_in_lowest_terms : DF K mg "is_pair_in_lowest_terms" s_is_pair_in_lowest_terms)
  (d_is_kept : DF K mg "is_kept" s_is_kept)
  (d_is_list_of_keeps : DC K mg "is_list_of_keeps" s_is_list_of_keeps c_is_list_of_keeps) (t_is_list_of_keeps : PySem.W.tabIn K "is_list_of_keeps" = some (c_is_list_of_keeps, P_is_list_of_keeps)) (n_is_list_of_keeps : K.lookup P_is_list_of_keeps = none) (r_is_list_of_keeps : ((recsOf q).any fun e => e.name == ("is_list_of_keeps" : Str)) = true)
  (d_is_list_of_liquids : DC K mg "is_list_of_liquids" s_is_list_of_liquids c_is_list_of_liquids) (t_is_list_of_liquids : PySem.W.tabIn K "is_list_of_liquids" = some (c_is_list_of_liquids, P_is_list_of_liquids)) (n_is_list_of_liquids : K.lookup P_is_list_of_liquids = none) (r_is_list_of_liquids : ((recsOf q).any fun e => e.name == ("is_list_of_liquids" : Str)) = true)
  (d_is_row : DF K mg "is_row" s_is_row)
  (d_check_keeps : DF K mg "check_keeps" s_check_keeps)
  (d_check_row : DF K mg "check_row" s_check_row)
  (d_check_liquid : DF K mg "check_liquid" s_check_liquid)
  (d_check_number : DF K mg "check_number" s_check_number)
  (d_common_divisor : DF K mg "common_divisor" s_common_divisor)
  (d_without_divisor : DF K mg "without_divisor" s_without_divisor)
  (d_is_content : DF K mg "is_content" s_is_content)
  (d_pure_content : DF K mg "pure_content" s_pure_content)
  (d_is_list_of_amounts : DC K mg "is_list_of_amounts" s_is_list_of_amounts c_is_list_of_amounts) (t_is_list_of_amounts : PySem.W.tabIn K "is_list_of_amounts" = some (c_is_list_of_amounts, P_is_list_of_amounts)) (n_is_list_of_amounts : K.lookup P_is_list_of_amounts = none) (r_is_list_of_amounts : ((recsOf q).any fun e => e.name == ("is_list_of_amounts" : Str)) = true)
  (d_check_content : DF K mg "check_content" s_check_content)
  (d_histories_along : DF K mg "histories_along" s_histories_along)
  (d_is_one_left : DF K mg "is_one_left" s_is_one_left)
  (d_check_keeps_to_undo : DF K mg "check_keeps_to_undo" s_check_keeps_to_undo)
  (d_holds_for_all : DF K mg "holds_for_all" s_holds_for_all)
  (d_can_be_last : DF K mg "can_be_last" s_can_be_last)
  (d_content_before : DF K mg "content_before" s_content_before)
  (d_is_pure : DF K mg "is_pure" s_is_pure)
  (d_content_layers : DF K mg "content_layers" s_content_layers)
  (d_ContentSearch___init__ : DM K C_ContentSearch "__init__" "ContentSearch.__init__" s_ContentSearch___init__)
  (d_ContentSearch_undone : DM K C_ContentSearch "undone" "ContentSearch.undone" s_ContentSearch_undone)
  (d_ContentSearch_is_reachable : DM K C_ContentSearch "is_reachable" "ContentSearch.is_reachable" s_ContentSearch_is_reachable)
  (d_ContentSearch_is_bottom : DMC K C_ContentSearch "is_bottom" "ContentSearch.is_bottom" s_ContentSearch_is_bottom c_ContentSearch_is_bottom) (t_ContentSearch_is_bottom : PySem.W.codeHdIn K c_ContentSearch_is_bottom P_ContentSearch_is_bottom = true) (n_ContentSearch_is_bottom : K.lookup P_ContentSearch_is_bottom = none) (r_ContentSearch_is_bottom : P_ContentSearch_is_bottom ∈ ts)
  (d_products_of : DF K mg "products_of" s_products_of)
  (d_pure_liquids : DF K mg "pure_liquids" s_pure_liquids)
  (d_liquids_of : DF K mg "liquids_of" s_liquids_of)
  (d_layers_back : DF K mg "layers_back" s_layers_back)
  (d_all_before : DF K mg "all_before" s_all_before)
  (d_count_by : DF K mg "count_by" s_count_by)
  (d_count_of : DC K mg "count_of" s_count_of c_count_of) (t_count_of : PySem.W.tabIn K "count_of" = some (c_count_of, P_count_of)) (n_count_of : K.lookup P_count_of = none) (r_count_of : ((recsOf q).any fun e => e.name == ("count_of" : Str)) = true)
  (d_told_by : DF K mg "told_by" s_told_by)
  (d_told_of : DF K mg "told_of" s_told_of)
  (d_topped_by : DF K mg "topped_by" s_topped_by)
  (d_content_behind : DF K mg "content_behind" s_content_behind)
  (d_contents_by : DF K mg "contents_by" s_contents_by)
  (d__law_jar : DF K mg "_law_jar" s__law_jar)
  (d__law_dip : DF K mg "_law_dip" s__law_dip)
  (d__law_gcd : DF K mg "_law_gcd" s__law_gcd)
  (d__law_plain : DF K mg "_law_plain" s__law_plain)
  (d__law_spots : DF K mg "_law_spots" s__law_spots)
  (d__law_choices : DF K mg "_law_choices" s__law_choices)
  (d__law_arranged : DF K mg "_law_arranged" s__law_arranged)
  (d__law_ways : DF K mg "_law_ways" s__law_ways)
  (d__law_right : DF K mg "_law_right" s__law_right)
  (d_law : DF K mg "law" s_law)
  (b_abs : mg "abs" = none) (b_all : mg "all" = none) (b_any : mg "any" = none) (b_bool : mg "bool" = none) (b_enumerate : mg "enumerate" = none) (b_int : mg "int" = none) (b_isinstance : mg "isinstance" = none) (b_len : mg "len" = none) (b_list : mg "list" = none) (b_max : mg "max" = none) (b_min : mg "min" = none) (b_range : mg "range" = none) (b_sorted : mg "sorted" = none) (b_sum : mg "sum" = none) (b_tuple : mg "tuple" = none) (b_type : mg "type" = none) (b_zip : mg "zip" = none) (b_MOST_LIQUIDS : ∃ t, mg "MOST_LIQUIDS" = some (.int 8 t)) (b_MOST_TOP_UPS : ∃ t, mg "MOST_TOP_UPS" = some (.int 60 t)) (b_MOST_PARTS : ∃ t, mg "MOST_PARTS" = some (.int 100 t)) (b_MOST_UNLIKE_KEEPS : ∃ t, mg "MOST_UNLIKE_KEEPS" = some (.int 8 t)) (b_MOST_TOLD : ∃ t, mg "MOST_TOLD" = some (.int 500 t)) (b_gcd : mg "gcd" = some (.builtin "math.gcd")) (e_InvalidKept : Er K mg "InvalidKept" E_InvalidKept) (e_TooMany : Er K mg "TooMany" E_TooMany) : Gx.LawM l q w K 13 63 "script" mg fa ts := by
  have B : Bl mg := { abs := b_abs, all := b_all, any := b_any, bool := b_bool, enumerate := b_enumerate, int := b_int, isinstance := b_isinstance, len := b_len, list := b_list, max := b_max, min := b_min, range := b_range, sorted := b_sorted, sum := b_sum, tuple := b_tuple, type := b_type, zip := b_zip, MOST_LIQUIDS := b_MOST_LIQUIDS, MOST_TOP_UPS := b_MOST_TOP_UPS, MOST_PARTS := b_MOST_PARTS, MOST_UNLIKE_KEEPS := b_MOST_UNLIKE_KEEPS, MOST_TOLD := b_MOST_TOLD, gcd := b_gcd }
  obtain ⟨f, fd, F0, m0⟩ := d_law.ex
  obtain rfl : f = fa := by
    rw [m0] at hmg
    cases hmg
    rfl
  refine ⟨fd, [("is_bottom", c_ContentSearch_is_bottom, P_ContentSearch_is_bottom), ("count_of", c_count_of, P_count_of), ("is_list_of_amounts", c_is_list_of_amounts, P_is_list_of_amounts), ("is_list_of_keeps", c_is_list_of_keeps, P_is_list_of_keeps), ("is_list_of_liquids", c_is_list_of_liquids, P_is_list_of_liquids)], sp_law K P_ContentSearch_is_bottom P_count_of P_is_list_of_amounts P_is_list_of_keeps P_is_list_of_liquids, ?_, ?_, ?_, ?_⟩
  · simp only [List.forall_mem_cons, List.not_mem_nil, false_imp_iff, implies_true, and_true]
    exact ⟨⟨.inr ⟨t_ContentSearch_is_bottom, r_ContentSearch_is_bottom⟩, n_ContentSearch_is_bottom⟩, ⟨.inl ⟨t_count_of, r_count_of⟩, n_count_of⟩, ⟨.inl ⟨t_is_list_of_amounts, r_is_list_of_amounts⟩, n_is_list_of_amounts⟩, ⟨.inl ⟨t_is_list_of_keeps, r_is_list_of_keeps⟩, n_is_list_of_keeps⟩, ⟨.inl ⟨t_is_list_of_liquids, r_is_list_of_liquids⟩, n_is_list_of_liquids⟩⟩
  · intro s u
    obtain ⟨oc, od, kV, doc, pm, an, cdv, ct, osl, rfl, lk, hcd⟩ := F0.ex
    exact .of_eq rfl
  · intro H a ns hl _ hT hs
    simp only [List.forall_mem_cons, List.not_mem_nil, false_imp_iff, implies_true, and_true] at hT ⊢
    exact ⟨a, ns, rfl, hs, hl, ⟨hT.1, hT.2.1, hT.2.2.1, hT.2.2.2.1, hT.2.2.2.2⟩, fun H1 t1 => ⟨rfl, t1.t1, t1.t2, t1.t3, t1.t4, t1.t5⟩⟩
  intro base _ _ TBs
  simp only [List.forall_mem_cons, List.not_mem_nil, false_imp_iff, implies_true, and_true] at TBs
  obtain ⟨TB_ContentSearch_is_bottom, TB_count_of, TB_is_list_of_amounts, TB_is_list_of_keeps, TB_is_list_of_liquids⟩ := TBs
  have C__law_jar : Cal l.prog w K mg base 1 "_law_jar" ["script", "k"] ((sp_jar K)) := cal_mk d__law_jar bd__law_jar fun f fd F => ok__law_jar F B
  have C__law_dip : Cal l.prog w K mg base 1 "_law_dip" ["jar", "many"] ((sp_dip)) := cal_mk d__law_dip bd__law_dip fun f fd F => ok__law_dip F B
  have C__law_spots : Cal l.prog w K mg base 2 "_law_spots" ["jar", "many", "size"] ((sp_lspots)) := cal_mk d__law_spots bd__law_spots fun f fd F => ok__law_spots F B C__law_dip
  have C_is_integer : Cal l.prog w K mg base 1 "is_integer" ["thing"] ((sp_is_integer)) := cal_mk d_is_integer bd_is_integer fun f fd F => ok_is_integer F B
  have C_is_within : Cal l.prog w K mg base 2 "is_within" ["thing", "least", "most"] ((sp_is_within)) := cal_mk d_is_within bd_is_within fun f fd F => ok_is_within F B C_is_integer
  have C_check_number : Cal l.prog w K mg base 3 "check_number" ["number", "least", "most"] ((sp_check_number)) := cal_mk d_check_number bd_check_number fun f fd F => ok_check_number F B C_is_within
  have C_check_liquid : Cal l.prog w K mg base 3 "check_liquid" ["liquid", "liquids"] ((sp_check_liquid)) := cal_mk d_check_liquid bd_check_liquid fun f fd F => ok_check_liquid F B C_is_within
  have C_pure_content : Cal l.prog w K mg base 4 "pure_content" ["count", "liquid"] ((sp_pure_content)) := cal_mk d_pure_content bd_pure_content fun f fd F => ok_pure_content F B C_check_number C_check_liquid
  have C_is_list_of_amounts : Cal l.prog w K mg base 5 "is_list_of_amounts" ["thing"] ((sp_is_list_of_amounts P_is_list_of_amounts)) := calC_mk d_is_list_of_amounts bd_is_list_of_amounts fun f fd F => ok_is_list_of_amounts F B C_is_integer TB_is_list_of_amounts
  have C_common_divisor : Cal l.prog w K mg base 1 "common_divisor" ["numbers"] ((sp_common_divisor)) := cal_mk d_common_divisor bd_common_divisor fun f fd F => ok_common_divisor F B
  have C_is_content : Cal l.prog w K mg base 6 "is_content" ["thing"] ((sp_is_content P_is_list_of_amounts)) := cal_mk d_is_content bd_is_content fun f fd F => ok_is_content F B C_is_list_of_amounts C_common_divisor
  have C_check_content : Cal l.prog w K mg base 7 "check_content" ["content"] ((sp_check_content P_is_list_of_amounts)) := cal_mk d_check_content bd_check_content fun f fd F => ok_check_content F B C_is_content
  have C_is_pair_in_lowest_terms : Cal l.prog w K mg base 2 "is_pair_in_lowest_terms" ["thing"] ((sp_is_pair)) := cal_mk d_is_pair_in_lowest_terms bd_is_pair_in_lowest_terms fun f fd F => ok_is_pair_in_lowest_terms F B C_is_integer
  have C_is_kept : Cal l.prog w K mg base 3 "is_kept" ["thing"] ((sp_is_kept)) := cal_mk d_is_kept bd_is_kept fun f fd F => ok_is_kept F B C_is_pair_in_lowest_terms
  have C_is_list_of_keeps : Cal l.prog w K mg base 7 "is_list_of_keeps" ["thing"] ((sp_is_list_of_keeps P_is_list_of_keeps)) := calC_mk d_is_list_of_keeps bd_is_list_of_keeps fun f fd F => ok_is_list_of_keeps F B C_is_kept TB_is_list_of_keeps
  have C_check_keeps : Cal l.prog w K mg base 8 "check_keeps" ["keeps"] ((sp_check_keeps P_is_list_of_keeps)) := cal_mk d_check_keeps bd_check_keeps fun f fd F => ok_check_keeps F B C_is_list_of_keeps
  have C_is_list_of_liquids : Cal l.prog w K mg base 6 "is_list_of_liquids" ["thing", "liquids"] ((sp_is_list_of_liquids P_is_list_of_liquids)) := calC_mk d_is_list_of_liquids bd_is_list_of_liquids fun f fd F => ok_is_list_of_liquids F B C_is_within TB_is_list_of_liquids
  have C_is_row : Cal l.prog w K mg base 7 "is_row" ["thing", "liquids"] ((sp_is_row P_is_list_of_liquids)) := cal_mk d_is_row bd_is_row fun f fd F => ok_is_row F B C_is_list_of_liquids
  have C_check_row : Cal l.prog w K mg base 8 "check_row" ["row", "liquids"] ((sp_check_row P_is_list_of_liquids)) := cal_mk d_check_row bd_check_row fun f fd F => ok_check_row F B C_is_row
  have C_without_divisor : Cal l.prog w K mg base 2 "without_divisor" ["numbers"] ((sp_without_divisor)) := cal_mk d_without_divisor bd_without_divisor fun f fd F => ok_without_divisor F B C_common_divisor
  have C_content_behind : Cal l.prog w K mg base 3 "content_behind" ["content", "kept", "liquid"] ((sp_content_behind)) := cal_mk d_content_behind bd_content_behind fun f fd F => ok_content_behind F B C_without_divisor
  have C_contents_by : Cal l.prog w K mg base 4 "contents_by" ["content", "keeps", "row"] ((sp_contents_by)) := cal_mk d_contents_by bd_contents_by fun f fd F => ok_contents_by F B C_content_behind
  have C_topped_by : Cal l.prog w K mg base 9 "topped_by" ["content", "keeps", "row"] ((sp_topped_by P_is_list_of_amounts P_is_list_of_keeps P_is_list_of_liquids)) := cal_mk d_topped_by bd_topped_by fun f fd F => ok_topped_by F B C_check_content C_check_keeps C_check_row C_contents_by
  have C__law_gcd : Cal l.prog w K mg base 1 "_law_gcd" ["one", "two"] ((sp_lgcd)) := cal_mk d__law_gcd bd__law_gcd fun f fd F => ok__law_gcd F B
  have C__law_plain : Cal l.prog w K mg base 2 "_law_plain" ["numbers_here"] ((sp_without_divisor)) := cal_mk d__law_plain bd__law_plain fun f fd F => ok__law_plain F B C__law_gcd
  have C__law_choices : Cal l.prog w K mg base 1 "_law_choices" ["many", "some"] ((sp_choices)) := cal_mk d__law_choices bd__law_choices fun f fd F => ok__law_choices F B
  have C__law_ways : Cal l.prog w K mg base 2 "_law_ways" ["counts_here"] ((sp_ways ())) := cal_mk d__law_ways bd__law_ways fun f fd F => ok__law_ways F B C__law_choices
  have C_holds_for_all : Cal l.prog w K mg base 1 "holds_for_all" ["keeps"] ((sp_holds)) := cal_mk d_holds_for_all bd_holds_for_all fun f fd F => ok_holds_for_all F B
  have C_check_keeps_to_undo : CalE l.prog w K mg base 9 "check_keeps_to_undo" ["keeps"] ((sp_ckund P_is_list_of_keeps E_InvalidKept)) := calE_mk d_check_keeps_to_undo bd_check_keeps_to_undo fun f fd F => ok_check_keeps_to_undo F B C_check_keeps C_holds_for_all e_InvalidKept
  have C_count_of : Cal l.prog w K mg base 4 "count_of" ["pairs", "counts"] ((sp_count_of l.prog w P_count_of)) := calC_mk d_count_of bd_count_of fun f fd F => ok_count_of F B TB_count_of
  have C_count_by : Cal l.prog w K mg base 5 "count_by" ["layers"] ((sp_count_by l.prog w P_count_of)) := cal_mk d_count_by bd_count_by fun f fd F => ok_count_by F B C_count_of
  have C_told_of : Cal l.prog w K mg base 1 "told_of" ["pairs", "told"] ((sp_told_of l.prog w)) := cal_mk d_told_of bd_told_of fun f fd F => ok_told_of F B
  have C_told_by : CalE l.prog w K mg base 6 "told_by" ["layers"] ((sp_told_by l.prog w P_count_of E_TooMany)) := calE_mk d_told_by bd_told_by fun f fd F => ok_told_by F B C_count_by C_told_of e_TooMany
  have C_products_of : Cal l.prog w K mg base 1 "products_of" ["choices"] ((sp_products_of)) := cal_mk d_products_of bd_products_of fun f fd F => ok_products_of F B
  have MK_ContentSearch : Mkr l.prog w K mg base 2 C_ContentSearch "ContentSearch" ["self", "choices"] ((sp_cs_init C_ContentSearch)) := mkr_mk d_ContentSearch___init__ KL_ContentSearch.made KL_ContentSearch.kp KL_ContentSearch.at_ bd_ContentSearch___init__' fun f fd F => ok_ContentSearch___init__ F B KL_ContentSearch NC C_products_of
  have C_all_before : Cal l.prog w K mg base 1 "all_before" ["layer"] ((sp_all_before l.prog w)) := cal_mk d_all_before bd_all_before fun f fd F => ok_all_before F B
  have C_can_be_lastT : Cal l.prog w K mg base 1 "can_be_last" ["content", "kept", "liquid"] ((sp_can_beT K)) := cal_mk d_can_be_last bd_can_be_last fun f fd F => ok_can_be_lastT F B
  have C_content_beforeT : Cal l.prog w K mg base 3 "content_before" ["content", "kept", "liquid"] ((sp_beforeT K)) := cal_mk d_content_before bd_content_before fun f fd F => ok_content_beforeT F B C_without_divisor
  have M_ContentSearch_is_bottom : Mt l.prog w K mg base 4 C_ContentSearch "is_bottom" ["self", "bottom", "number"] ((sp_is_bottom C_ContentSearch P_ContentSearch_is_bottom)) := mtC_mk d_ContentSearch_is_bottom bd_ContentSearch_is_bottom fun f fd F => ok_ContentSearch_is_bottom F B KL_ContentSearch NC TB_ContentSearch_is_bottom
  have M_ContentSearch_is_reachable : Mt l.prog w K mg base 5 C_ContentSearch "is_reachable" ["self", "content", "number"] ((sp_is_reachable C_ContentSearch P_ContentSearch_is_bottom)) := mt_mk d_ContentSearch_is_reachable bd_ContentSearch_is_reachable fun f fd F => ok_ContentSearch_is_reachable F B KL_ContentSearch NC M_ContentSearch_is_bottom
  have M_ContentSearch_undone : Mt l.prog w K mg base 6 C_ContentSearch "undone" ["self", "content", "number"] ((sp_csun C_ContentSearch P_ContentSearch_is_bottom)) := mt_mk d_ContentSearch_undone bd_ContentSearch_undone fun f fd F => ok_ContentSearch_undone F B KL_ContentSearch NC C_can_be_lastT C_content_beforeT M_ContentSearch_is_reachable
  have C_is_pureT : Cal l.prog w K mg base 1 "is_pure" ["content"] ((sp_is_pureT K)) := cal_mk d_is_pure bd_is_pure fun f fd F => ok_is_pureT F B
  have C_pure_liquids : Cal l.prog w K mg base 2 "pure_liquids" ["content"] ((sp_pureL)) := cal_mk d_pure_liquids bd_pure_liquids fun f fd F => ok_pure_liquids F B C_is_pureT
  have C_layers_back : Cal l.prog w K mg base 7 "layers_back" ["last", "number", "undone", "starts"] ((sp_layers_back l.prog w K mg C_ContentSearch P_ContentSearch_is_bottom P_count_of)) := cal_mk d_layers_back bd_layers_back fun f fd F => ok_layers_back F B C_all_before KL_ContentSearch M_ContentSearch_undone BD_ContentSearch_undone C_pure_liquids
  have C_content_layers : Cal l.prog w K mg base 9 "content_layers" ["content", "choices"] ((sp_clayers l.prog w P_ContentSearch_is_bottom P_count_of)) := cal_mk d_content_layers bd_content_layers fun f fd F => ok_content_layers F B KL_ContentSearch BD_ContentSearch_undone MK_ContentSearch C_layers_back C_pure_liquids
  have C_liquids_of : Cal l.prog w K mg base 1 "liquids_of" ["steps"] ((sp_liquids_of)) := cal_mk d_liquids_of bd_liquids_of fun f fd F => ok_liquids_of F B
  have C_histories_along : CalE l.prog w K mg base 10 "histories_along" ["content", "keeps"] ((sp_along P_ContentSearch_is_bottom P_count_of P_is_list_of_amounts P_is_list_of_keeps E_InvalidKept E_TooMany)) := calE_mk d_histories_along bd_histories_along fun f fd F => ok_histories_along F B C_check_content C_check_keeps_to_undo C_told_by C_content_layers C_liquids_of
  have C_is_one_left : Cal l.prog w K mg base 9 "is_one_left" ["keeps"] ((sp_one_left P_is_list_of_keeps)) := cal_mk d_is_one_left bd_is_one_left fun f fd F => ok_is_one_left F B C_check_keeps C_holds_for_all
  have CA : ∀ n, Cal l.prog w K mg base (n + 2) "_law_arranged" ["counts_here"] (sp_arr n) := fun n => by
    induction n with
    | zero => exact cal_mk d__law_arranged bd__law_arranged fun f fd F => ok__law_arranged F B (n := 0) (spI := fun _ _ _ _ => False) (fun n h => by cases h) (cal_mk d__law_arranged bd__law_arranged fun f fd F => ok__law_arrangedF F)
    | succ n ih => exact cal_mk d__law_arranged bd__law_arranged fun f fd F => ok__law_arranged F B (n := n + 1) (spI := sp_arr n) (fun k h => by cases h; rfl) ih
  have C__law_arranged : Cal l.prog w K mg base 11 "_law_arranged" ["counts_here"] sp_arrU := cal_mk d__law_arranged bd__law_arranged fun f fd F => arr_union fun n _ => by
    cases n with
    | zero => exact ok__law_arranged F B (n := 0) (spI := fun _ _ _ _ => False) (fun n h => by cases h) (cal_mk d__law_arranged bd__law_arranged fun f fd F => ok__law_arrangedF F)
    | succ n => exact ok__law_arranged F B (n := n + 1) (spI := sp_arr n) (fun k h => by cases h; rfl) (CA n)
  have C__law_right : Cal l.prog w K mg base 12 "_law_right" ["jar", "many", "size"] ((sp_lright P_ContentSearch_is_bottom P_count_of P_is_list_of_amounts P_is_list_of_keeps P_is_list_of_liquids)) := cal_mk d__law_right bd__law_right fun f fd F => ok__law_right F B e_TooMany C__law_spots C_pure_content C_topped_by C__law_plain C__law_ways C_histories_along C_is_one_left C__law_arranged
  exact ok_law F0 B C__law_jar C__law_dip C__law_right

end K34
end

section
set_option Elab.async false
set_option linter.all false
set_option maxRecDepth 100000
namespace HX
open PySem
def l0 : List PySem.Str := ["__name__", "PotError", "InvalidContent", "InvalidKept", "InvalidRow", "InvalidLiquid", "InvalidNumber", "TooMany", "MOST_LIQUIDS", "MOST_TOP_UPS", "MOST_PARTS", "is_integer", "is_within", "is_pair_in_lowest_terms", "is_kept", "is_row"]
def l1 : List PySem.Str := ["check_keeps", "check_row", "check_liquid", "check_number", "common_divisor", "without_divisor", "is_content", "pure_content", "check_content", "MOST_UNLIKE_KEEPS", "MOST_TOLD", "histories_along", "is_one_left", "check_keeps_to_undo", "holds_for_all", "can_be_last"]
def l2 : List PySem.Str := ["content_before", "is_pure", "content_layers", "ContentSearch", "products_of", "pure_liquids", "liquids_of", "layers_back", "all_before", "count_by", "told_by", "told_of", "topped_by", "content_behind", "contents_by", "_law_jar"]
def l3 : List PySem.Str := ["_law_dip", "_law_gcd", "_law_plain", "_law_part", "_law_share", "_law_spots", "_law_choices", "_law_arranged", "_law_ways", "_law_right"]
def loose : List PySem.Str := l0 ++ (l1 ++ (l2 ++ (l3)))
end HX
open PySem PySem.W PyProof.Rows K34 Gx
namespace HX
section
local macro_rules | `(tactic| o_head ($f:ident $k $as $p)) => do
    let hf := Lean.mkIdent `hf
    `(tactic| exact False.elim $hf)
set_option maxHeartbeats 0 in
theorem hxd : False → PySem.Challenge.rw_topups_k34_whole_equal_parts.Holds := by
  intro hf
  w_on; o_law; k_head
end
def hxa : List PySem.Addr := [
  2, 3, 43, 50, 51, 52, 53, 56, 63, 64, 65, 68, 75, 76, 77, 80, 87, 88, 89, 92, 99, 100, 101, 104, 111, 112, 113, 116, 123, 124, 125, 128, 130, 131, 133, 134, 135, 137, 138, 140,
  141, 142, 144, 145, 147, 148, 149, 151, 152, 154, 155, 156, 158, 159, 161, 162, 163, 165, 166, 168, 169, 170, 172, 173, 175, 176, 177, 179, 180, 182, 183, 184, 186, 187, 189, 190, 191, 193, 194, 196,
  197, 198, 200, 201, 203, 204, 205, 207, 208, 210, 211, 212, 215, 216, 217, 219, 220, 222, 223, 224, 226, 227, 229, 230, 231, 233, 234, 236, 237, 238, 240, 241, 243, 244, 245, 248, 249, 250, 252, 253,
  255, 256, 257, 259, 260, 262, 263, 264, 266, 267, 269, 270, 271, 273, 274, 276, 277, 278, 281, 282, 283, 285, 286, 288, 289, 290, 292, 293, 295, 296, 304, 307, 308, 309, 311, 312, 314, 315, 316, 318,
  319, 321, 322, 323, 325, 326, 328, 329, 330, 331, 332, 333, 334, 337, 340, 341, 342, 344, 345, 347, 348, 349, 352, 353, 354, 357, 358, 359, 361, 362, 364, 365, 366, 369, 370, 371, 373, 374, 376, 377,
  378, 381, 382, 383, 386, 387, 388, 390, 391, 393, 394, 395, 398, 399, 400, 402, 403, 405, 406, 407, 409, 410, 412, 413, 414, 416, 417, 419, 420, 421, 423, 424, 426, 427, 428, 431, 432, 447, 450, 451,
  452, 454, 455, 457, 458, 459, 462, 463, 464, 466, 467, 469, 470, 471, 474, 475, 476, 478, 479, 481, 482]
set_option maxHeartbeats 0 in
theorem hxe : ∀ P, hxa = (hxd.heap_39 P).map (·.1) := fun _ => by kernel_rfl
set_option maxHeartbeats 0 in
theorem hx_run : ∀ w, HeadRun.RunEqI (OpenLaw.row PySem.Challenge.rw_topups_k34_whole_equal_parts) (view (OpenLaw.row PySem.Challenge.rw_topups_k34_whole_equal_parts).prog [0, 17, 18, 29, 49, 68]) (kmHook hxd.heap_39 hxa hxe [324]) (fun s => (List.map (HeadRun.getT s) hxa, List.map (HeadRun.getT s) [324])) 20000 loose w := fun w => by
  unfold HeadRun.RunEqI
  kernel_rfl
end HX
local macro_rules | `(tactic| o_head ($f:ident $k $as $p)) => `(tactic| refine HeadRun.head_imp (r := (OpenLaw.row PySem.Challenge.rw_topups_k34_whole_equal_parts)) (q := view (OpenLaw.row PySem.Challenge.rw_topups_k34_whole_equal_parts).prog [0, 17, 18, 29, 49, 68]) (H := kmHook $k $as $p [324]) (ob := fun s => (List.map (HeadRun.getT s) $as, List.map (HeadRun.getT s) [324])) (M := 20000) (loose := HX.loose) (d := HeadRun.topDef (OpenLaw.row PySem.Challenge.rw_topups_k34_whole_equal_parts).prog 68) (kwd := []) (fun s => congrArg (fun g => (List.map g $as, List.map g [324])) (funext (HeadRun.getT_eq s)))
    (fun w => HX.hx_run w) (by kernel_rfl) (by kernel_rfl) (by kernel_rfl) (by rfl) (by first | assumption | decide +kernel) (by decide +kernel) ⟨rfl, rfl, rfl, rfl, rfl, by decide +kernel⟩ ?hw ?hc)
set_option maxHeartbeats 0 in
theorem PySem.Challenge.cw_topups_k34_whole_equal_parts_holds : PySem.Challenge.rw_topups_k34_whole_equal_parts.Holds := by
  w_on; o_law; k_head; (case hw => w_witness2)
  k_fill
  refine Gx.walk_M (l := PySem.Challenge.rw_topups_k34_whole_equal_parts) (n := 63) (k := 13) (x := "script") [324] rfl (by decide) rfl ⟨rfl, by decide, by decide⟩ (fun w h Y => PySem.W.km_in_of Y) (fun w h Y => PySem.W.km_tabs_of Y) ?F
  case F =>
    intro w mg fa h KX G hmg
    refine' Gx.with_kls (x := "ContentSearch") KX G ?a0 ?l0 ?c0 ?k0 ?t0 ?r0 ?n0 ?go0
    (case a0 => k_is); (case l0 => k_is); (case c0 => k_is); (case k0 => k_is); (case t0 => k_is); (case r0 => k_is); (case n0 => k_is)
    intro KL_ContentSearch
    refine' Gx.with_na2 (f := "choices") KL_ContentSearch ?a1 ?go1
    (case a1 => k_is)
    intro na_ContentSearch_choices
    refine' Gx.with_na2 (f := "products") KL_ContentSearch ?a2 ?go2
    (case a2 => k_is)
    intro na_ContentSearch_products
    refine' Gx.with_na2 (f := "known") KL_ContentSearch ?a3 ?go3
    (case a3 => k_is)
    intro na_ContentSearch_known
    refine' with_df (x := "is_integer") (st := s_is_integer) KX G ?a4 ?l4 ?c4 ?k4 ?go4
    (case a4 => k_is); (case l4 => k_is); (case c4 => k_is); (case k4 => k_is)
    intro d_is_integer
    refine' with_df (x := "is_within") (st := s_is_within) KX G ?a5 ?l5 ?c5 ?k5 ?go5
    (case a5 => k_is); (case l5 => k_is); (case c5 => k_is); (case k5 => k_is)
    intro d_is_within
    refine' with_df (x := "is_pair_in_lowest_terms") (st := s_is_pair_in_lowest_terms) KX G ?a6 ?l6 ?c6 ?k6 ?go6
    (case a6 => k_is); (case l6 => k_is); (case c6 => k_is); (case k6 => k_is)
    intro d_is_pair_in_lowest_terms
    refine' with_df (x := "is_kept") (st := s_is_kept) KX G ?a7 ?l7 ?c7 ?k7 ?go7
    (case a7 => k_is); (case l7 => k_is); (case c7 => k_is); (case k7 => k_is)
    intro d_is_kept
    refine' with_dc (x := "is_list_of_keeps") (st := s_is_list_of_keeps) KX G ?a8 ?l8 ?c8 ?k8 ?t8 ?r8 ?n8 ?go8
    (case a8 => k_is); (case l8 => k_is); (case c8 => k_is); (case k8 => k_is); (case t8 => k_is); (case r8 => rfl); (case n8 => first | kernel_rfl | rfl | decide +kernel)
    intro c_is_list_of_keeps P_is_list_of_keeps d_is_list_of_keeps t_is_list_of_keeps n_is_list_of_keeps
    refine' with_dc (x := "is_list_of_liquids") (st := s_is_list_of_liquids) KX G ?a9 ?l9 ?c9 ?k9 ?t9 ?r9 ?n9 ?go9
    (case a9 => k_is); (case l9 => k_is); (case c9 => k_is); (case k9 => k_is); (case t9 => k_is); (case r9 => rfl); (case n9 => first | kernel_rfl | rfl | decide +kernel)
    intro c_is_list_of_liquids P_is_list_of_liquids d_is_list_of_liquids t_is_list_of_liquids n_is_list_of_liquids
    refine' with_df (x := "is_row") (st := s_is_row) KX G ?a10 ?l10 ?c10 ?k10 ?go10
    (case a10 => k_is); (case l10 => k_is); (case c10 => k_is); (case k10 => k_is)
    intro d_is_row
    refine' with_df (x := "check_keeps") (st := s_check_keeps) KX G ?a11 ?l11 ?c11 ?k11 ?go11
    (case a11 => k_is); (case l11 => k_is); (case c11 => k_is); (case k11 => k_is)
    intro d_check_keeps
    refine' with_df (x := "check_row") (st := s_check_row) KX G ?a12 ?l12 ?c12 ?k12 ?go12
    (case a12 => k_is); (case l12 => k_is); (case c12 => k_is); (case k12 => k_is)
    intro d_check_row
    refine' with_df (x := "check_liquid") (st := s_check_liquid) KX G ?a13 ?l13 ?c13 ?k13 ?go13
    (case a13 => k_is); (case l13 => k_is); (case c13 => k_is); (case k13 => k_is)
    intro d_check_liquid
    refine' with_df (x := "check_number") (st := s_check_number) KX G ?a14 ?l14 ?c14 ?k14 ?go14
    (case a14 => k_is); (case l14 => k_is); (case c14 => k_is); (case k14 => k_is)
    intro d_check_number
    refine' with_df (x := "common_divisor") (st := s_common_divisor) KX G ?a15 ?l15 ?c15 ?k15 ?go15
    (case a15 => k_is); (case l15 => k_is); (case c15 => k_is); (case k15 => k_is)
    intro d_common_divisor
    refine' with_df (x := "without_divisor") (st := s_without_divisor) KX G ?a16 ?l16 ?c16 ?k16 ?go16
    (case a16 => k_is); (case l16 => k_is); (case c16 => k_is); (case k16 => k_is)
    intro d_without_divisor
    refine' with_df (x := "is_content") (st := s_is_content) KX G ?a17 ?l17 ?c17 ?k17 ?go17
    (case a17 => k_is); (case l17 => k_is); (case c17 => k_is); (case k17 => k_is)
    intro d_is_content
    refine' with_df (x := "pure_content") (st := s_pure_content) KX G ?a18 ?l18 ?c18 ?k18 ?go18
    (case a18 => k_is); (case l18 => k_is); (case c18 => k_is); (case k18 => k_is)
    intro d_pure_content
    refine' with_dc (x := "is_list_of_amounts") (st := s_is_list_of_amounts) KX G ?a19 ?l19 ?c19 ?k19 ?t19 ?r19 ?n19 ?go19
    (case a19 => k_is); (case l19 => k_is); (case c19 => k_is); (case k19 => k_is); (case t19 => k_is); (case r19 => rfl); (case n19 => first | kernel_rfl | rfl | decide +kernel)
    intro c_is_list_of_amounts P_is_list_of_amounts d_is_list_of_amounts t_is_list_of_amounts n_is_list_of_amounts
    refine' with_df (x := "check_content") (st := s_check_content) KX G ?a20 ?l20 ?c20 ?k20 ?go20
    (case a20 => k_is); (case l20 => k_is); (case c20 => k_is); (case k20 => k_is)
    intro d_check_content
    refine' with_df (x := "histories_along") (st := s_histories_along) KX G ?a21 ?l21 ?c21 ?k21 ?go21
    (case a21 => k_is); (case l21 => k_is); (case c21 => k_is); (case k21 => k_is)
    intro d_histories_along
    refine' with_df (x := "is_one_left") (st := s_is_one_left) KX G ?a22 ?l22 ?c22 ?k22 ?go22
    (case a22 => k_is); (case l22 => k_is); (case c22 => k_is); (case k22 => k_is)
    intro d_is_one_left
    refine' with_df (x := "check_keeps_to_undo") (st := s_check_keeps_to_undo) KX G ?a23 ?l23 ?c23 ?k23 ?go23
    (case a23 => k_is); (case l23 => k_is); (case c23 => k_is); (case k23 => k_is)
    intro d_check_keeps_to_undo
    refine' with_df (x := "holds_for_all") (st := s_holds_for_all) KX G ?a24 ?l24 ?c24 ?k24 ?go24
    (case a24 => k_is); (case l24 => k_is); (case c24 => k_is); (case k24 => k_is)
    intro d_holds_for_all
    refine' with_df (x := "can_be_last") (st := s_can_be_last) KX G ?a25 ?l25 ?c25 ?k25 ?go25
    (case a25 => k_is); (case l25 => k_is); (case c25 => k_is); (case k25 => k_is)
    intro d_can_be_last
    refine' with_df (x := "content_before") (st := s_content_before) KX G ?a26 ?l26 ?c26 ?k26 ?go26
    (case a26 => k_is); (case l26 => k_is); (case c26 => k_is); (case k26 => k_is)
    intro d_content_before
    refine' with_df (x := "is_pure") (st := s_is_pure) KX G ?a27 ?l27 ?c27 ?k27 ?go27
    (case a27 => k_is); (case l27 => k_is); (case c27 => k_is); (case k27 => k_is)
    intro d_is_pure
    refine' with_df (x := "content_layers") (st := s_content_layers) KX G ?a28 ?l28 ?c28 ?k28 ?go28
    (case a28 => k_is); (case l28 => k_is); (case c28 => k_is); (case k28 => k_is)
    intro d_content_layers
    refine' Gx.with_meth2 KL_ContentSearch (x := "__init__") (qual := "ContentSearch.__init__") (st := s_ContentSearch___init__) ?a29 ?l29 ?c29 ?k29 ?t29 ?go29
    (case a29 => k_is); (case l29 => k_is); (case c29 => k_is); (case k29 => k_is); (case t29 => k_is)
    intro d_ContentSearch___init__
    refine' Gx.with_meth2 KL_ContentSearch (x := "undone") (qual := "ContentSearch.undone") (st := s_ContentSearch_undone) ?a30 ?l30 ?c30 ?k30 ?t30 ?go30
    (case a30 => k_is); (case l30 => k_is); (case c30 => k_is); (case k30 => k_is); (case t30 => k_is)
    intro d_ContentSearch_undone
    refine' Gx.with_meth2 KL_ContentSearch (x := "is_reachable") (qual := "ContentSearch.is_reachable") (st := s_ContentSearch_is_reachable) ?a31 ?l31 ?c31 ?k31 ?t31 ?go31
    (case a31 => k_is); (case l31 => k_is); (case c31 => k_is); (case k31 => k_is); (case t31 => k_is)
    intro d_ContentSearch_is_reachable
    refine' Gx.with_methC 324 KL_ContentSearch (x := "is_bottom") (qual := "ContentSearch.is_bottom") (st := s_ContentSearch_is_bottom) ?a32 ?l32 ?c32 ?k32 ?t32 ?r32 ?n32 ?go32
    (case a32 => k_is); (case l32 => k_is); (case c32 => k_is); (case k32 => k_is); (case t32 => k_is); (case r32 => first | kernel_rfl | k_is); (case n32 => first | kernel_rfl | rfl | decide +kernel)
    intro c_ContentSearch_is_bottom d_ContentSearch_is_bottom t_ContentSearch_is_bottom n_ContentSearch_is_bottom
    refine' with_df (x := "products_of") (st := s_products_of) KX G ?a33 ?l33 ?c33 ?k33 ?go33
    (case a33 => k_is); (case l33 => k_is); (case c33 => k_is); (case k33 => k_is)
    intro d_products_of
    refine' with_df (x := "pure_liquids") (st := s_pure_liquids) KX G ?a34 ?l34 ?c34 ?k34 ?go34
    (case a34 => k_is); (case l34 => k_is); (case c34 => k_is); (case k34 => k_is)
    intro d_pure_liquids
    refine' with_df (x := "liquids_of") (st := s_liquids_of) KX G ?a35 ?l35 ?c35 ?k35 ?go35
    (case a35 => k_is); (case l35 => k_is); (case c35 => k_is); (case k35 => k_is)
    intro d_liquids_of
    refine' with_df (x := "layers_back") (st := s_layers_back) KX G ?a36 ?l36 ?c36 ?k36 ?go36
    (case a36 => k_is); (case l36 => k_is); (case c36 => k_is); (case k36 => k_is)
    intro d_layers_back
    refine' with_df (x := "all_before") (st := s_all_before) KX G ?a37 ?l37 ?c37 ?k37 ?go37
    (case a37 => k_is); (case l37 => k_is); (case c37 => k_is); (case k37 => k_is)
    intro d_all_before
    refine' with_df (x := "count_by") (st := s_count_by) KX G ?a38 ?l38 ?c38 ?k38 ?go38
    (case a38 => k_is); (case l38 => k_is); (case c38 => k_is); (case k38 => k_is)
    intro d_count_by
    refine' with_dc (x := "count_of") (st := s_count_of) KX G ?a39 ?l39 ?c39 ?k39 ?t39 ?r39 ?n39 ?go39
    (case a39 => k_is); (case l39 => k_is); (case c39 => k_is); (case k39 => k_is); (case t39 => k_is); (case r39 => rfl); (case n39 => first | kernel_rfl | rfl | decide +kernel)
    intro c_count_of P_count_of d_count_of t_count_of n_count_of
    refine' with_df (x := "told_by") (st := s_told_by) KX G ?a40 ?l40 ?c40 ?k40 ?go40
    (case a40 => k_is); (case l40 => k_is); (case c40 => k_is); (case k40 => k_is)
    intro d_told_by
    refine' with_df (x := "told_of") (st := s_told_of) KX G ?a41 ?l41 ?c41 ?k41 ?go41
    (case a41 => k_is); (case l41 => k_is); (case c41 => k_is); (case k41 => k_is)
    intro d_told_of
    refine' with_df (x := "topped_by") (st := s_topped_by) KX G ?a42 ?l42 ?c42 ?k42 ?go42
    (case a42 => k_is); (case l42 => k_is); (case c42 => k_is); (case k42 => k_is)
    intro d_topped_by
    refine' with_df (x := "content_behind") (st := s_content_behind) KX G ?a43 ?l43 ?c43 ?k43 ?go43
    (case a43 => k_is); (case l43 => k_is); (case c43 => k_is); (case k43 => k_is)
    intro d_content_behind
    refine' with_df (x := "contents_by") (st := s_contents_by) KX G ?a44 ?l44 ?c44 ?k44 ?go44
    (case a44 => k_is); (case l44 => k_is); (case c44 => k_is); (case k44 => k_is)
    intro d_contents_by
    refine' with_df (x := "_law_jar") (st := s__law_jar) KX G ?a45 ?l45 ?c45 ?k45 ?go45
    (case a45 => k_is); (case l45 => k_is); (case c45 => k_is); (case k45 => k_is)
    intro d__law_jar
    refine' with_df (x := "_law_dip") (st := s__law_dip) KX G ?a46 ?l46 ?c46 ?k46 ?go46
    (case a46 => k_is); (case l46 => k_is); (case c46 => k_is); (case k46 => k_is)
    intro d__law_dip
    refine' with_df (x := "_law_gcd") (st := s__law_gcd) KX G ?a47 ?l47 ?c47 ?k47 ?go47
    (case a47 => k_is); (case l47 => k_is); (case c47 => k_is); (case k47 => k_is)
    intro d__law_gcd
    refine' with_df (x := "_law_plain") (st := s__law_plain) KX G ?a48 ?l48 ?c48 ?k48 ?go48
    (case a48 => k_is); (case l48 => k_is); (case c48 => k_is); (case k48 => k_is)
    intro d__law_plain
    refine' with_df (x := "_law_spots") (st := s__law_spots) KX G ?a49 ?l49 ?c49 ?k49 ?go49
    (case a49 => k_is); (case l49 => k_is); (case c49 => k_is); (case k49 => k_is)
    intro d__law_spots
    refine' with_df (x := "_law_choices") (st := s__law_choices) KX G ?a50 ?l50 ?c50 ?k50 ?go50
    (case a50 => k_is); (case l50 => k_is); (case c50 => k_is); (case k50 => k_is)
    intro d__law_choices
    refine' with_df (x := "_law_arranged") (st := s__law_arranged) KX G ?a51 ?l51 ?c51 ?k51 ?go51
    (case a51 => k_is); (case l51 => k_is); (case c51 => k_is); (case k51 => k_is)
    intro d__law_arranged
    refine' with_df (x := "_law_ways") (st := s__law_ways) KX G ?a52 ?l52 ?c52 ?k52 ?go52
    (case a52 => k_is); (case l52 => k_is); (case c52 => k_is); (case k52 => k_is)
    intro d__law_ways
    refine' with_df (x := "_law_right") (st := s__law_right) KX G ?a53 ?l53 ?c53 ?k53 ?go53
    (case a53 => k_is); (case l53 => k_is); (case c53 => k_is); (case k53 => k_is)
    intro d__law_right
    refine' with_df (x := "law") (st := s_law) KX G ?a54 ?l54 ?c54 ?k54 ?go54
    (case a54 => k_is); (case l54 => k_is); (case c54 => k_is); (case k54 => k_is)
    intro d_law
    refine' with_bl (x := "abs") KX G ?z55 ?go55
    (case z55 => k_is)
    intro b_abs
    refine' with_bl (x := "all") KX G ?z56 ?go56
    (case z56 => k_is)
    intro b_all
    refine' with_bl (x := "any") KX G ?z57 ?go57
    (case z57 => k_is)
    intro b_any
    refine' with_bl (x := "bool") KX G ?z58 ?go58
    (case z58 => k_is)
    intro b_bool
    refine' with_bl (x := "enumerate") KX G ?z59 ?go59
    (case z59 => k_is)
    intro b_enumerate
    refine' with_bl (x := "int") KX G ?z60 ?go60
    (case z60 => k_is)
    intro b_int
    refine' with_bl (x := "isinstance") KX G ?z61 ?go61
    (case z61 => k_is)
    intro b_isinstance
    refine' with_bl (x := "len") KX G ?z62 ?go62
    (case z62 => k_is)
    intro b_len
    refine' with_bl (x := "list") KX G ?z63 ?go63
    (case z63 => k_is)
    intro b_list
    refine' with_bl (x := "max") KX G ?z64 ?go64
    (case z64 => k_is)
    intro b_max
    refine' with_bl (x := "min") KX G ?z65 ?go65
    (case z65 => k_is)
    intro b_min
    refine' with_bl (x := "range") KX G ?z66 ?go66
    (case z66 => k_is)
    intro b_range
    refine' with_bl (x := "sorted") KX G ?z67 ?go67
    (case z67 => k_is)
    intro b_sorted
    refine' with_bl (x := "sum") KX G ?z68 ?go68
    (case z68 => k_is)
    intro b_sum
    refine' with_bl (x := "tuple") KX G ?z69 ?go69
    (case z69 => k_is)
    intro b_tuple
    refine' with_bl (x := "type") KX G ?z70 ?go70
    (case z70 => k_is)
    intro b_type
    refine' with_bl (x := "zip") KX G ?z71 ?go71
    (case z71 => k_is)
    intro b_zip
    refine' with_gi (x := "MOST_LIQUIDS") (n := 8) KX G ?z72 ?go72
    (case z72 => k_is)
    intro b_MOST_LIQUIDS
    refine' with_gi (x := "MOST_TOP_UPS") (n := 60) KX G ?z73 ?go73
    (case z73 => k_is)
    intro b_MOST_TOP_UPS
    refine' with_gi (x := "MOST_PARTS") (n := 100) KX G ?z74 ?go74
    (case z74 => k_is)
    intro b_MOST_PARTS
    refine' with_gi (x := "MOST_UNLIKE_KEEPS") (n := 8) KX G ?z75 ?go75
    (case z75 => k_is)
    intro b_MOST_UNLIKE_KEEPS
    refine' with_gi (x := "MOST_TOLD") (n := 500) KX G ?z76 ?go76
    (case z76 => k_is)
    intro b_MOST_TOLD
    refine' with_bf (x := "gcd") (id := "math.gcd") KX G ?z77 ?go77
    (case z77 => k_is)
    intro b_gcd
    refine' Gx.with_er (x := "InvalidKept") KX G ?a78 ?l78 ?c78 ?k78 ?t78 ?r78 ?n78 ?go78
    (case a78 => k_is); (case l78 => k_exc); (case c78 => k_is); (case k78 => k_is); (case t78 => k_is); (case r78 => k_is); (case n78 => first | rfl | k_is)
    intro e_InvalidKept
    refine' Gx.with_er (x := "TooMany") KX G ?a79 ?l79 ?c79 ?k79 ?t79 ?r79 ?n79 ?go79
    (case a79 => k_is); (case l79 => k_exc); (case c79 => k_is); (case k79 => k_is); (case t79 => k_is); (case r79 => k_is); (case n79 => first | rfl | k_is)
    intro e_TooMany
    refine' Gx.with_exm e_InvalidKept e_TooMany ?a80 ?go80
    (case a80 => first | kernel_rfl | rfl | k_is)
    intro EXM
    refine' Gx.with_bd (m := "undone") KL_ContentSearch ?a81 ?l81 ?c81 ?k81 ?t81 ?r81 ?n81 ?go81
    (case a81 => k_is); (case l81 => k_is); (case c81 => k_is); (case k81 => k_is); (case t81 => k_is); (case r81 => first | rfl | decide +kernel); (case n81 => k_is)
    intro BD_ContentSearch_undone
    exact K34.k34_end KL_ContentSearch ⟨na_ContentSearch_choices, na_ContentSearch_products, na_ContentSearch_known⟩ BD_ContentSearch_undone EXM hmg d_is_integer d_is_within d_is_pair_in_lowest_terms d_is_kept d_is_list_of_keeps t_is_list_of_keeps n_is_list_of_keeps (by first | rfl | decide +kernel) d_is_list_of_liquids t_is_list_of_liquids n_is_list_of_liquids (by first | rfl | decide +kernel) d_is_row d_check_keeps d_check_row d_check_liquid d_check_number d_common_divisor d_without_divisor d_is_content d_pure_content d_is_list_of_amounts t_is_list_of_amounts n_is_list_of_amounts (by first | rfl | decide +kernel) d_check_content d_histories_along d_is_one_left d_check_keeps_to_undo d_holds_for_all d_can_be_last d_content_before d_is_pure d_content_layers d_ContentSearch___init__ d_ContentSearch_undone d_ContentSearch_is_reachable d_ContentSearch_is_bottom t_ContentSearch_is_bottom n_ContentSearch_is_bottom (by first | decide | decide +kernel) d_products_of d_pure_liquids d_liquids_of d_layers_back d_all_before d_count_by d_count_of t_count_of n_count_of (by first | rfl | decide +kernel) d_told_by d_told_of d_topped_by d_content_behind d_contents_by d__law_jar d__law_dip d__law_gcd d__law_plain d__law_spots d__law_choices d__law_arranged d__law_ways d__law_right d_law b_abs b_all b_any b_bool b_enumerate b_int b_isinstance b_len b_list b_max b_min b_range b_sorted b_sum b_tuple b_type b_zip b_MOST_LIQUIDS b_MOST_TOP_UPS b_MOST_PARTS b_MOST_UNLIKE_KEEPS b_MOST_TOLD b_gcd e_InvalidKept e_TooMany
end
