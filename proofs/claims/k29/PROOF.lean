import PyProof.Rows.All
import PySem.Challenge.RW_topups_k29_whole_mixtures_topped_up
import HandS.ForMost
import HandS.AnyAll
import HandS.GenOver
import HandS.Gcd
import HandS.Wide
import HandS.IsInst
import HandS.More
import HandS.EndTab
import PyProof.TypeEq
import PyProof.ReprRoads
import PyProof.ReprLen
import HandS.Style
import PyProof.CallFns
import PyProof.Rows.RuleB_floordiv
import HandS.Walk
import HandS.TupLen
import HandS.Dict
import PyProof.SumWalkG
import HandS.SetBool
import HandS.SetKeys
import HandS.Conv
import HandS.Zip
section
set_option Elab.async false
set_option linter.all false
set_option maxRecDepth 100000
set_option maxHeartbeats 4000000
/-! Generator expressions walked by all(..), with the element any expression of the layer; a code object's table is held as an open thing. -/
namespace Gx
open PySem PySem.Spec PyProof.Rows L2 GxR

/-- a code object's table, whatever it holds so far -/
def tabPhi (P : Addr) : Heap → Prop := fun h => ∃ ps : Array Value, h.get? P = some { cls := .none, data := .fields ps } ∧ TriplesOk ps.toList
def TabO (P : Addr) : HO := .ext (tabPhi P)
theorem tab_stay {P : Addr} : ∀ h1 h2 : Heap, tabPhi P h1 → (∀ o, h1.get? P = some o → h2.get? P = some o) → tabPhi P h2 := fun h1 h2 ⟨ps, e, t⟩ k => ⟨ps, k _ e, t⟩
theorem tab_ok {Pr : Program} {w : World} {H : Hp} {h : Heap} {P : Addr} (t : tabPhi P h) : ObjOk Pr w H h P (TabO P) := ⟨t, let ⟨ps, e, _⟩ := t; ⟨_, e⟩, tab_stay⟩

theorem inv_same {X : Cx} {pins : List (Addr × Obj)} {σ : L2.St} {H : Hp} {s s' : Shared} (I : Inv X pins σ H s) (h : s'.heap = s.heap) (o : s'.os = s.os) (b : AllBare s'.gens) : Inv X pins σ H s' :=
  ⟨I.ok, o.trans I.os, b, by rw [h]; exact I.base, by rw [h]; exact I.loc, by rw [h]; exact I.cell, I.free, I.freeC, by rw [h]; exact I.pin, by rw [h]; exact I.hok, I.len⟩
theorem bare_set {s : Shared} {g : Nat} {x : GenState} (h : AllBare s.gens) (hx : x.bare = true) : AllBare (s.setGen g x).gens :=
  AllBare.moved h (.inr ⟨GenOnly.setGen s g x, fun y hy => by
    have h1 : (s.gens.setIfInBounds g x)[g]? = some y := hy
    rw [Array.getElem?_setIfInBounds_self] at h1
    split at h1
    · cases h1; exact hx
    · cases h1⟩)
theorem setGen_at {s : Shared} {g : Nat} {x : GenState} (h : g < s.gens.size) : (s.setGen g x).gens[g]? = some x := by
  show (s.gens.setIfInBounds g x)[g]? = some x
  rw [Array.getElem?_setIfInBounds_self, if_pos h]

/-- the context of a generator expression's frame: made at s; fp: its iterator's objects -/
abbrev gcx (X : Cx) (s : Shared) (H : Hp) (N : List Str) (cenv : Env) (fp : List Addr) (A : Around) : Cx :=
  { X with A := A, N := N, s_0 := s, H_0 := H, env := cenv, outer := X.stack, stack := cenv :: X.stack, ex := fp, fn := fun _ => false, calm := true, pn := [], xe := fun _ _ => False }
/-- the expression's own scope: x its target; ns: the names that it captures, with their places in the def -/
structure GOk (N : List Str) (sc scope : Scope) (x : Str) (ns : List (Str × Nat)) : Prop where
  kind : scope.kind = .function
  co : scope.isCoroutine = false
  cell : ∀ y ∈ scope.names, y.2 ≠ .cell
  dot : scope.names.lookup (".0" : Str) = some NameKind.local
  loc : scope.names.lookup x = some .local
  free : ∀ y ∈ scope.names, y.2 = .free → sc.names.lookup y.1 = some .cell ∨ sc.names.lookup y.1 = some .free
  caps : ∀ p ∈ ns, N[p.2]? = some p.1 ∧ (p.1, NameKind.free) ∈ scope.names
  uniq : ∀ y ∈ scope.names, scope.names.lookup y.1 = some y.2
def capsOf (σ : L2.St) (ns : List (Str × Nat)) : L2.St := ns.map fun p => (σ[p.2]?).join

section
variable {X : Cx} {pins : List (Addr × Obj)} {σ : L2.St} {H : Hp} {s : Shared}
theorem clo_lookup {cells : List (Str × Addr)} {names : List (Str × NameKind)} {y : Str} {c : Addr} (h : (y, NameKind.free) ∈ names) (hc : cells.lookup y = some c) : (cloFrom cells names []).lookup y = some c := by
  obtain ⟨c', e⟩ := mem_lookup (cloFrom_has (cells := cells) (acc := []) h)
  rcases cloFrom_mem (PySem.mem_of_lookup e) with z | ⟨_, z⟩
  · cases z
  · rw [e, z, hc]; rfl
theorem clo_of {cells : List (Str × Addr)} {names : List (Str × NameKind)} {y : Str} {c : Addr} (hf : ∀ y ∈ names, y.2 = .free → ∃ c, cells.lookup y.1 = some c) (h : (cloFrom cells names []).lookup y = some c) : (y, NameKind.free) ∈ names ∧ cells.lookup y = some c := by
  rcases cloFrom_mem (PySem.mem_of_lookup h) with z | ⟨z1, z2⟩
  · cases z
  · obtain ⟨d, hd⟩ := hf _ z1 rfl
    refine ⟨z1, ?_⟩
    have hd' : cells.lookup y = some d := hd
    rw [hd'] at z2
    rw [hd', z2]; rfl
theorem inv_gen {s5 : Shared} {scope : Scope} {x : Str} {ns : List (Str × Nat)} {fp : List Addr} {P C a : Addr} {go : Obj} {code it : Value} {A : Around}
    (I : Inv X pins σ H s) (S : GOk X.N X.env.scope scope x ns) (hP : H P = some (TabO P)) (hf : ∀ b ∈ fp, FpOk X pins H b) (hfo : ∀ b ∈ fp, ∃ o, s.heap.get? b = some o)
    (hA : A.frames = some (genEnv scope (cloFrom X.env.cells scope.names []) C code builtinsNs X.env :: X.stack)) (hh : A.handled = none) (hC : s.heap.objs.size ≤ C) (ha : C < a)
    (ho : s5.os = s.os) (hb : AllBare s5.gens) (k : ∀ b o, b ≠ P → s.heap.get? b = some o → s5.heap.get? b = some o) (hp : tabPhi P s5.heap)
    (hn : s5.heap.Ns C (fun y => if y = ".0" then some it else none)) (hgo : s5.heap.get? a = some go) (hgd : ∀ v, go.data ≠ .cell v) :
    Inv (gcx X s H (x :: ns.map (·.1)) (genEnv scope (cloFrom X.env.cells scope.names []) C code builtinsNs X.env) fp A) [(a, go)] (none :: capsOf σ ns) H s5 := by
  have hfree : ∀ y ∈ scope.names, y.2 = .free → ∃ c, X.env.cells.lookup y.1 = some c := fun y hy e => by
    rcases S.free y hy e with k | k
    · exact I.ok.has _ (.inl k)
    · exact I.ok.has _ (.inr k)
  have nP : ∀ b, H b = none → b ≠ P := fun b e z => by
    rw [z, hP] at e
    cases e
  have fplt : ∀ b ∈ fp, b < s.heap.objs.size := fun b hb => let ⟨o, e⟩ := hfo b hb; Heap.lt_size e
  have stk : ∀ b ∈ fp, b ∉ frs X.stack := fun b hb hm => by
    obtain ⟨_, f1, f2, _⟩ := hf b hb
    rcases List.mem_cons.mp (I.stkSub b hm) with z | z
    · exact f1 z
    · exact f2 z
  have noA : ∀ b, s.heap.objs.size ≤ b → b ∉ frs X.stack := fun b hb hm => by
    rcases List.mem_cons.mp (I.stkSub b hm) with z | z
    · have := I.lt
      rw [← z] at this
      exact absurd (Nat.lt_of_lt_of_le this hb) (Nat.lt_irrefl _)
    · exact I.nofs hb z
  refine ⟨⟨I.mod, S.kind, I.ok.glob, rfl, hC, fun y z c h1 h2 => ?_, fun y hy => ?_, fun y c h _ => (by cases h), fun _ => hh, hA, .inr ⟨rfl, rfl⟩, fun b hb => ⟨?_, fun y c h z => ?_⟩, fun b o e => I.bs b o e, Nat.le_trans I.ok.bsz I.sz, fun b o e hm => ?_, fun b hb => stk b hb, I.stack, I.stkFree⟩,
    ho, hb, ⟨fun b o e n _ _ => k b o (nP b n) e, fun b o e n _ _ => ⟨o.slots, k b o (nP b n) e⟩, fun _ _ _ n _ => n, fun b o e _ => ?_, fun _ _ q => q, fun _ _ _ q => q, fun b ps q => ⟨#[], by
      have q' : H b = some (.tbl ps) := q
      rw [q']; simp⟩⟩,
    ⟨_, hn, fun i y v h1 h2 h3 => ?_⟩, fun y c h => ?_, I.hok.fresh hC, fun y c h => ?_, fun p hp' => ?_, fun b u e => ?_, ?_⟩
  · exact I.ok.inj _ _ _ (clo_of hfree h1).2 (clo_of hfree h2).2
  · have hy : scope.names.lookup y = some .cell ∨ scope.names.lookup y = some .free := hy
    rcases hy with hy | hy
    · exact absurd rfl (S.cell _ (PySem.mem_of_lookup hy))
    · obtain ⟨c, e⟩ := hfree _ (PySem.mem_of_lookup hy) rfl
      exact ⟨c, clo_lookup (PySem.mem_of_lookup hy) e⟩
  · exact Nat.ne_of_lt (Nat.lt_of_lt_of_le (fplt b hb) hC)
  · obtain ⟨_, _, _, _, f4, _⟩ := hf b hb
    exact f4 y c (clo_of hfree h).2 z
  · obtain ⟨_, _, _, f3, _⟩ := hf b hm
    rcases f3 with z | z
    · exact I.ok.noex b o e z
    · exact absurd (Nat.lt_of_lt_of_le (Heap.lt_size e) (Nat.le_trans I.ok.bsz z)) (Nat.lt_irrefl _)
  · by_cases hb : b = P
    · obtain ⟨ps, e2, _⟩ := hp
      exact ⟨_, by rw [hb]; exact e2⟩
    · exact ⟨o, k b o hb e⟩
  · cases i with
    | zero => cases h2
    | succ i =>
      have h1' : (ns.map (·.1))[i]? = some y := h1
      have h2' : (capsOf σ ns)[i]? = some (some v) := h2
      unfold capsOf at h2'
      rw [List.getElem?_map] at h1' h2'
      cases e : ns[i]? with
      | none => rw [e] at h1'; cases h1'
      | some p =>
        rw [e] at h1' h2'
        have e1 : p.1 = y := Option.some.inj h1'
        have e2 : (σ[p.2]?).join = some v := Option.some.inj h2'
        obtain ⟨c1, c2⟩ := S.caps p (List.mem_of_getElem? e)
        obtain ⟨m, hm, hl⟩ := I.loc
        have e3 : σ[p.2]? = some (some v) := by
          cases q : σ[p.2]? with
          | none => rw [q] at e2; cases e2
          | some w => rw [q] at e2; have e2' : w = some v := e2; rw [e2']
        have hk := S.free _ c2 rfl
        have hvis : Vis X.env.scope p.1 := .inr hk
        obtain ⟨u, r, lk⟩ := hl p.2 p.1 v c1 e3 hvis
        refine ⟨u, r, ?_⟩
        rcases lk with ⟨kl, _⟩ | ⟨_, c, hc, ic⟩
        · have kl' : X.env.scope.names.lookup p.1 = some .local := kl
          rcases hk with hk | hk
          · rw [show X.env.scope.names.lookup p.1 = some .cell from hk] at kl'; cases kl'
          · rw [show X.env.scope.names.lookup p.1 = some .free from hk] at kl'; cases kl'
        · rw [← e1]
          refine .inr ⟨.inr (S.uniq _ c2), c, clo_lookup c2 hc, ?_⟩
          obtain ⟨oc, ho', hd'⟩ := ic
          exact ⟨oc, k c oc (nP c (I.freeC _ _ hc)) ho', hd'⟩
  · have hc := (clo_of hfree h).2
    obtain ⟨v, oc, ho', hd'⟩ := I.cell y c hc
    exact ⟨v, oc, k c oc (nP c (I.freeC _ _ hc)) ho', hd'⟩
  · exact I.freeC _ _ (clo_of hfree h).2
  · have hp2 : p ∈ [(a, go)] := hp'
    rw [List.mem_singleton.mp hp2]
    have hsa : s.heap.objs.size ≤ a := Nat.le_trans hC (Nat.le_of_lt ha)
    exact ⟨hgo, I.hok.fresh hsa, Nat.ne_of_gt ha, noA a hsa, hgd⟩
  · by_cases hb : b = P
    · rw [hb, hP] at e
      cases e
      rw [hb]
      exact tab_ok hp
    · refine (I.hok b u e).stay (fun c v hc q => k c v ?_ q) (fun _ q => q) fun _ _ q => q
      rcases hc with z | z
      · rw [z]; exact hb
      · intro w
        rw [w, hP] at z
        cases z
  · show (none :: capsOf σ ns).length = (x :: ns.map (·.1)).length
    unfold capsOf
    simp
/-- back in the def -/
theorem inv_back {N : List Str} {cenv : Env} {fp : List Addr} {A : Around} {pins' : List (Addr × Obj)} {σ' : L2.St} {H' : Hp} {s' : Shared} (I : Inv X pins σ H s) (hf : ∀ b ∈ fp, FpOk X pins H b)
    (J : Inv (gcx X s H N cenv fp A) pins' σ' H' s') : Inv X pins σ H' s' :=
  I.call' (ch := fp) J.os J.base J.hok J.bare fun b hb => let ⟨_, f1, _, f3, f4, f5⟩ := hf b hb; ⟨f3, f1, f4, f5⟩
end

/-! ### the segment -/
def GEnd (G : Cx) (a : Addr) (go : Obj) (caps : L2.St) (L : Nat) (Pv : Nat → Hp → Prop) : Nat → Shared → Shared → Prop := fun n _ s => n = 1 ∧ ∃ H, Inv G [(a, go)] (none :: caps) H s ∧ Pv L H
def GYld (G : Cx) (a : Addr) (go : Obj) (caps : L2.St) (L : Nat) (Pv : Nat → Hp → Prop) (Ye : Nat → V → Hp → Prop) : Protocol := fun n _ v s kap =>
  ∃ i y H, i < L ∧ n + i = L ∧ RelV y v ∧ Inv G [(a, go)] (none :: caps) H s ∧ Ye i y H ∧ ∀ s', s'.heap = s.heap → s'.os = s.os → AllBare s'.gens → Pv (i + 1) H → kap (.send .none) s'
section
variable {G : Cx} {A : Around} {elt iter : Expr} {x : Str} {px : Pos} {scope : Scope} {pos : Pos} {it a : Addr} {go : Obj} {fp : List Addr} {tn : Nat → Heap → Prop} {J : It} {caps : L2.St} {te : TE} {L : Nat} {Pv : Nat → Hp → Prop} {Ye : Nat → V → Hp → Prop}
theorem seg_gloop (hA : A.over (.compLoop (.GeneratorExp elt [⟨.Name x px, iter, [], 0⟩] scope pos) 0 (.ref it) .none G.env) [] = G.A) (hc : G.calm = true) (hex : G.ex = fp) (hxe : G.xe = fun _ _ => False) (hpn : G.pn = []) (hco : G.env.scope.isCoroutine = false)
    (T : Turn G.prog G.w G.K (.Name x px) J fp it tn) (hg : PG G (.Name x px) (gName 0)) (he : PE G elt te) (ha : ∀ b ∈ fp, a ≠ b)
    (step : ∀ i H, i < L → Pv i H → J.go i H ∧ ∀ y H', J.yld i H y H' → te (some y :: caps) H' (Ye i)) (stop : ∀ H, Pv L H → J.stop L H) :
    ∀ (k i : Nat) (s₀ s : Shared) (H : Hp), L - i = k → i ≤ L → Inv G [(a, go)] (none :: caps) H s → tn i s.heap → (∀ b ∈ fp, H b = none) → Pv i H →
      Seg (model G.prog G.w) A (fun n s₀ r s₁ => r = .ok .next ∧ GEnd G a go caps L Pv n s₀ s₁) (GYld G a go caps L Pv Ye) (k + 1) s₀
        (.compLoop (.GeneratorExp elt [⟨.Name x px, iter, [], 0⟩] scope pos) 0 (.ref it) .none G.env)
        ((model G.prog G.w).den (.compLoop (.GeneratorExp elt [⟨.Name x px, iter, [], 0⟩] scope pos) 0 (.ref it) .none G.env)) [] s := by
  have fpok : ∀ {H : Hp} {σ : L2.St} {s : Shared}, Inv G [(a, go)] σ H s → (∀ b ∈ fp, H b = none) → ∀ b ∈ fp, FpOk G [(a, go)] H b := fun {H σ s} I hn b hb => by
    have hb' : b ∈ G.ex := by rw [hex]; exact hb
    obtain ⟨e1, e2⟩ := I.ok.exf b hb'
    refine ⟨hn b hb, e1, I.ok.exfs b hb', .inl hb', e2, fun p hp => ?_⟩
    rw [hpn, List.nil_append] at hp
    rw [List.mem_singleton.mp hp]
    exact ha b hb
  intro k
  induction k with
  | zero =>
    intro i s₀ s H hk hi I st fr pv
    have hin : i = L := by omega
    subst hin
    show Seg _ A _ _ _ s₀ _ ((compTurn (.GeneratorExp elt [⟨.Name x px, iter, [], 0⟩] scope pos) 0 (.ref it) .none G.env).onRaise (leaving G.env)) [] s
    rw [compTurn_gen, Sem.onRaise_eq_wrap]
    refine seg_bind_wrap (wpAny_standAt ?_)
    refine seg_bind_wrap ?_
    rw [hA]
    refine thn (T.done G rfl rfl rfl hc i _ s _ H _ I (fpok I fr) st (stop H pv)) fun r s1 ⟨hr, I1⟩ => ?_
    subst hr
    exact seg_end (.ok .next) ⟨rfl, rfl, H, I1, pv⟩
  | succ k ih =>
    intro i s₀ s H hk hi I st fr pv
    have hlt : i < L := by omega
    obtain ⟨hgo, hstep⟩ := step i H hlt pv
    show Seg _ A _ _ _ s₀ _ ((compTurn (.GeneratorExp elt [⟨.Name x px, iter, [], 0⟩] scope pos) 0 (.ref it) .none G.env).onRaise (leaving G.env)) [] s
    rw [compTurn_gen, Sem.onRaise_eq_wrap]
    refine seg_bind_wrap (wpAny_standAt ?_)
    refine seg_bind_wrap ?_
    rw [hA]
    refine thn (T.item G rfl rfl rfl hc i _ s _ H _ I (fpok I fr) st hgo) fun r s1 ⟨u, hr, h1⟩ => ?_
    subst hr
    refine seg_bind_wrap ?_
    rw [hA]
    refine thn h1 fun _ s2 ⟨y, H2, I2, ru, yl, st2, fr2⟩ => ?_
    have I2p := I2.pinned (fpok I2 fr2) (T.obj _ _ st2)
    refine seg_bind_wrap ?_
    rw [hA]
    refine wpAny_mono (hg.run _ s2 _ H2 y u (fun σ' H' => σ' = some y :: caps ∧ H' = H2) I2p ru ⟨rfl, rfl⟩) (fun _ s3 h3 => ?_) (fun e s' hx => by rw [hxe] at hx; exact hx.elim)
    obtain ⟨σ3, H3, I3, e3, e3'⟩ := h3
    subst e3 e3'
    simp only [List.forIn_nil]
    refine seg_bind_wrap (wpAny_pure ?_)
    simp only [if_true]
    have hy : ∀ v, yieldOut G.env v = yieldValue v := fun v => by simp only [yieldOut, hco, Bool.false_eq_true, if_false]
    simp only [hy]
    rw [Sem.bind_eq_wrap', Sem.bind_eq_wrap', Sem.wrap_wrap, Sem.wrap_wrap]
    refine seg_wrap ?_
    rw [hA]
    refine wpAny_mono (he.run _ s3 _ _ (Ye i) I3 (hstep y _ yl)) (fun v s4 h4 => ?_) (fun e s' hx => by rw [hxe] at hx; exact hx.elim)
    obtain ⟨y4, H4, I4, r4, q4⟩ := h4
    have pinAt : ∀ b ∈ fp, ∀ o, s2.heap.get? b = some o → s4.heap.get? b = some o ∧ H4 b = none := fun b hb o e =>
      let z := I4.pin (b, o) (List.mem_append_right _ (List.mem_append_right _ (mem_pinsAt hb e))); ⟨z.1, z.2.1⟩
    have st4 : tn (i + 1) s4.heap := T.keep _ _ _ st2 fun b hb o e => (pinAt b hb o e).1
    have fr4 : ∀ b ∈ fp, H4 b = none := fun b hb => by
      obtain ⟨o, e, _⟩ := T.obj _ _ st2 b hb
      exact (pinAt b hb o e).2
    have I4w : Inv G [(a, go)] (none :: caps) H4 s4 := I4.unpinned.weak rfl fun j v hj => by
      cases j with
      | zero => cases hj
      | succ j => exact hj
    refine seg_at (seg_yield rfl rfl rfl ⟨i, y4, H4, hlt, by omega, r4, I4w, q4, fun s5 eh eo eb pv5 => ?_⟩)
    exact seg_again rfl (ih (i + 1) s5 s5 H4 (by omega) hlt (inv_same I4w eh eo eb) (by rw [eh]; exact st4) fr4 pv5)

theorem seg_gstart (hA : A.over (.compLoop (.GeneratorExp elt [⟨.Name x px, iter, [], 0⟩] scope pos) 0 (.ref it) .none G.env) [] = G.A) (hc : G.calm = true) (hex : G.ex = fp) (hxe : G.xe = fun _ _ => False) (hpn : G.pn = []) (hco : G.env.scope.isCoroutine = false)
    (T : Turn G.prog G.w G.K (.Name x px) J fp it tn) (hg : PG G (.Name x px) (gName 0)) (he : PE G elt te) (ha : ∀ b ∈ fp, a ≠ b)
    (step : ∀ i H, i < L → Pv i H → J.go i H ∧ ∀ y H', J.yld i H y H' → te (some y :: caps) H' (Ye i)) (stop : ∀ H, Pv L H → J.stop L H)
    (s₀ s : Shared) (H : Hp) (I : Inv G [(a, go)] (none :: caps) H s) (st : tn 0 s.heap) (fr : ∀ b ∈ fp, H b = none) (pv : Pv 0 H) :
      Seg (model G.prog G.w) A (fun n s₀ r s₁ => r = .ok .next ∧ GEnd G a go caps L Pv n s₀ s₁) (GYld G a go caps L Pv Ye) (L + 1) s₀
        (.compStart (.GeneratorExp elt [⟨.Name x px, iter, [], 0⟩] scope pos) 0 (.ref it) .none G.env)
        ((model G.prog G.w).den (.compStart (.GeneratorExp elt [⟨.Name x px, iter, [], 0⟩] scope pos) 0 (.ref it) .none G.env)) [] s := by
  have loop := seg_gloop (a := a) (go := go) hA hc hex hxe hpn hco T hg he ha step stop L 0 s₀ s H (Nat.sub_zero _) (Nat.zero_le _) I st fr pv
  show Seg _ A _ _ _ s₀ _ ((compStart (.GeneratorExp elt [⟨.Name x px, iter, [], 0⟩] scope pos) 0 (.ref it) .none G.env).onRaise (leaving G.env)) [] s
  unfold compStart
  rw [Sem.onRaise_eq_wrap]
  show Seg _ A _ _ _ s₀ _ ((ask >>= _).wrap _ _ _ _) [] s
  refine seg_bind_wrap (wpAny_askSetting ?_)
  split
  · exact seg_again rfl loop
  · first
      | exact seg_bind_wrap (wpAny_rule (seg_bind_wrap (wpAny_standAt (seg_bind_wrap (T.self _ 0 s _ _ st (seg_again rfl loop))))))
      | (refine seg_bind_wrap (wpAny_rule ?_); show Seg _ A _ _ _ s₀ _ ((standAt iter.pos >>= _).wrap _ _ _ _) [] s; exact seg_bind_wrap (wpAny_standAt (seg_bind_wrap (T.self _ 0 s _ _ st (seg_again rfl loop)))))
end
end Gx
end

section
set_option Elab.async false
set_option linter.all false
set_option maxRecDepth 100000
set_option maxHeartbeats 4000000
namespace Gx
open PySem PySem.Spec PyProof.Rows L2 GxR
/-- what stands when a generator expression has been made -/
def GReady (X : Cx) (pins : List (Addr × Obj)) (σ : L2.St) (J : It) (H2 : Hp) (te : TE) (caps : L2.St) (k : Nat) (a : Addr) (s5 : Shared) : Prop :=
  ∃ (g : Nat) (go : Obj) (c : Code), (∀ h : Heap, h.get? a = some go → h.IsGen a g) ∧ s5.gens[g]? = some (.fresh c) ∧
    ∀ A : Around, Room (k + 1) A → A.frames = some X.stack → ∃ G : Cx, G.prog = X.prog ∧ G.w = X.w ∧ (∀ H' s', Inv G [(a, go)] (none :: caps) H' s' → Inv X pins σ H' s') ∧ Inv G [(a, go)] (none :: caps) H2 s5 ∧
      ∀ (L : Nat) (Pv : Nat → Hp → Prop) (Ye : Nat → V → Hp → Prop), (∀ i H, i < L → Pv i H → J.go i H ∧ ∀ y H', J.yld i H y H' → te (some y :: caps) H' (Ye i)) → (∀ H, Pv L H → J.stop L H) → Pv 0 H2 →
        ∀ s', s'.heap = s5.heap → s'.os = s5.os → AllBare s'.gens →
          (GenState.fresh c).Goes (model X.prog X.w) A (fun n s₀ r s₁ => r = .ok .next ∧ GEnd G a go caps L Pv n s₀ s₁) (GYld G a go caps L Pv Ye) (L + 1) (.send .none) s'
section
variable {X : Cx} {pins : List (Addr × Obj)} {σ : L2.St} {H : Hp} {s : Shared}
theorem gen_made {c P : Addr} {elt iter : Expr} {x : Str} {px gpos : Pos} {scope : Scope} {ns : List (Str × Nat)} {wi : TI} {te : TE} {k k' : Nat} {Q' : Value → Shared → Prop} {R : It → Hp → Prop}
    (hr : Room k X.A) (TB : TabB X.base X.mg c P) (hcode : X.env.code = .ref c) (S : GOk X.N X.env.scope scope x ns) (hnd : (x :: ns.map (·.1)).Nodup) (hi : PI X (.Name x px) iter wi)
    (he : ∀ (s : Shared) (H : Hp) (C : Addr) (code : Value) (fp : List Addr) (A : Around), Room k' A → PE (gcx X s H (x :: ns.map (·.1)) (genEnv scope (cloFrom X.env.cells scope.names []) C code builtinsNs X.env) fp A) elt te)
    (hs : ∀ v, genFold iter X.env v = pure v) (I : Inv X pins σ H s) (h : wi σ H fun J H1 => H1 P = some (TabO P) ∧ R J H1)
    (hQ : ∀ J H2 a s5, R J H2 → GReady X pins σ J H2 te (capsOf σ ns) k' a s5 → Q' (.ref a) s5) :
    wpAny (model X.prog X.w) X.A (eval (.GeneratorExp elt [⟨.Name x px, iter, [], 0⟩] scope gpos) X.env) Q' X.xe s := by
  have hfree : ∀ y ∈ scope.names, y.2 = .free → ∃ c, X.env.cells.lookup y.1 = some c := fun y hy e => by
    rcases S.free y hy e with k | k
    · exact I.ok.has _ (.inl k)
    · exact I.ok.has _ (.inr k)
  refine wpAny_GeneratorExp_make S.co (closure_ok hfree) S.cell S.dot S.kind (by have := hr.dp; omega) (thn (hi.run pins s σ H _ I h) fun xv s1 hx => thn hx fun itv s2 h2 => ?_) hs
  obtain ⟨it, fp, tn, J, H2, e, I2, T, st2, f2, hP, q⟩ := h2
  subst e
  obtain ⟨⟨ps, hPs, ht⟩, _, _⟩ := I2.hok P _ hP
  have hPlt : P < s2.heap.objs.size := Heap.lt_size hPs
  have cd : PySem.W.CodeHd s2.heap c P := TB.code.keeps fun b u e => I2.bk b u e
  have cont : ∀ (code : Value) (h3 : Heap) (tk : Nat), Heap.ExtBut P s2.heap h3 → s2.heap.objs.size ≤ h3.objs.size → tabPhi P h3 →
      wpAny (model X.prog X.w) X.A (builtinsFor X.env.globals X.env.builtins) (fun bi s₄ =>
        ∀ h', h'.Ns s₄.heap.objs.size (fun y => if y = ".0" then some (.ref it) else none) → Heap.SameBut s₄.heap.objs.size (s₄.heap.push { cls := .type "frame", data := .dict #[] }) h' →
          Q' (.ref h'.objs.size) { s₄ with
            gens := s₄.gens.push (.fresh (.compStart (.GeneratorExp elt [⟨.Name x px, iter, [], 0⟩] scope gpos) 0 (.ref it) .none (genEnv scope (cloFrom X.env.cells scope.names []) s₄.heap.objs.size code bi X.env))),
            toks := s₄.toks + 1 + 1 + 1,
            heap := h'.push { cls := .type "generator", data := .fields #[.int s₄.gens.size 0, .str "<genexpr>" (s₄.toks + 1), .str (X.env.qual ++ "<genexpr>") (s₄.toks + 1 + 1)] } }) X.xe { s2 with heap := h3, toks := tk } := by
    intro code h3 tk hx hsz hp3
    obtain ⟨bm, ob, e1, e2, e3, e4, e5, e6, e7, e8⟩ := TB.bm
    have keep3 : ∀ b u, b ≠ P → s2.heap.get? b = some u → h3.get? b = some u := fun b u hb e => hx b u hb e
    refine wpAny_builtinsFor (m := X.mg) (by rw [I2.ok.glob]; exact (I2.mod.glob.keeps I2.bk).extBut hx TB.gP) e1 e2 (keep3 _ _ e4 (I2.bk _ _ e5)) e6 e7 e8 ?_
    intro h' hn' hs'
    have hn' : h'.Ns h3.objs.size (fun y => if y = ".0" then some (.ref it) else none) := hn'
    have hs' : Heap.SameBut h3.objs.size (h3.push { cls := .type "frame", data := .dict #[] }) h' := hs'
    have hsz' : h'.objs.size = h3.objs.size + 1 := by rw [hs'.1, Heap.size_push]
    have keep' : ∀ b o, h3.get? b = some o → h'.get? b = some o := fun b o e => hs'.extBut b o (Nat.ne_of_lt (Heap.lt_size e)) (Heap.get?_push_of_some _ e)
    generalize hgo : ({ cls := .type "generator", data := .fields #[.int s2.gens.size 0, .str "<genexpr>" (tk + 1), .str (X.env.qual ++ "<genexpr>") (tk + 1 + 1)] } : Obj) = go
    have hgen : ∀ h : Heap, h.get? h'.objs.size = some go → h.IsGen h'.objs.size s2.gens.size := fun h e => ⟨go, _, _, e, by rw [← hgo], by rw [← hgo], by rw [← hgo]⟩
    have hgd : ∀ v, go.data ≠ .cell v := fun v z => by rw [← hgo] at z; cases z
    have hself : (h'.push go).get? h'.objs.size = some go := Heap.get?_push_size _ (by rw [← hgo]; rfl)
    have keep5 : ∀ b o, b ≠ P → s2.heap.get? b = some o → (h'.push go).get? b = some o := fun b o hb e => Heap.get?_push_of_some _ (keep' b o (keep3 b o hb e))
    have phi5 : tabPhi P (h'.push go) := tab_stay _ _ hp3 fun o e => Heap.get?_push_of_some _ (keep' _ o e)
    have CP : fp = fp := rfl
    have hfo : ∀ b ∈ fp, ∃ o, s2.heap.get? b = some o := fun b hb => let ⟨o, e, _⟩ := T.obj _ _ st2 b hb; ⟨o, e⟩
    have fpP : ∀ b ∈ fp, b ≠ P := fun b hb z => by
      obtain ⟨f0, _⟩ := f2 b hb
      rw [z, hP] at f0
      cases f0
    refine hQ J H2 h'.objs.size _ q ?_
    refine ⟨s2.gens.size, go, _, hgen, Array.getElem?_push_size .., fun A hA hfr => ?_⟩
    have hAf : (A.over (.compLoop (.GeneratorExp elt [⟨.Name x px, iter, [], 0⟩] scope gpos) 0 (.ref it) .none (genEnv scope (cloFrom X.env.cells scope.names []) h3.objs.size code builtinsNs X.env)) []).frames = some ((genEnv scope (cloFrom X.env.cells scope.names []) h3.objs.size code builtinsNs X.env) :: X.stack) := by
      show pushEnvs [(genEnv scope (cloFrom X.env.cells scope.names []) h3.objs.size code builtinsNs X.env)] (pushEnvs [] A.frames) = _
      rw [hfr]
      rfl
    have hAr : Room k' (A.over (.compLoop (.GeneratorExp elt [⟨.Name x px, iter, [], 0⟩] scope gpos) 0 (.ref it) .none (genEnv scope (cloFrom X.env.cells scope.names []) h3.objs.size code builtinsNs X.env)) []) := by
      refine ⟨hA.hd, ?_, ?_⟩
      · have := hA.dp
        show A.depth + 1 + 3 * k' + 5 < _
        omega
      · have := hA.un
        show A.units + 3 + 16 * k' + 200 < _
        omega
    have I5 := inv_gen (s5 := { s2 with gens := s2.gens.push (.fresh (.compStart (.GeneratorExp elt [⟨.Name x px, iter, [], 0⟩] scope gpos) 0 (.ref it) .none (genEnv scope (cloFrom X.env.cells scope.names []) h3.objs.size code builtinsNs X.env))), toks := tk + 1 + 1 + 1, heap := h'.push go }) (code := code) (it := .ref it) (A := A.over (.compLoop (.GeneratorExp elt [⟨.Name x px, iter, [], 0⟩] scope gpos) 0 (.ref it) .none (genEnv scope (cloFrom X.env.cells scope.names []) h3.objs.size code builtinsNs X.env)) []) (a := h'.objs.size)
      I2 S hP f2 hfo hAf hAr.hd hsz (by rw [hsz']; exact Nat.lt_succ_self _) rfl (I2.bare.push rfl) keep5 phi5 (hn'.push _) hself hgd
    refine ⟨gcx X s2 H2 (x :: ns.map (·.1)) (genEnv scope (cloFrom X.env.cells scope.names []) h3.objs.size code builtinsNs X.env) fp (A.over (.compLoop (.GeneratorExp elt [⟨.Name x px, iter, [], 0⟩] scope gpos) 0 (.ref it) .none (genEnv scope (cloFrom X.env.cells scope.names []) h3.objs.size code builtinsNs X.env)) []), rfl, rfl, fun H' s' J' => inv_back I2 f2 J', I5, fun L Pv Ye step stop pv s' eh eo eb => ⟨rfl, ?_⟩⟩
    refine seg_gstart (G := gcx X s2 H2 (x :: ns.map (·.1)) (genEnv scope (cloFrom X.env.cells scope.names []) h3.objs.size code builtinsNs X.env) fp (A.over (.compLoop (.GeneratorExp elt [⟨.Name x px, iter, [], 0⟩] scope gpos) 0 (.ref it) .none (genEnv scope (cloFrom X.env.cells scope.names []) h3.objs.size code builtinsNs X.env)) [])) (fp := fp) (tn := tn) (J := J) rfl rfl rfl rfl rfl (S.co) T ?_ ?_ (fun b hb z => ?_) step stop s' s' H2 (inv_same I5 eh eo eb) ?_ (fun b hb => (f2 b hb).1) pv
    · refine pg_name (i := 0) hnd rfl (.inl S.loc) (.inr S.loc)
    · exact he s2 H2 h3.objs.size code fp (A.over (.compLoop (.GeneratorExp elt [⟨.Name x px, iter, [], 0⟩] scope gpos) 0 (.ref it) .none (genEnv scope (cloFrom X.env.cells scope.names []) h3.objs.size code builtinsNs X.env)) []) hAr
    · obtain ⟨o, e⟩ := hfo b hb
      have h1 := Heap.lt_size e
      rw [← z, hsz'] at h1
      have h1' : h3.objs.size + 1 < s2.heap.objs.size := h1
      omega
    · rw [eh]
      exact T.keep _ _ _ st2 fun b hb o e => keep5 b o (fpP b hb) e
  refine ⟨I2.nolimit, ?_⟩
  cases hf : codeAmong gpos ps.toList with
  | none =>
    refine wpAny_genexprCodeX hcode (cd.code hPs ht) (cd.tab hPs) hf fun c' h' tk hx hge hlt hco' _ htab' _ => ?_
    obtain ⟨o1, vs, f1, tf, fl, tg, inF, tx, tt, op, _, _, _, _, _, _, _, _, _, htr, _⟩ := hco'
    exact cont _ h' tk hx (Nat.le_trans hge (Nat.le_of_lt hlt)) ⟨_, htab'.2, htr⟩
  | some cv =>
    refine wpAny_genexprCode_hit hcode (cd.code hPs ht) hf ?_
    exact cont cv s2.heap s2.toks (Heap.ExtBut.refl _ _) (Nat.le_refl _) ⟨ps, hPs, ht⟩

theorem codeAny_allG {A0 : Around} {a : Addr} {g : Nat} {go : Obj} {G : Cx} {caps : L2.St} {L : Nat} {Pv : Nat → Hp → Prop} {Ye : Nat → V → Hp → Prop} {Qf : Hp → Prop} {R' : Result → Shared → Prop} {prog : Program} {w : World}
    (hG : G.prog = prog ∧ G.w = w) (hh : A0.handled = none) (hroom : A0.depth < recursionLimit) (hgen : ∀ h : Heap, h.get? a = some go → h.IsGen a g)
    (hYe : ∀ i y H, Ye i y H → ∃ b, y = .bl b ∧ if b = true then Pv (i + 1) H else Qf H)
    (hfalse : ∀ H s, Inv G [(a, go)] (none :: caps) H s → Qf H → R' (.ok (.ret (.bool false))) s) (htrue : ∀ H s, Inv G [(a, go)] (none :: caps) H s → Pv L H → R' (.ok (.ret (.bool true))) s) :
    ∀ (k i : Nat) (s : Shared) (gs : GenState), L - i = k → i ≤ L → (∃ H, Inv G [(a, go)] (none :: caps) H s) → s.gens[g]? = some gs →
      (∀ s', s'.heap = s.heap → s'.os = s.os → AllBare s'.gens → gs.Goes (model prog w) A0.in1.in1 (fun n s₀ r s₁ => r = .ok .next ∧ GEnd G a go caps L Pv n s₀ s₁) (GYld G a go caps L Pv Ye) (L - i + 1) (.send .none) s') →
      codeAny (model prog w) A0 (.builtin "all.loop" ⟨[.ref a], []⟩) R' s := by
  have pin : ∀ {H : Hp} {σ : L2.St} {s : Shared}, Inv G [(a, go)] σ H s → s.heap.IsGen a g := fun I => hgen _ (I.pin (a, go) (List.mem_append_right _ (List.mem_singleton.mpr rfl))).1
  intro k
  induction k with
  | zero =>
    intro i s gs hk hi ⟨H, I⟩ hgs hgo
    have hin : i = L := by omega
    subst hin
    refine codeAny_builtin F.entry_all_loop ?_
    rw [Around.under_plainId F.plain_all_loop _]
    show wpAny _ A0.in1 (pyNext (.ref a) >>= _) _ _ s
    refine wpAny_bind (wpAny_pyNext_genexpQ (n := i - i + 1) (P := GEnd G a go caps i Pv) hh I.nolimit hroom (pin I) hgs (hgo _ rfl rfl (bare_set I.bare rfl)) (fun v s₁ gs' hb hv => ?_) (fun s₁ hp h' hk => ?_))
    · obtain ⟨j, y, H2, hl, hj, _⟩ := hv
      have hj' : i - i + 1 - 1 + j = i := hj
      omega
    · obtain ⟨_, H2, I2, pv⟩ := hp
      refine wpAny_bind (wpAny_rule (wpAny_pure ?_))
      exact htrue H2 _ (inv_same ((inv_same I2 rfl rfl (s' := s₁.setGen g .finished) (bare_set I2.bare rfl)).kept (t' := s₁.toks) hk) rfl rfl (bare_set I2.bare rfl)) pv
  | succ k ih =>
    intro i s gs hk hi ⟨H, I⟩ hgs hgo
    have hlt : i < L := by omega
    refine codeAny_builtin F.entry_all_loop ?_
    rw [Around.under_plainId F.plain_all_loop _]
    show wpAny _ A0.in1 (pyNext (.ref a) >>= _) _ _ s
    have hsz : g + 1 ≤ s.gens.size := (Array.getElem?_eq_some_iff.mp hgs).1
    refine wpAny_bind (GenW.wpAny_gsz hsz (wpAny_pyNext_genexpQ (n := L - i + 1) (P := GEnd G a go caps L Pv) hh I.nolimit hroom (pin I) hgs (hgo _ rfl rfl (bare_set I.bare rfl)) (fun v s₁ gs' hb hv => ?_) (fun s₁ hp h' hk => ?_)))
    · obtain ⟨j, y, H2, hl, hj, r2, I2, ye, kap⟩ := hv
      have hj' : L - i + 1 - 1 + j = L := hj
      have hji : j = i := by omega
      subst hji
      obtain ⟨b, eb, hb2⟩ := hYe j y H2 ye
      subst eb
      have r2' : v = Value.bool b := r2
      subst r2'
      intro hz
      rw [GenW.setGen_size] at hz
      refine wpAny_bind (wpAny_holding (wpAny_truthy_bool ?_))
      refine wpAny_bind (wpAny_letGo ?_)
      have I3 : Inv G [(a, go)] (none :: caps) H2 (s₁.setGen g gs') := inv_same I2 rfl rfl (bare_set I2.bare hb)
      cases b with
      | true =>
        rw [if_pos rfl] at hb2
        simp only [if_true]
        refine wpAny_pure ⟨plainId_quiet F.plain_all_loop _, ih (j + 1) _ gs' (by omega) hl ⟨H2, I3⟩ (setGen_at hz) fun s' eh eo eb => ?_⟩
        have e : L - j = L - (j + 1) + 1 := by omega
        have := kap s' eh eo eb hb2
        rw [e] at this
        exact this
      | false =>
        rw [if_neg Bool.false_ne_true] at hb2
        simp only [Bool.false_eq_true, if_false]
        refine wpAny_bind (wpAny_rule (wpAny_pure ?_))
        exact hfalse H2 _ I3 hb2
    · obtain ⟨h0, _⟩ := hp
      have h0' : L - i + 1 = 1 := h0
      omega
end
end Gx
namespace Gx
open PySem PySem.Spec PyProof.Rows L2 GxR
/-- all(elt for x in iter): Pv i, what holds when i items have passed -/
def rAllG (te : TE) (caps : L2.St) (Q : VK) : It → Hp → Prop := fun J H1 => ∃ (L : Nat) (Pv : Nat → Hp → Prop), Pv 0 H1 ∧ (∀ H, Pv L H → J.stop L H ∧ Q (.bl true) H) ∧
    ∀ i H, i < L → Pv i H → J.go i H ∧ ∀ y H', J.yld i H y H' → te (some y :: caps) H' fun z H2 => ∃ b, z = .bl b ∧ if b = true then Pv (i + 1) H2 else Q (.bl false) H2
def tAllG (P : Addr) (wi : TI) (te : TE) (ns : List (Str × Nat)) : TE := fun σ H Q => wi σ H fun J H1 => H1 P = some (TabO P) ∧ rAllG te (capsOf σ ns) Q J H1
section
variable {X : Cx}
theorem pe_allG {c P : Addr} {elt iter : Expr} {x : Str} {px p pos gpos : Pos} {scope : Scope} {ns : List (Str × Nat)} {wi : TI} {te : TE} {k' : Nat}
    (hr : Room (k' + 3) X.A) (hg : Gl X "all") (hm : X.mg "all" = none) (TB : TabB X.base X.mg c P) (hcode : X.env.code = .ref c) (S : GOk X.N X.env.scope scope x ns) (hnd : (x :: ns.map (·.1)).Nodup) (hi : PI X (.Name x px) iter wi)
    (he : ∀ (s : Shared) (H : Hp) (C : Addr) (code : Value) (fp : List Addr) (A : Around), Room k' A → PE (gcx X s H (x :: ns.map (·.1)) (genEnv scope (cloFrom X.env.cells scope.names []) C code builtinsNs X.env) fp A) elt te)
    (hs : ∀ v, genFold iter X.env v = pure v := by intro _; rfl) (hb : bootBuiltins "all" = some (.builtin "all") := by decide +kernel)
    (hst : starEach [.GeneratorExp elt [⟨.Name x px, iter, [], 0⟩] scope gpos] X.env = (false, eval (.GeneratorExp elt [⟨.Name x px, iter, [], 0⟩] scope gpos) X.env) :: starEach [] X.env := by rfl) :
    PE X (.Call (.Name "all" p) [.GeneratorExp elt [⟨.Name x px, iter, [], 0⟩] scope gpos] [] pos) (tAllG P wi te ns) := by
  refine ⟨fun pins s σ H Q I h => ?_⟩
  refine wpAny_Call_Name_kw (ld_blt I hg hm hb ?_)
  refine PyProof.Rows.callWith_builtin1 ?_ hst (by rfl)
  rw [hst]
  show wpAny _ _ (spliced ((false, eval (.GeneratorExp elt [⟨.Name x px, iter, [], 0⟩] scope gpos) X.env) :: backTo pos (starEach [] X.env))) _ _ s
  refine Calls.spliced_cons (gen_made (R := rAllG te (capsOf σ ns) Q) hr TB hcode S hnd hi he hs I h fun J H1 a s5 hR hG => ?_)
  obtain ⟨g, go, c5, hgen, hgs, hA⟩ := hG
  have hr1 : Room (k' + 1) X.A.in1.in1 := hr.in1.in1
  obtain ⟨G, hG1, hG2, back, I5, goes⟩ := hA X.A.in1.in1 hr1 (by rw [show X.A.in1.in1.frames = X.A.frames from rfl]; exact I.ok.frames)
  obtain ⟨L, Pv, p0, hstop, hstep⟩ := hR
  refine Calls.spliced_nil ?_
  refine call_function_tree F.kind_all F.plain_all F.entry_all (F.args_all1 _) ?_
  unfold Builtin.«all»
  refine wpAny_bind (m := oneArg "all" _) (wpAny_pure ?_)
  refine wpAny_bind (wpAny_pyIter_gen (hgen _ (I5.pin (a, go) (List.mem_append_right _ (List.mem_singleton.mpr rfl))).1) ?_)
  refine wpAny_pure ⟨plainId_quiet F.plain_all_loop _, ?_⟩
  refine codeAny_allG (G := G) (L := L) (Pv := Pv) (Qf := fun H => Q (.bl false) H) (Ye := fun i z H2 => ∃ b, z = .bl b ∧ if b = true then Pv (i + 1) H2 else Q (.bl false) H2) ⟨hG1, hG2⟩ hr.hd (by have := hr.dp; show X.A.depth < recursionLimit; omega) hgen (fun i y H h => h) (fun H' s' J' q => ?_) (fun H' s' J' q => ?_) L 0 s5 (.fresh c5) rfl (Nat.zero_le _) ⟨H1, I5⟩ hgs
    (goes L Pv _ (fun i H' hi hp => hstep i H' hi hp) (fun H' hp => (hstop H' hp).1) p0)
  · exact ⟨.bl false, H', back H' s' J', rfl, q⟩
  · exact ⟨.bl true, H', back H' s' J', rfl, (hstop H' q).2⟩
end
end Gx
end

section
set_option Elab.async false
set_option linter.all false
set_option maxRecDepth 100000
set_option maxHeartbeats 4000000
/-! Defs that lean on «no repr is under way» (their callers' guards are empty), and the end of a law whose tables are open things. -/
namespace Gx
open PySem PySem.Spec PyProof.Rows L2 GxR
structure FnG (P : Program) (w : World) (K : PySem.W.Frag) (mg : Str → Option Value) (base : Heap) (k : Nat) (f : Addr) (fd : FuncData) (ps : List Str) (sp : Sp) : Prop where
  len : ∀ vs H Q E, sp vs H Q E → vs.length = ps.length
  run : ∀ (A : Around) (outer : List Env) (s : Shared) (H : Hp) (args : Args) (us : List Value) (vs : List V) (Q : VK) (E : XK), Room k A → A.guards = some [] → Env0 P w K mg base A outer s H → BindsTo s fd args (ps.zip us) → Vals vs us → sp vs H Q E →
    codeAny (model P w) A (.call (.ref f) args) (CR CX0 outer P w H s Q E) s
section
variable {P : Program} {w : World} {K : PySem.W.Frag} {mg : Str → Option Value} {base : Heap} {k : Nat} {f : Addr}
theorem fnG_mono {j : Nat} {fd : FuncData} {ps : List Str} {sp : Sp} (F : FnG P w K mg base j f fd ps sp) (h : j ≤ k) : FnG P w K mg base k f fd ps sp :=
  ⟨F.len, fun A outer s H args us vs Q E hr => F.run A outer s H args us vs Q E (hr.mono h)⟩
theorem fnG_of {x qual : Str} {st : Stmt} {fd : FuncData} {N ps : List Str} {sp : Sp} (F : Fun K x qual st f fd) (S : FnScope N ps (defScope st)) (len : ∀ vs H Q E, sp vs H Q E → vs.length = ps.length)
    (hbody : ∀ (cdv : Value) (A : Around) (outer : List Env) (s : Shared) (H : Hp) (vs : List V) (Q : VK) (E : XK), Room k (A.deeper (envOfC qual (defScope st) s.heap.objs.size f cdv)) → A.guards = some [] → sp vs H Q E →
      ∃ t, PSs (cxOf CX0 P w K mg base N qual (defScope st) f cdv A outer s H E).nox (defBody st) t ∧ t { nx := fun _ H' => Q .non H', rt := Q } (start N vs) H) : FnG P w K mg base (k + 1) f fd ps sp := by
  obtain ⟨oc, od, kV, doc, pm, an, cdv, ct, osl, rfl, lk, hcd⟩ := F.ex
  refine ⟨len, fun A outer s H args us vs Q E hr hg e0 hb r hsp => ?_⟩
  have KX : K.In s.heap := e0.mod.kin.keeps fun b o e => (e0.bs b o e).1
  refine codeAny_call_function hr.depth (KX _ _ lk) rfl S.co S.gen rfl (PySem.W.codeRec_of KX hcd) (hb _ _ _ _ ?_)
  refine wpAny_newFunctionEnv_cells S.kind (fun y hy => ?_) fun env he s1 x => ?_
  · rcases S.par y.1 (List.of_mem_zip hy).1 with q | q
    · exact .inl q
    · exact .inr ⟨q, PySem.W.cellsFrom_some _ _ _ (.inl q)⟩
  · subst he
    refine ⟨(e0.mod.nolimit.keeps fun b o e => (e0.bs b o e).1).keeps x.toInCall.keep, codeAny_func ?_⟩
    obtain ⟨t, ht, hq⟩ := hbody cdv A outer s H vs Q E (hr.deeper _) hg hsp
    have I : Inv (cxOf CX0 P w K mg base N qual (defScope st) f cdv A outer s H E) [] (start N vs) H s1 := inv_start S hr.hd e0 (len _ _ _ _ hsp) r x
    refine wpAny_mono (ht.nox.run [] s1 (start N vs) H _ I hq) (fun fl s' hs => ?_) fun e s' hs => hs
    cases fl with
    | ret u => exact let ⟨v, σ', H', J, rv, q⟩ := hs; ⟨v, H', J.os, J.bare, J.base, J.hok, rv, q⟩
    | next => exact let ⟨σ', H', J, q⟩ := hs; ⟨V.non, H', J.os, J.bare, J.base, J.hok, rfl, q⟩
    | brk => exact let ⟨_, _, _, q⟩ := hs; q.elim
    | cont => exact let ⟨_, _, _, q⟩ := hs; q.elim
end
/-- a def that may be called by its name: positionally (G: with the guards known) -/
structure Cal (P : Program) (w : World) (K : PySem.W.Frag) (mg : Str → Option Value) (base : Heap) (k : Nat) (x : Str) (ps : List Str) (sp : Sp) : Prop where
  ex : ∃ f fd, FnOk P w K mg base CX0 k f fd ps sp ∧ mg x = some (.ref f) ∧ PySem.W.keepIn K (.ref f) = true ∧ Binds K fd ps []
structure CalG (P : Program) (w : World) (K : PySem.W.Frag) (mg : Str → Option Value) (base : Heap) (k : Nat) (x : Str) (ps : List Str) (sp : Sp) : Prop where
  ex : ∃ f fd, FnG P w K mg base k f fd ps sp ∧ mg x = some (.ref f) ∧ PySem.W.keepIn K (.ref f) = true ∧ Binds K fd ps []
/-- .. with all its arguments by keywords, in the order ks -/
structure CalK (P : Program) (w : World) (K : PySem.W.Frag) (mg : Str → Option Value) (base : Heap) (k : Nat) (x : Str) (ps ks : List Str) (gV : List V → List V → List V) (sp : Sp) : Prop where
  ex : ∃ f fd g, FnOk P w K mg base CX0 k f fd ps sp ∧ mg x = some (.ref f) ∧ PySem.W.keepIn K (.ref f) = true ∧ KBinds K fd ps ks g gV
section
variable {X : Cx} {k : Nat} {x : Str} {ps : List Str} {sp : Sp}
theorem pe_cal {e : Expr} {es : List Expr} {p pos : Pos} {t : TA} (C : Cal X.prog X.w X.K X.mg X.base k x ps sp) (hr : Room k X.A) (ha : PA X (e :: es) t) (hg : Gl X x := by rfl) (hdb : (x == ("__debug__" : Str)) = false := by decide)
    (he : starEach (e :: es) X.env = (false, eval e X.env) :: starEach es X.env := by rfl) (hpl : (backTo pos (starEach es X.env)).any (·.1) = false := by rfl) : PE X (.Call (.Name x p) (e :: es) [] pos) (tCall sp [] E0 t) := by
  obtain ⟨f, fd, F, hm, hk, hb⟩ := C.ex
  exact pe_call F hr hg hm hk hb .nil pass0 ha hdb he hpl
theorem pe_calG {e : Expr} {es : List Expr} {p pos : Pos} {t : TA} (C : CalG X.prog X.w X.K X.mg X.base k x ps sp) (hr : Room k X.A) (hgd : X.A.guards = some []) (ha : PA X (e :: es) t) (hg : Gl X x := by rfl) (hdb : (x == ("__debug__" : Str)) = false := by decide)
    (he : starEach (e :: es) X.env = (false, eval e X.env) :: starEach es X.env := by rfl) (hpl : (backTo pos (starEach es X.env)).any (·.1) = false := by rfl) : PE X (.Call (.Name x p) (e :: es) [] pos) (tCall sp [] E0 t) := by
  obtain ⟨f, fd, F, hm, hk, hb⟩ := C.ex
  refine ⟨fun pins s σ H Q I h => ?_⟩
  refine wpAny_Call_Name_kw (ld_glob I hg hm ?_ hdb)
  refine PySem.W.callWith_K (h₀ := X.base) I.ok.mod.kin hk (thn (ha.run pos pins s σ H _ I h) fun us s1 ⟨vs, H1, I1, r, q⟩ => ⟨I1.kIn, ?_⟩) he hpl
  have q' : sp (vs ++ []) H1 Q E0 := q
  rw [List.append_nil] at q'
  have hl : (us ++ []).length = ps.length := by rw [List.append_nil, ← r.length]; exact F.len _ _ _ _ q'
  have hbt := hb s1 us I1.kIn hl
  rw [List.append_nil] at hbt
  refine wpAny_call (codeAny_mono (F.run X.A X.stack s1 H1 ⟨us, []⟩ us vs Q E0 hr hgd I1.env0 hbt r q') fun r s' hq => ?_)
  cases r with
  | error e => exact False.elim hq
  | ok fl =>
    cases fl with
    | ret u => exact I1.after hq
    | next => exact False.elim hq
    | brk => exact False.elim hq
    | cont => exact False.elim hq
theorem pe_calK {kws : List Keyword} {p pos : Pos} {tk : TA} {ks : List Str} {gV : List V → List V → List V} (C : CalK X.prog X.w X.K X.mg X.base k x ps ks gV sp) (hr : Room k X.A) (hkw : PK X kws tk) (hg : Gl X x := by rfl) (hall : (backToKw pos (keywordEach kws X.env)).all (·.1.isSome) = true := by rfl) (hks : (backToKw pos (keywordEach kws X.env)).filterMap (·.1) = ks := by rfl)
    (hdb : (x == ("__debug__" : Str)) = false := by decide) (hpl : ((backTo pos (starEach [] X.env)).any (·.1) || (backToKw pos (keywordEach kws X.env)).any (·.1.isNone)) = false := by rfl) :
    PE X (.Call (.Name x p) [] kws pos) (tCallK sp gV E0 tNil tk) := by
  obtain ⟨f, fd, g, F, hm, hk, hb⟩ := C.ex
  refine ⟨fun pins s σ H Q I h => ?_⟩
  refine wpAny_Call_Name_kw (ld_glob I hg hm ?_ hdb)
  refine PySem.W.callWith_KW0 (h₀ := X.base) I.ok.mod.kin hk hall (thn (hkw.run pos pins s σ H _ I h) fun ws s2 ⟨zs, H2, I2, rz, q2⟩ => ⟨I2.kIn, ?_⟩) hpl
  rw [hks]
  exact run_fnk F hr hb pass0 I2 .nil rz q2
end
/-- the keywords' values in the parameters' order -/
def gVof (idx : List Nat) (n : Nat) : List V → List V → List V
  | [], zs => if zs.length = n then idx.map (fun i => zs.getD i .non) else []
  | _ :: _, _ => []
def gOf (idx : List Nat) (n : Nat) : List Value → List Value → List Value
  | [], zs => if zs.length = n then idx.map (fun i => zs.getD i .none) else []
  | _ :: _, _ => []
theorem vals_getD {zs : List V} {ws : List Value} (r : Vals zs ws) (i : Nat) : RelV (zs.getD i .non) (ws.getD i .none) := by
  rw [List.getD_eq_getElem?_getD, List.getD_eq_getElem?_getD]
  cases e : zs[i]? with
  | none => rw [r.none_of e]; exact rfl
  | some x => obtain ⟨u, h1, h2⟩ := r.get e; rw [h1]; exact h2
theorem vals_idx {zs : List V} {ws : List Value} (r : Vals zs ws) : ∀ idx : List Nat, Vals (idx.map fun i => zs.getD i .non) (idx.map fun i => ws.getD i .none)
  | [] => .nil
  | i :: l => .cons (vals_getD r i) (vals_idx r l)
theorem kbinds_mk {K : PySem.W.Frag} {x qual : Str} {st : Stmt} {f : Addr} {fd : FuncData} {ps ks : List Str} (F : Fun K x qual st f fd) (idx : List Nat) (n : Nat) (hn : ps.length ≠ 0)
    (h : ∀ (kV doc pm : Value) (an : Option Addr) (cdv ct : Value) (ws : List Value), ws.length = n → bindArgs (PySem.W.fnOf x qual (defArgs st) (defBody st) (defScope st) .none kV doc pm an cdv ct) ⟨[], ks.zip ws⟩ = pure (ps.zip (idx.map fun i => ws.getD i .none))) :
    KBinds K fd ps ks (gOf idx n) (gVof idx n) := by
  obtain ⟨oc, od, kV, doc, pm, an, cdv, ct, osl, rfl, lk, hcd⟩ := F.ex
  refine ⟨fun s us ws _ hl => ?_, fun {vs us zs ws} r rz => ?_⟩
  · cases us with
    | cons u us => exact absurd hl.symm hn
    | nil =>
      by_cases e : ws.length = n
      · have e2 : gOf idx n [] ws = idx.map fun i => ws.getD i .none := if_pos e
        rw [e2]
        exact .of_eq (h kV doc pm an cdv ct ws e)
      · have e2 : gOf idx n [] ws = [] := if_neg e
        rw [e2] at hl
        exact absurd hl.symm hn
  · cases r with
    | cons _ _ => exact .nil
    | nil =>
      by_cases e : ws.length = n
      · have e2 : gOf idx n [] ws = idx.map fun i => ws.getD i .none := if_pos e
        have e3 : gVof idx n [] zs = idx.map fun i => zs.getD i .non := if_pos (rz.length.trans e)
        rw [e2, e3]
        exact vals_idx rz idx
      · have e2 : gOf idx n [] ws = [] := if_neg e
        have e3 : gVof idx n [] zs = [] := if_neg (fun z => e (rz.length.symm.trans z))
        rw [e2, e3]
        exact .nil
/-! ### the end of a law -/
section
variable {P : Program} {w : World} {K : PySem.W.Frag} {mg mb : Str → Option Value} {k : Nat} {fa a : Addr} {cs : List (Addr × Addr)} {fd : FuncData} {x : Str} {sp : Sp} {s1 : Shared} {vs : List Value} {ns : List Int}
/-- what is tracked at the law's entry: the script (unless it is written), the tables -/
def H0 (cs : List (Addr × Addr)) (a : Addr) (wr : Bool) (o : Obj) (xs : List V) : Hp := fun b => if b = a ∧ wr = false then some (.frz o (.lst xs)) else if b ∈ cs.map (·.2) then some (TabO b) else none
theorem law_end (KX : K.In s1.heap) (hns : s1.heap.Ns mainGlobals mg) (hb : s1.heap.Ns builtinsNs mb) (hbb : ∀ x : Str, x ≠ "__name__" → mb x = bootBuiltins x) (hlim : s1.heap.NoLimit) (hg : s1.gens = #[])
    (hT : ∀ p ∈ cs, s1.heap.get? p.2 = some { cls := .none, data := .fields #[] }) (nT : ∀ p ∈ cs, K.lookup p.2 = none) (C : ∀ p ∈ cs, PySem.W.CodeHd s1.heap p.1 p.2)
    (hbm : ∃ (bm : Addr) (ob : Obj), mg "__builtins__" = some (.ref bm) ∧ bm ≠ builtinsNs ∧ s1.heap.get? bm = some ob ∧ ob.cls = .type "module" ∧ ob.dict = some builtinsNs ∧ ob.data = .plain)
    (ha : s1.heap.get? a = some { cls := .type "list", data := .seq vs.toArray }) (hi : IntsAre vs ns) (hl : ns.length ≤ sizeLine) (hr : Room k callerA)
    (F : ∀ base : Heap, K.In base → base.Ns mainGlobals mg → (∀ p ∈ cs, TabB base mg p.1 p.2) → FnG P w K mg base k fa fd [x] sp) (hbind : ∀ (s : Shared) (u : Value), BindsTo s fd ⟨[u], []⟩ [(x, u)])
    (hsp : ∀ H : Hp, (∀ p ∈ cs, H p.2 = some (TabO p.2)) → SqL K H a (ns.map V.int) → sp [.ref a] H (fun v H' => v = .bl true ∧ ∀ p ∈ cs, H' p.2 = some (TabO p.2)) E0) :
    codeAny (model P w) callerA (.call (.ref fa) ⟨[.ref a], []⟩) (fun r s' => r = .ok (.ret (.bool true)) ∧ OldK s1.heap s'.heap ∧ s'.os = s1.os ∧ AllBare s'.gens) s1 := by
  have rv := vals_ints hi
  obtain ⟨wr, hwr⟩ : ∃ wr : Bool, wr = (K.lookup a).isSome := ⟨_, rfl⟩
  obtain ⟨H, hH⟩ : ∃ H, H = H0 cs a wr { cls := .type "list", data := .seq vs.toArray } (ns.map V.int) := ⟨_, rfl⟩
  have tabNe : ∀ p ∈ cs, p.2 ≠ a := fun p hp z => by
    have e := hT p hp
    rw [z, ha] at e
    cases e
  have HT : ∀ p ∈ cs, H p.2 = some (TabO p.2) := fun p hp => by
    rw [hH]
    show (if p.2 = a ∧ wr = false then _ else if p.2 ∈ cs.map (·.2) then _ else _) = _
    rw [if_neg fun z => tabNe p hp z.1, if_pos (List.mem_map.mpr ⟨p, hp, rfl⟩)]
  -- an address that is tracked: the script, or a table
  have Hcase : ∀ b, H b = none ∨ (b = a ∧ wr = false ∧ H b = some (.frz { cls := .type "list", data := .seq vs.toArray } (.lst (ns.map V.int)))) ∨ (∃ p ∈ cs, p.2 = b ∧ H b = some (TabO b)) := fun b => by
    by_cases h1 : b = a ∧ wr = false
    · refine .inr (.inl ⟨h1.1, h1.2, ?_⟩)
      rw [hH]
      exact if_pos h1
    · by_cases h2 : b ∈ cs.map (·.2)
      · obtain ⟨p, hp, e⟩ := List.mem_map.mp h2
        refine .inr (.inr ⟨p, hp, e, ?_⟩)
        rw [← e]
        exact HT p hp
      · refine .inl ?_
        rw [hH]
        exact (if_neg h1).trans (if_neg h2)
  have free : ∀ {b : Addr} {o : Obj}, s1.heap.get? b = some o → (∀ z n, o.data ≠ .seq z n) → o.data ≠ .fields #[] → H b = none := fun {b o} e h1 h2 => by
    rcases Hcase b with z | ⟨z, _⟩ | ⟨p, hp, z, _⟩
    · exact z
    · rw [z, ha] at e
      cases e
      exact (h1 _ _ rfl).elim
    · have e2 := hT p hp
      rw [z, e] at e2
      cases e2
      exact (h2 rfl).elim
  have toBase : ∀ {b : Addr} {o : Obj}, s1.heap.get? b = some o → H b = none → (hidT s1.heap H).get? b = some o := fun e n => hidT_get e n
  have nsB : ∀ {b : Addr} {m : Str → Option Value}, s1.heap.Ns b m → (hidT s1.heap H).Ns b m := fun {b m} ⟨o, es, ep, e, d, r⟩ =>
    ⟨o, es, ep, toBase e (free e (fun z n q => by rw [d] at q; cases q) fun q => by rw [d] at q; cases q), d, r⟩
  have kinB : K.In (hidT s1.heap H) := fun b o e => toBase (KX b o e) (by
    rcases Hcase b with z | ⟨z, hw, _⟩ | ⟨p, hp, z, _⟩
    · exact z
    · rw [hwr, ← z, e] at hw
      cases hw
    · rw [← z, nT p hp] at e
      cases e)
  have modB : L2.Mod K mg (hidT s1.heap H) := ⟨kinB, nsB hns, ⟨mb, nsB hb, hbb⟩, let ⟨mc, h1, h2⟩ := hlim; ⟨mc, nsB h1, h2⟩⟩
  have TB : ∀ p ∈ cs, TabB (hidT s1.heap H) mg p.1 p.2 := fun p hp => by
    have e0 := hT p hp
    refine ⟨?_, ?_, fun z => ?_⟩
    · obtain ⟨o, us, file, tf, flags, tg, inF, text, tt, e1, r1, r2, r3, rest⟩ := C p hp
      refine ⟨o, us, file, tf, flags, tg, inF, text, tt, toBase e1 (free e1 (fun z n q => ?_) fun q => ?_), r1, r2, r3, rest⟩
      · rw [r2] at q; cases q
      · rw [r2] at q; cases q; simp at r3
    · obtain ⟨bm, ob, b1, b2, b3, b4, b5, b6⟩ := hbm
      refine ⟨bm, ob, b1, b2, fun q => ?_, fun q => ?_, toBase b3 (free b3 (fun z n q => by rw [b6] at q; cases q) fun q => by rw [b6] at q; cases q), b4, b5, b6⟩
      · obtain ⟨o, es, ep, e, hd, _⟩ := hns
        rw [q, e] at b3
        cases b3
        rw [hd] at b6
        cases b6
      · rw [q, e0] at b3
        cases b3
        cases b6
    · obtain ⟨o, es, ep, e, hd, _⟩ := hns
      rw [z, e0] at e
      cases e
      cases hd
  have okH : HOk P w H s1.heap := fun b u e => by
    rcases Hcase b with z | ⟨z, _, z2⟩ | ⟨p, hp, z, z2⟩
    · rw [z] at e; cases e
    · rw [z2] at e; cases e
      rw [z]
      exact ⟨ha, by rw [List.length_map]; exact hl, vs, _, rv, ha⟩
    · rw [z2] at e; cases e
      exact tab_ok ⟨#[], by rw [← z]; exact hT p hp, trivial⟩
  have e0 : Env0 P w K mg (hidT s1.heap H) callerA [] s1 H := ⟨rfl, modB, fun b o e => of_hidT e, Nat.le_of_eq (hidT_size _ _), trivial, fun b hb => absurd (show b ∈ ([] : List Addr) from hb) (by simp), okH, .of_eq hg⟩
  have hS : SqL K H a (ns.map V.int) := by
    cases hk : K.lookup a with
    | some o =>
      have e := KX a o hk
      rw [ha] at e
      cases e
      exact .inr ⟨_, vs.toArray, _, hk, rfl, rfl, rfl, by rw [List.size_toArray, hi.length]; exact hl, by simpa using rv⟩
    | none =>
      refine .inl (.inr ⟨{ cls := .type "list", data := .seq vs.toArray }, ?_⟩)
      rw [hH]
      exact if_pos ⟨rfl, by rw [hwr, hk]; rfl⟩
  refine codeAny_mono ((F _ kinB (nsB hns) TB).run callerA [] s1 H ⟨[.ref a], []⟩ [.ref a] [.ref a] _ _ hr rfl e0 (hbind s1 (.ref a)) (.cons rfl .nil) (hsp H HT hS)) fun r s' h => ?_
  cases r with
  | error e => exact False.elim h
  | ok fl =>
    cases fl with
    | next => exact False.elim h
    | brk => exact False.elim h
    | cont => exact False.elim h
    | ret u =>
      obtain ⟨v, H', os, bare, un, okH', r', q1, q2⟩ := h
      subst q1
      obtain rfl : u = Value.bool true := r'
      have grown : ∀ p ∈ cs, ∃ more : Array Value, s'.heap.get? p.2 = some { cls := .none, data := .fields more } := fun p hp => let ⟨⟨ps, e, _⟩, _⟩ := okH' p.2 _ (q2 p hp); ⟨ps, e⟩
      have other : ∀ b o, (∀ p ∈ cs, p.2 ≠ b) → s1.heap.get? b = some o → s'.heap.get? b = some o := fun b o nb e => by
        rcases Hcase b with z | ⟨z, _, z2⟩ | ⟨p, hp, z, _⟩
        · exact un.keep b o e z (by intro z; cases z) (by simp)
        · have e1 := (okH b _ z2).1
          rw [e] at e1
          cases e1
          exact (okH' b _ (un.frzs b _ _ z2)).1
        · exact (nb p hp z).elim
      refine ⟨rfl, ⟨fun b o e => ?_, fun b o e => ?_⟩, os, bare⟩
      · by_cases hb : ∃ p ∈ cs, p.2 = b
        · obtain ⟨p, hp, ep⟩ := hb
          obtain ⟨more, hm⟩ := grown p hp
          subst ep
          rw [hT p hp] at e
          cases e
          exact .inr (.inl ⟨((C p hp).tab (hT p hp)).isCodeTable, rfl, #[], more, rfl, by rw [Array.empty_append]; exact hm⟩)
        · exact .inl (other b o (fun p hp z => hb ⟨p, hp, z⟩) e)
      · by_cases hb : ∃ p ∈ cs, p.2 = b
        · obtain ⟨p, hp, ep⟩ := hb
          obtain ⟨more, hm⟩ := grown p hp
          rw [← ep]
          exact ⟨_, hm⟩
        · exact ⟨o, other b o (fun p hp z => hb ⟨p, hp, z⟩) e⟩
end
/-- what is to be shown of the law at the head's heap; tn: the defs whose tables may grow, their code objects and tables -/
def LawE (l : PySem.W.OpenLaw) (q : Program) (w : World) (K : PySem.W.Frag) (k n : Nat) (x : Str) (mg : Str → Option Value) (fa : Addr) : Prop :=
  ∃ (fd : FuncData) (tn : List (Str × Addr × Addr)) (sp : Sp), (∀ p ∈ tn, PySem.W.tabIn K p.1 = some p.2 ∧ ((recsOf q).any fun e => e.name == p.1) = true ∧ K.lookup p.2.2 = none) ∧ (∀ (s : Shared) (u : Value), BindsTo s fd ⟨[u], []⟩ [(x, u)]) ∧
    (∀ (H : Hp) (a : Addr) (ns : List Int), ns.length ≤ n → (∀ z ∈ ns, Builtin.Int.intBits z ≤ 1048576) → (∀ p ∈ tn, H p.2.2 = some (TabO p.2.2)) → SqL K H a (ns.map V.int) → sp [.ref a] H (fun v H' => v = .bl true ∧ ∀ p ∈ tn, H' p.2.2 = some (TabO p.2.2)) E0) ∧
    ∀ base : Heap, K.In base → base.Ns mainGlobals mg → (∀ p ∈ tn, TabB base mg p.2.1 p.2.2) → FnG l.prog w K mg base k fa fd [x] sp
theorem walk_E {l : PySem.W.OpenLaw} {n k : Nat} {q : Program} {loose : List Str} {XP : (Str → Option Value) → Heap → Prop} {YP : World → Heap → Prop} {d : DefRec} {K : Params → PySem.W.Frag} {x : Str}
    (hn : l.most = some n) (hn2 : n ≤ sizeLine) (hdf : d.params.defaults = []) (hr : Room k callerA) (hY : ∀ (w : World) (h : Heap), YP w h → (K w.params).In h)
    (F : ∀ (w : World) (mg : Str → Option Value) (fa : Addr) (h : Heap), (K w.params).In h → h.Ns mainGlobals mg → mg d.name = some (.ref fa) → LawE l q w (K w.params) k n x mg fa) :
    PySem.W.WalkO q loose XP YP l.row.toRowW d [] (fun f vs => PySem.call f vs) := by
  refine Att.attach_callB hn hdf fun w s₀ s1 mg mb fa o pm cd doc a vs ns G Y ho hd hcd hmg hobj hints hlen hbits hg => ?_
  have KX := hY w _ Y
  obtain ⟨fd, tn, sp, hT, hb, hsp, hF⟩ := F w mg fa _ KX G.T.g hmg
  have key : ∀ p ∈ tn, PySem.W.CodeHd s1.heap p.2.1 p.2.2 ∧ s1.heap.get? p.2.2 = some { cls := .none, data := .fields #[] } := fun p hp => by
    obtain ⟨h1, h2, _⟩ := hT p hp
    cases e : (recsOf q).find? (fun e => e.name == p.1) with
    | none =>
      rw [List.find?_eq_none] at e
      obtain ⟨z, z1, z2⟩ := List.any_eq_true.mp h2
      exact absurd z2 (e z z1)
    | some d0 => exact PySem.W.tab_of G.T KX e h1
  have tr : ∀ p ∈ tn.map (·.2), ∃ y ∈ tn, y.2 = p := fun p hp => let ⟨y, h1, h2⟩ := List.mem_map.mp hp; ⟨y, h1, h2⟩
  refine law_end (cs := tn.map (·.2)) KX G.T.g G.T.b G.T.builtins G.T.nolimit hg (fun p hp => ?_) (fun p hp => ?_) (fun p hp => ?_) G.T.bmain hobj hints (Nat.le_trans hlen hn2) hr (fun base h1 h2 h3 => hF base h1 h2 fun p hp => h3 p.2 (List.mem_map.mpr ⟨p, hp, rfl⟩)) hb fun H hH hS => ?_
  · obtain ⟨y, hy, e⟩ := tr p hp
    rw [← e]
    exact (key y hy).2
  · obtain ⟨y, hy, e⟩ := tr p hp
    rw [← e]
    exact (hT y hy).2.2
  · obtain ⟨y, hy, e⟩ := tr p hp
    rw [← e]
    exact (key y hy).1
  · have := hsp H a ns hlen hbits (fun p hp => hH p.2 (List.mem_map.mpr ⟨p, hp, rfl⟩)) hS
    have e : (fun (v : V) (H' : Hp) => v = V.bl true ∧ ∀ p ∈ tn.map (·.2), H' p.2 = some (TabO p.2)) = fun v H' => v = V.bl true ∧ ∀ p ∈ tn, H' p.2.2 = some (TabO p.2.2) := by
      funext v H'
      exact propext ⟨fun ⟨a, b⟩ => ⟨a, fun p hp => b p.2 (List.mem_map.mpr ⟨p, hp, rfl⟩)⟩, fun ⟨a, b⟩ => ⟨a, fun p hp => by
        obtain ⟨y, hy, e⟩ := tr p hp
        rw [← e]
        exact b y hy⟩⟩
    rw [e]
    exact this
end Gx
end

section
set_option Elab.async false
set_option linter.all false
set_option maxRecDepth 100000
set_option maxHeartbeats 4000000
/-! More rules: ** of great ints, repr of nested data of ints, xs[i] op= e, chains of three, != of types. -/
namespace Gx
open PySem PySem.Spec PyProof.Rows L2 GxR
/-! ### repr -/
mutual
def nod : PyData → Nat
  | .list xs => nodAll xs + 3
  | .tuple xs => nodAll xs + 3
  | _ => 1
def nodAll : List PyData → Nat
  | [] => 0
  | x :: xs => nod x + 2 + nodAll xs
end
mutual
def intsP (B : Nat) : PyData → Prop
  | .int i => i.natAbs < 2 ^ B
  | .list xs => intsAll B xs
  | .tuple xs => intsAll B xs
  | _ => False
def intsAll (B : Nat) : List PyData → Prop
  | [] => True
  | x :: xs => intsP B x ∧ intsAll B xs
end
mutual
theorem ints_shown {B : Nat} (hB : 0 < B) : ∀ d : PyData, intsP B d → d.shown.length ≤ (B + 1) * nod d
  | .int i, h => by
    have h' : i.natAbs < 2 ^ B := h
    have e := int_text_length_le (a := i) hB (PySem.Flt.log2_lt_of hB h')
    show (Str.ofString (toString i)).length ≤ (B + 1) * 1
    rw [PySem.ofString_length, Nat.mul_one]
    exact e
  | .list xs, h => by
    have h1 := ints_shownAll hB xs h
    have h2 := listText_len_le (PyData.shownAll xs)
    have h3 := PyData.shownAll_length xs
    have e : (B + 1) * (nodAll xs + 3) = (B + 1) * nodAll xs + (B + 1) * 3 := Nat.mul_add ..
    show (listText (PyData.shownAll xs)).length ≤ (B + 1) * (nodAll xs + 3)
    omega
  | .tuple xs, h => by
    have h1 := ints_shownAll hB xs h
    have h2 := tupleText_len_le (PyData.shownAll xs)
    have h3 := PyData.shownAll_length xs
    have e : (B + 1) * (nodAll xs + 3) = (B + 1) * nodAll xs + (B + 1) * 3 := Nat.mul_add ..
    show (tupleText (PyData.shownAll xs)).length ≤ (B + 1) * (nodAll xs + 3)
    omega
  | .none, h => h.elim
  | .bool _, h => h.elim
  | .str _, h => h.elim
  | .dict _, h => h.elim
theorem ints_shownAll {B : Nat} (hB : 0 < B) : ∀ xs : List PyData, intsAll B xs → ((PyData.shownAll xs).map (·.length)).sum + 2 * xs.length ≤ (B + 1) * nodAll xs
  | [], _ => by simp [PyData.shownAll]
  | x :: xs, h => by
    have h1 := ints_shown hB x h.1
    have h2 := ints_shownAll hB xs h.2
    have e : (B + 1) * nodAll (x :: xs) = (B + 1) * nod x + (B + 1) * 2 + (B + 1) * nodAll xs := by
      show (B + 1) * (nod x + 2 + nodAll xs) = _
      rw [Nat.mul_add, Nat.mul_add]
    rw [e]
    simp only [PyData.shownAll, List.map_cons, List.sum_cons, List.length_cons]
    omega
end
mutual
theorem ints_show {B : Nat} (h2 : B ≤ 1900) (hB : 0 < B) : ∀ d : PyData, intsP B d → d.showable = true ∧ d.hasDict = false
  | .int i, h => by
    have h' : i.natAbs < 2 ^ B := h
    exact ⟨decide_eq_true (Nat.lt_of_lt_of_le (PySem.Flt.log2_lt_of hB h') (by omega)), rfl⟩
  | .list xs, h => ints_showAll h2 hB xs h
  | .tuple xs, h => ints_showAll h2 hB xs h
  | .none, h => h.elim
  | .bool _, h => h.elim
  | .str _, h => h.elim
  | .dict _, h => h.elim
theorem ints_showAll {B : Nat} (h2 : B ≤ 1900) (hB : 0 < B) : ∀ xs : List PyData, intsAll B xs → PyData.showableAll xs = true ∧ PyData.hasDictAll xs = false
  | [], _ => ⟨rfl, rfl⟩
  | x :: xs, h => by
    obtain ⟨a1, a2⟩ := ints_show h2 hB x h.1
    obtain ⟨b1, b2⟩ := ints_showAll h2 hB xs h.2
    exact ⟨by simp only [PyData.showableAll, a1, b1, Bool.and_self], by simp only [PyData.hasDictAll, a2, b2, Bool.or_self]⟩
end
section
variable {X : Cx}
/-- repr of a list or a tuple of ints, at any depth -/
def rRepr (K : PySem.W.Frag) : List V → Hp → VK → Prop := fun vs H Q => ∃ (a : Addr) (d : PyData) (B : Nat), vs = [.ref a] ∧ Dp K H (.ref a) d ∧ intsP B d ∧ 0 < B ∧ B ≤ 1900 ∧ (B + 1) * nod d ≤ 16777216 ∧ d.depth ≤ 30 ∧ Q (.str d.shown) H
theorem cr_repr {k : Nat} (hr : Room k X.A) (hg : X.A.guards = some []) : CallR X (.builtin "repr") (rRepr X.K) := by
  intro pins s σ H vs us Q I r h
  obtain ⟨a, d, B, rfl, hd, hi, h0, hB, hn, hdp, q⟩ := h
  cases r with
  | cons r1 rr =>
    cases rr
    cases (show _ = Value.ref a from r1)
    obtain ⟨as, R⟩ := Dp.reads I d (.ref a) (.ref a) hd rfl
    obtain ⟨s1, s2⟩ := ints_show hB h0 d hi
    refine repr_of_reads' R s1 (PyData.noDict_hsm s2) hg (by have := hr.un; omega) (fun b o e => e) (fun h' u tk hk => ⟨.str d.shown, H, I.kept hk, ⟨u, rfl⟩, q⟩) ?_
    have := ints_shown h0 d hi
    show d.shown.length ≤ 16777216
    omega
/-! ### ** -/
def CPowW (i j : Int) : Prop := 0 ≤ j ∧ ∃ b : Nat, i.natAbs < 2 ^ b ∧ 0 < b ∧ (b : Int) * j ≤ 134217728
theorem op_powW : OpR X (binaryOp .Pow) (rI CPowW fun i j => .int (i ^ j.toNat)) := opI fun i j _ _ _ _ _ hc q => by
  obtain ⟨h0, b, hb, b0, hm⟩ := hc
  refine pow_int h0 ?_ q
  have h1 : Builtin.Int.intBits i ≤ b := by
    unfold Builtin.Int.intBits
    split
    · omega
    · have := PySem.Flt.log2_lt_of b0 hb
      omega
  have h2 : (Builtin.Int.intBits i : Int) * j ≤ (b : Int) * j := Int.mul_le_mul_of_nonneg_right (by omega) h0
  exact Int.le_trans h2 hm
/-! ### xs[i] op= e -/
def rGetL (K : PySem.W.Frag) : V → V → Hp → VK → Prop := fun x y H Q => ∃ p xs i v, x = .ref p ∧ y = .int i ∧ SqL K H p xs ∧ 0 ≤ i ∧ xs[i.toNat]? = some v ∧ Q v H
theorem get_list : PGet X (rGetL X.K) := by
  intro pins s σ H x y v u Q I rx ry h
  obtain ⟨p, xs, i, z, rfl, rfl, hq, h0, he, q⟩ := h
  cases rx
  obtain ⟨t, rfl⟩ := ry
  obtain ⟨its, r, pl, hz⟩ := I.list hq
  obtain ⟨w, ew, rw'⟩ := r.get he
  have hl := r.length
  have hn := line63
  have hlt := (List.getElem?_eq_some_iff.mp he).1
  exact wpAny_getItem_list pl.isList h0 (by omega) (by simpa using ew) ⟨z, H, I, rw', q⟩
/-! ### a < b < c <= d -/
def tChain3 (r r' r'' : R2) (ta tb tc td : TE) : TE := fun σ H Q => ta σ H fun x H1 => tb σ H1 fun y H2 => r x y H2 fun z H3 => ∃ k, z = .bl k ∧
  (if k = true then tc σ H3 fun x2 H4 => r' y x2 H4 fun z2 H5 => ∃ k2, z2 = .bl k2 ∧ (if k2 = true then td σ H5 fun x3 H6 => r'' x2 x3 H6 Q else Q (.bl false) H5) else Q (.bl false) H3)
theorem pe_chain3 {op op' op'' : CmpOp} {r r' r'' : R2} {a b c d : Expr} {ta tb tc td : TE} {pos : Pos} (ho : OpR X (compareOp op) r) (ho' : OpR X (compareOp op') r') (ho'' : OpR X (compareOp op'') r'') (ha : PE X a ta) (hb : PE X b tb) (hc : PE X c tc) (hd : PE X d td)
    (hm : lastMarks [op, op', op''] [b, c, d] = false := by with_unfolding_all rfl) : PE X (.Compare a [op, op', op''] [b, c, d] pos) (tChain3 r r' r'' ta tb tc td) := by
  refine ⟨fun pins s σ H Q I h => ?_⟩
  refine Compare_chain (thn (ha.run pins s σ H _ I h) fun v s1 ⟨x, H1, I1, r1, q1⟩ => chain_link (thn (hb.run pins s1 σ H1 _ I1 q1) fun u s2 ⟨y, H2, I2, r2, q2⟩ =>
    thn (ho pins s2 σ H2 x y v u _ I2 r1 r2 q2) fun d s3 ⟨z, H3, I3, r3, k, e, q3⟩ => ?_)) hm
  subst e
  cases r3
  refine wpAny_truthy_bool ?_
  cases k with
  | false => exact ite_ff ⟨.bl false, H3, I3, rfl, q3⟩
  | true =>
    refine ite_tt (chain_link (thn (hc.run pins s3 σ H3 _ I3 q3) fun w' s4 ⟨x2, H4, I4, r4, q4⟩ => thn (ho' pins s4 σ H4 y x2 u w' _ I4 r2 r4 q4) fun d2 s5 ⟨z2, H5, I5, r5, k2, e2, q5⟩ => ?_))
    subst e2
    cases r5
    refine wpAny_truthy_bool ?_
    cases k2 with
    | false => exact ite_ff ⟨.bl false, H5, I5, rfl, q5⟩
    | true => exact ite_tt (chain_last (thn (hd.run pins s5 σ H5 _ I5 q5) fun w2 s6 ⟨x3, H6, I6, r6, q6⟩ => ho'' pins s6 σ H6 x2 x3 w' w2 Q I6 r4 r6 q6))
/-! ### != of types -/
theorem slot_type_ne : Slot "type" (cmpInfo .NotEq).2.1 "object.__ne__" :=
  .of (owner := "object") (n := "__ne__") (by rw [typeLookup_type, builtinLookup_eq_fast]; kernel_rfl) (by decide +kernel) (by decide +kernel) (by decide +kernel)
    (by first | exact .inl (by decide +kernel) | exact .inr (by decide +kernel)) (by rw [isSubtype_type]; kernel_rfl)
theorem ne_type_same {prog : Program} {w : World} {A : Around} {E : Value → Shared → Prop} {s : Shared} {Q : Value → Shared → Prop} {T : String} (hX : ∀ s' : Shared, s'.TypeIs (.type T) "type") (h : Q (.bool false) s) :
    wpAny (model prog w) A (compareOp .NotEq (.type T) (.type T)) Q E s := by
  show wpAny _ A (richCompare .NotEq _ _) Q E s
  refine wpAny_richCompare_same (T := "type") (hX s) (hX s) slot_type_ne ?_
  refine wpAny_call_entry slot_type_ne (hX s) F.entry_object_ne ?_ (F.args_object_ne_2 _ _)
  unfold Builtin.«object.__ne__»
  refine wpAny_bind (wpAny_of_eq (a := (Value.type T, [Value.type T])) (by simp [slotArgs]) ?_)
  refine wpAny_bind (wpAny_cRoomFor_or (.inl rfl) ?_)
  refine wpAny_bind (wpAny_callSpecialIfBound?_slot (hX s) TypeEq.slot_type_eq (call_gives TypeEq.slot_type_eq (hX s) F.entry_object_eq (F.args_object_eq_2 _ _) (TypeEq.object_eq_same rfl (by simp)) ?_))
  refine wpAny_bind (wpAny_truthy_bool ?_)
  exact wpAny_pure ⟨.bool false, rfl, (by intro e; cases e), h⟩
end
end Gx
end

section
set_option Elab.async false
set_option linter.all false
set_option maxRecDepth 100000
set_option maxHeartbeats 4000000
/-! Defs of the text by their names. -/
namespace Gx
open PySem PySem.Spec PyProof.Rows L2 GxR
/-- a def whose code object stands at c -/
structure FunC (K : PySem.W.Frag) (x qual : Str) (st : Stmt) (f : Addr) (fd : FuncData) (c : Addr) : Prop where
  ex : ∃ (oc : Value) (od : Option Addr) (kV doc pm : Value) (an : Option Addr) (ct : Value) (osl : Array (Option Value)),
    fd = PySem.W.fnOf x qual (defArgs st) (defBody st) (defScope st) .none kV doc pm an (.ref c) ct ∧ K.lookup f = some ⟨oc, od, .func fd, osl⟩ ∧ PySem.W.codeIn K (.ref c) qual = true
  kp : PySem.W.keepIn K (.ref f) = true
theorem FunC.fn {K : PySem.W.Frag} {x qual : Str} {st : Stmt} {f : Addr} {fd : FuncData} {c : Addr} (F : FunC K x qual st f fd c) : Fun K x qual st f fd :=
  ⟨let ⟨oc, od, kV, doc, pm, an, ct, osl, h⟩ := F.ex; ⟨oc, od, kV, doc, pm, an, .ref c, ct, osl, h⟩, F.kp⟩
theorem FunC.ok {P : Program} {w : World} {K : PySem.W.Frag} {mg : Str → Option Value} {base : Heap} {x qual : Str} {st : Stmt} {f : Addr} {fd : FuncData} {c : Addr} {N ps : List Str} {k : Nat} {sp : Sp} (F : FunC K x qual st f fd c) (S : FnScope N ps (defScope st)) (len : ∀ vs H Q E, sp vs H Q E → vs.length = ps.length)
    (hbody : ∀ (A : Around) (outer : List Env) (s : Shared) (H : Hp) (vs : List V) (Q : VK) (E : XK), Room k (A.deeper (envOfC qual (defScope st) s.heap.objs.size f (.ref c))) → sp vs H Q E →
      ∃ t, PSs (cxOf CX0 P w K mg base N qual (defScope st) f (.ref c) A outer s H E).nox (defBody st) t ∧ t { nx := fun _ H' => Q .non H', rt := Q } (start N vs) H) : FnOk P w K mg base CX0 (k + 1) f fd ps sp := by
  obtain ⟨oc, od, kV, doc, pm, an, ct, osl, rfl, lk, hcd⟩ := F.ex
  refine fn_of lk hcd S len fun A outer s H vs Q E hr hsp => ?_
  obtain ⟨t, h, q⟩ := hbody A outer s H vs Q E hr hsp
  exact ⟨t, h.nox, q⟩
/-- the def x stands at its name -/
structure DF (K : PySem.W.Frag) (mg : Str → Option Value) (x : Str) (st : Stmt) : Prop where
  ex : ∃ f fd, Fun K x x st f fd ∧ mg x = some (.ref f)
structure DC (K : PySem.W.Frag) (mg : Str → Option Value) (x : Str) (st : Stmt) (c : Addr) : Prop where
  ex : ∃ f fd, FunC K x x st f fd c ∧ mg x = some (.ref f)
section
variable {K : PySem.W.Frag} {mg : Str → Option Value} {h : Heap}
theorem df_mk {x : Str} {st : Stmt} {f : Addr} {oc : Value} {od an : Option Addr} {osl : Array (Option Value)} {kV doc pm cdv ct : Value} (X : K.In h) (G : h.Ns mainGlobals mg) (a : PySem.W.nsIn K mainGlobals x = some (some (.ref f)))
    (l : K.lookup f = some ⟨oc, od, .func (PySem.W.fnOf x x (defArgs st) (defBody st) (defScope st) .none kV doc pm an cdv ct), osl⟩) (c : PySem.W.codeIn K cdv x = true) (k : PySem.W.keepIn K (.ref f) = true) : DF K mg x st :=
  ⟨⟨f, _, fun_mk l c k, PySem.W.mg_of X G a⟩⟩
theorem dc_mk {x : Str} {st : Stmt} {f cc : Addr} {oc : Value} {od an : Option Addr} {osl : Array (Option Value)} {kV doc pm ct : Value} (X : K.In h) (G : h.Ns mainGlobals mg) (a : PySem.W.nsIn K mainGlobals x = some (some (.ref f)))
    (l : K.lookup f = some ⟨oc, od, .func (PySem.W.fnOf x x (defArgs st) (defBody st) (defScope st) .none kV doc pm an (.ref cc) ct), osl⟩) (c : PySem.W.codeIn K (.ref cc) x = true) (k : PySem.W.keepIn K (.ref f) = true) : DC K mg x st cc :=
  ⟨⟨f, _, ⟨⟨oc, od, kV, doc, pm, an, ct, osl, rfl, l, c⟩, k⟩, PySem.W.mg_of X G a⟩⟩
end
section
variable {P : Program} {w : World} {K : PySem.W.Frag} {mg : Str → Option Value} {base : Heap} {k : Nat} {x : Str} {ps : List Str} {sp : Sp} {st : Stmt}
theorem cal_mk (D : DF K mg x st) (hb : ∀ f fd, Fun K x x st f fd → Binds K fd ps []) (F : ∀ f fd, Fun K x x st f fd → FnOk P w K mg base CX0 k f fd ps sp) : Cal P w K mg base k x ps sp :=
  let ⟨f, fd, F0, m⟩ := D.ex; ⟨⟨f, fd, F f fd F0, m, F0.kp, hb f fd F0⟩⟩
theorem calG_mk (D : DF K mg x st) (hb : ∀ f fd, Fun K x x st f fd → Binds K fd ps []) (F : ∀ f fd, Fun K x x st f fd → FnG P w K mg base k f fd ps sp) : CalG P w K mg base k x ps sp :=
  let ⟨f, fd, F0, m⟩ := D.ex; ⟨⟨f, fd, F f fd F0, m, F0.kp, hb f fd F0⟩⟩
theorem calC_mk {c : Addr} (D : DC K mg x st c) (hb : ∀ f fd, Fun K x x st f fd → Binds K fd ps []) (F : ∀ f fd, FunC K x x st f fd c → FnOk P w K mg base CX0 k f fd ps sp) : Cal P w K mg base k x ps sp :=
  let ⟨f, fd, F0, m⟩ := D.ex; ⟨⟨f, fd, F f fd F0, m, F0.kp, hb f fd F0.fn⟩⟩
theorem calK_mk {ks : List Str} {g : List Value → List Value → List Value} {gV : List V → List V → List V} (D : DF K mg x st) (hb : ∀ f fd, Fun K x x st f fd → KBinds K fd ps ks g gV) (F : ∀ f fd, Fun K x x st f fd → FnOk P w K mg base CX0 k f fd ps sp) : CalK P w K mg base k x ps ks gV sp :=
  let ⟨f, fd, F0, m⟩ := D.ex; ⟨⟨f, fd, g, F f fd F0, m, F0.kp, hb f fd F0⟩⟩
end
section
variable {X : Cx}
/-- a module's int -/
theorem pe_gi {x : Str} {n : Int} {pos : Pos} (h : ∃ t, X.mg x = some (.int n t)) (hg : Gl X x := by rfl) (hd : (x == ("__debug__" : Str)) = false := by decide) : PE X (.Name x pos) (tC (.int n)) :=
  let ⟨t, e⟩ := h; pe_glob hg e ⟨t, rfl⟩ hd
def rNeTy : R2 := fun x y H Q => ∃ n, x = .ty n ∧ y = .ty n ∧ (∀ s' : Shared, s'.TypeIs (.type n) "type") ∧ Q (.bl false) H
theorem op_neTy : OpR X (compareOp .NotEq) rNeTy := by
  intro pins s σ H x y v u Q I rx ry h
  obtain ⟨n, rfl, rfl, hm, q⟩ := h
  cases (show v = Value.type n from rx)
  cases (show u = Value.type n from ry)
  exact ne_type_same hm ⟨.bl false, H, I, rfl, q⟩
end
/-- the scope of a generator expression, decided -/
def gokB (N : List Str) (sc scope : Scope) (x : Str) (ns : List (Str × Nat)) : Bool :=
  decide (scope.kind = .function) && !scope.isCoroutine && scope.names.all (fun y => decide (y.2 ≠ .cell)) && decide (scope.names.lookup (".0" : Str) = some NameKind.local) && decide (scope.names.lookup x = some .local) &&
  scope.names.all (fun y => decide (y.2 = .free → sc.names.lookup y.1 = some .cell ∨ sc.names.lookup y.1 = some .free)) && ns.all (fun p => decide (N[p.2]? = some p.1) && decide ((p.1, NameKind.free) ∈ scope.names)) && scope.names.all (fun y => decide (scope.names.lookup y.1 = some y.2))
theorem gok_by {N : List Str} {sc scope : Scope} {x : Str} {ns : List (Str × Nat)} (h : gokB N sc scope x ns = true) : GOk N sc scope x ns := by
  unfold gokB at h
  simp only [Bool.and_eq_true, List.all_eq_true, decide_eq_true_eq, Bool.not_eq_true'] at h
  obtain ⟨⟨⟨⟨⟨⟨⟨h1, h2⟩, h3⟩, h4⟩, h5⟩, h6⟩, h7⟩, h8⟩ := h
  exact ⟨h1, h2, fun y hy => h3 y hy, h4, h5, fun y hy => h6 y hy, fun p hp => h7 p hp, fun y hy => h8 y hy⟩
end Gx
namespace Gx
open PySem PySem.Spec PyProof.Rows L2 GxR
section
variable {K : PySem.W.Frag} {mg : Str → Option Value} {h : Heap} {Goal : Prop}
theorem with_df {x : Str} {st : Stmt} {f : Addr} {oc : Value} {od an : Option Addr} {osl : Array (Option Value)} {kV doc pm cdv ct : Value} (X : K.In h) (G : h.Ns mainGlobals mg) (a : PySem.W.nsIn K mainGlobals x = some (some (.ref f)))
    (l : K.lookup f = some ⟨oc, od, .func (PySem.W.fnOf x x (defArgs st) (defBody st) (defScope st) .none kV doc pm an cdv ct), osl⟩) (c : PySem.W.codeIn K cdv x = true) (k : PySem.W.keepIn K (.ref f) = true) (go : DF K mg x st → Goal) : Goal := go (df_mk X G a l c k)
theorem tab_mk {x qual : Str} {st : Stmt} {f cc tt : Addr} {oc e : Value} {od an dd : Option Addr} {osl sl : Array (Option Value)} {kV doc pm ct : Value} {vs : Array Value} (a : PySem.W.nsIn K mainGlobals x = some (some (.ref f)))
    (l : K.lookup f = some ⟨oc, od, .func (PySem.W.fnOf qual qual (defArgs st) (defBody st) (defScope st) .none kV doc pm an (.ref cc) ct), osl⟩) (lc : K.lookup cc = some ⟨e, dd, .fields vs, sl⟩) (hv : vs[11]? = some (.ref tt)) : PySem.W.tabIn K x = some (cc, tt) := by
  unfold PySem.W.tabIn
  rw [a]
  simp only [l, PySem.W.fnOf, lc, hv]
theorem with_dc {x : Str} {st : Stmt} {f cc tt : Addr} {oc e : Value} {od an dd : Option Addr} {osl sl : Array (Option Value)} {kV doc pm ct : Value} {vs : Array Value} (X : K.In h) (G : h.Ns mainGlobals mg) (a : PySem.W.nsIn K mainGlobals x = some (some (.ref f)))
    (l : K.lookup f = some ⟨oc, od, .func (PySem.W.fnOf x x (defArgs st) (defBody st) (defScope st) .none kV doc pm an (.ref cc) ct), osl⟩) (c : PySem.W.codeIn K (.ref cc) x = true) (k : PySem.W.keepIn K (.ref f) = true)
    (lc : K.lookup cc = some ⟨e, dd, .fields vs, sl⟩) (hv : vs[11]? = some (.ref tt)) (n : K.lookup tt = none) (go : ∀ c P, DC K mg x st c → PySem.W.tabIn K x = some (c, P) → K.lookup P = none → Goal) : Goal := go cc tt (dc_mk X G a l c k) (tab_mk a l lc hv) n
theorem with_bl {x : Str} (X : K.In h) (G : h.Ns mainGlobals mg) (a : PySem.W.nsIn K mainGlobals x = some none) (go : mg x = none → Goal) : Goal := go (PySem.W.mg_none_of X G a)
theorem with_gi {x : Str} {n : Int} {t : Tok} (X : K.In h) (G : h.Ns mainGlobals mg) (a : PySem.W.nsIn K mainGlobals x = some (some (.int n t))) (go : (∃ t, mg x = some (.int n t)) → Goal) : Goal := go ⟨t, PySem.W.mg_of X G a⟩
theorem with_bf {x : Str} {id : String} (X : K.In h) (G : h.Ns mainGlobals mg) (a : PySem.W.nsIn K mainGlobals x = some (some (.builtin id))) (go : mg x = some (.builtin id) → Goal) : Goal := go (PySem.W.mg_of X G a)
end
end Gx
end

section
set_option Elab.async false
set_option linter.all false
set_option maxRecDepth 100000
set_option maxHeartbeats 4000000
/-! *= and //= of great ints; repr of ints, truth values, None and of nested data of these. -/
namespace Gx
open PySem PySem.Spec PyProof.Rows L2 GxR
section
variable {X : Cx}
def ipIC (C : Int → Int → Prop) (f : Int → Int → Int) : TIp := fun x y H Q => ∃ i j, x = .int i ∧ y = .int j ∧ C i j ∧ Q (.int (f i j)) H
theorem ip_mulW : PIp X .Mult (ipIC CMulW fun i j => i * j) := by
  intro pins s σ H x y v u Q I r1 r2 h
  obtain ⟨i, j, e1, e2, hc, q⟩ := h
  subst e1; subst e2
  obtain ⟨t, rfl⟩ := r1
  obtain ⟨t', rfl⟩ := r2
  refine PySem.AutoIntOps.imul_0 ?_ hc.ok
  exact ⟨.int _, H, I.tok _, ⟨_, rfl⟩, q⟩
theorem ip_fdivW : PIp X .FloorDiv (ipIC CDivW fun i j => i / j) := by
  intro pins s σ H x y v u Q I r1 r2 h
  obtain ⟨i, j, e1, e2, hc, q⟩ := h
  subst e1; subst e2
  obtain ⟨t, rfl⟩ := r1
  obtain ⟨t', rfl⟩ := r2
  have h1 : (0 : Int) < j := hc.1
  exact ifloordiv_int (by omega) (by rw [Int.fdiv_eq_ediv_of_nonneg i (by omega)]; exact ⟨.int _, H, I.tok _, ⟨_, rfl⟩, q⟩) (.inl (PyProof.noPylong_of_log2 hc.2))
end
mutual
/-- ints below 2 ^ B, truth values, None, and lists and tuples of these -/
def shP (B : Nat) : PyData → Prop
  | .int i => i.natAbs < 2 ^ B
  | .none => True
  | .bool _ => True
  | .list xs => shAll B xs
  | .tuple xs => shAll B xs
  | _ => False
def shAll (B : Nat) : List PyData → Prop
  | [] => True
  | x :: xs => shP B x ∧ shAll B xs
end
mutual
theorem sh_shown {B : Nat} (hB : 4 ≤ B) : ∀ d : PyData, shP B d → d.shown.length ≤ (B + 1) * nod d
  | .int i, h => by
    have h' : i.natAbs < 2 ^ B := h
    have e := int_text_length_le (a := i) (by omega) (PySem.Flt.log2_lt_of (by omega) h')
    show (Str.ofString (toString i)).length ≤ (B + 1) * 1
    rw [PySem.ofString_length, Nat.mul_one]
    exact e
  | .none, _ => by
    show (PyData.shown .none).length ≤ (B + 1) * 1
    rw [Nat.mul_one]
    exact Nat.le_trans (show (PyData.shown .none).length ≤ 5 by decide) (by omega)
  | .bool b, _ => by
    show (PyData.shown (.bool b)).length ≤ (B + 1) * 1
    rw [Nat.mul_one]
    exact Nat.le_trans (show (PyData.shown (.bool b)).length ≤ 5 by cases b <;> decide) (by omega)
  | .list xs, h => by
    have h1 := sh_shownAll hB xs h
    have h2 := listText_len_le (PyData.shownAll xs)
    have h3 := PyData.shownAll_length xs
    have e : (B + 1) * (nodAll xs + 3) = (B + 1) * nodAll xs + (B + 1) * 3 := Nat.mul_add ..
    show (listText (PyData.shownAll xs)).length ≤ (B + 1) * (nodAll xs + 3)
    omega
  | .tuple xs, h => by
    have h1 := sh_shownAll hB xs h
    have h2 := tupleText_len_le (PyData.shownAll xs)
    have h3 := PyData.shownAll_length xs
    have e : (B + 1) * (nodAll xs + 3) = (B + 1) * nodAll xs + (B + 1) * 3 := Nat.mul_add ..
    show (tupleText (PyData.shownAll xs)).length ≤ (B + 1) * (nodAll xs + 3)
    omega
  | .str _, h => h.elim
  | .dict _, h => h.elim
theorem sh_shownAll {B : Nat} (hB : 4 ≤ B) : ∀ xs : List PyData, shAll B xs → ((PyData.shownAll xs).map (·.length)).sum + 2 * xs.length ≤ (B + 1) * nodAll xs
  | [], _ => by simp [PyData.shownAll]
  | x :: xs, h => by
    have h1 := sh_shown hB x h.1
    have h2 := sh_shownAll hB xs h.2
    have e : (B + 1) * nodAll (x :: xs) = (B + 1) * nod x + (B + 1) * 2 + (B + 1) * nodAll xs := by
      show (B + 1) * (nod x + 2 + nodAll xs) = _
      rw [Nat.mul_add, Nat.mul_add]
    rw [e]
    simp only [PyData.shownAll, List.map_cons, List.sum_cons, List.length_cons]
    omega
end
mutual
theorem sh_show {B : Nat} (h2 : B ≤ 1900) (hB : 0 < B) : ∀ d : PyData, shP B d → d.showable = true ∧ d.hasDict = false
  | .int i, h => by
    have h' : i.natAbs < 2 ^ B := h
    exact ⟨decide_eq_true (Nat.lt_of_lt_of_le (PySem.Flt.log2_lt_of hB h') (by omega)), rfl⟩
  | .none, _ => ⟨rfl, rfl⟩
  | .bool _, _ => ⟨rfl, rfl⟩
  | .list xs, h => sh_showAll h2 hB xs h
  | .tuple xs, h => sh_showAll h2 hB xs h
  | .str _, h => h.elim
  | .dict _, h => h.elim
theorem sh_showAll {B : Nat} (h2 : B ≤ 1900) (hB : 0 < B) : ∀ xs : List PyData, shAll B xs → PyData.showableAll xs = true ∧ PyData.hasDictAll xs = false
  | [], _ => ⟨rfl, rfl⟩
  | x :: xs, h => by
    obtain ⟨a1, a2⟩ := sh_show h2 hB x h.1
    obtain ⟨b1, b2⟩ := sh_showAll h2 hB xs h.2
    exact ⟨by simp only [PyData.showableAll, a1, b1, Bool.and_self], by simp only [PyData.hasDictAll, a2, b2, Bool.or_self]⟩
end
/-- how repr writes a value: what it asks -/
structure Shows (d : PyData) : Prop where
  ex : ∃ B, shP B d ∧ 4 ≤ B ∧ B ≤ 1900 ∧ (B + 1) * nod d ≤ 16777216
  dp : d.depth ≤ 30
section
variable {X : Cx}
def rReprD (K : PySem.W.Frag) : List V → Hp → VK → Prop := fun vs H Q => ∃ (x : V) (d : PyData), vs = [x] ∧ Dp K H x d ∧ Shows d ∧ Q (.str d.shown) H
theorem cr_reprD {k : Nat} (hr : Room k X.A) (hg : X.A.guards = some []) : CallR X (.builtin "repr") (rReprD X.K) := by
  intro pins s σ H vs us Q I r h
  obtain ⟨x, d, rfl, hd, ⟨⟨B, hi, h0, hB, hn⟩, hdp⟩, q⟩ := h
  obtain ⟨s1, s2⟩ := sh_show hB (by omega) d hi
  cases r with
  | cons r1 rr =>
    cases rr
    cases hd with
    | non =>
      cases r1
      exact PySem.P.repr_of_none ⟨.str _, H, I.tok _, ⟨_, rfl⟩, q⟩
    | bl b =>
      cases (show _ = Value.bool b from r1)
      refine PySem.P.repr_of_bool ⟨.str _, H, I.tok _, ⟨_, rfl⟩, ?_⟩
      cases b <;> exact q
    | int i =>
      obtain ⟨t, rfl⟩ := r1
      have h' : i.natAbs < 2 ^ B := hi
      exact PySem.P.repr_of_int (Nat.lt_of_lt_of_le (PySem.Flt.log2_lt_of (by omega) h') (by omega)) ⟨.str _, H, I.tok _, ⟨_, rfl⟩, q⟩
    | str x => exact hi.elim
    | lst h1 h2 =>
      rename_i a xs ds
      cases (show _ = Value.ref a from r1)
      obtain ⟨as, R⟩ := Dp.reads I (.list ds) (.ref a) (.ref a) (.lst h1 h2) rfl
      refine repr_of_reads' R s1 (PyData.noDict_hsm s2) hg (by have := hr.un; omega) (fun b o e => e) (fun h' u tk hk => ⟨.str _, H, I.kept hk, ⟨u, rfl⟩, q⟩) ?_
      have := sh_shown h0 _ hi
      show (PyData.shown (.list ds)).length ≤ 16777216
      omega
    | tup h1 h2 =>
      rename_i a xs ds
      cases (show _ = Value.ref a from r1)
      obtain ⟨as, R⟩ := Dp.reads I (.tuple ds) (.ref a) (.ref a) (.tup h1 h2) rfl
      refine repr_of_reads' R s1 (PyData.noDict_hsm s2) hg (by have := hr.un; omega) (fun b o e => e) (fun h' u tk hk => ⟨.str _, H, I.kept hk, ⟨u, rfl⟩, q⟩) ?_
      have := sh_shown h0 _ hi
      show (PyData.shown (.tuple ds)).length ≤ 16777216
      omega
end
end Gx
end

section
set_option Elab.async false
set_option linter.all false
set_option maxRecDepth 100000
set_option maxHeartbeats 4000000
/-! Comprehensions whose elements leave what is tracked as it is: the list so far, by a function of the place. -/
namespace Gx
open PySem PySem.Spec PyProof.Rows L2 GxR
theorem sameR (H : Hp) : Same H H := fun _ _ h => h
theorem sameN {H : Hp} {p : Addr} {o : HO} (h : H p = none) : Same H (L2.upd H p o) := fun b x e => by
  rw [L2.upd_ne (ne_of_none e h)]
  exact e
/-- the list so far -/
def fmL (f : Nat → Option V) (i : Nat) : List V := (List.range i).filterMap f
theorem fmL_succ (f : Nat → Option V) (i : Nat) : fmL f (i + 1) = fmL f i ++ (f i).toList := by
  unfold fmL
  rw [List.range_succ, List.filterMap_append]
  cases h : f i <;> simp [h]
theorem fmL_len (f : Nat → Option V) (i : Nat) : (fmL f i).length ≤ i := by
  unfold fmL
  have := List.length_filterMap_le f (List.range i)
  rw [List.length_range] at this
  exact this
structure PvF (f : Nat → Option V) (H1 : Hp) (D : Addr) (i : Nat) (H : Hp) : Prop where
  s : Same H1 H
  at_ : H D = some (.lst (fmL f i))
theorem PvF.zero {f : Nat → Option V} {H1 : Hp} {D : Addr} (h : H1 D = none) : PvF f H1 D 0 (L2.upd H1 D (.lst [])) := ⟨sameN h, L2.upd_same⟩
theorem PvF.ext {f : Nat → Option V} {H1 : Hp} {D : Addr} {i : Nat} {H H4 : Hp} {y : V} (p : PvF f H1 D i H) (hD : H1 D = none) (hi : i < 16777216) (s : Same H H4) (e : f i = some y) :
    ∃ acc, H4 D = some (.lst acc) ∧ acc.length < sizeLine ∧ PvF f H1 D (i + 1) (L2.upd H4 D (.lst (acc ++ [y]))) := by
  refine ⟨_, s _ _ p.at_, ?_, fun b x hb => ?_, ?_⟩
  · have := fmL_len f i
    show (fmL f i).length < 16777216
    omega
  · rw [L2.upd_ne (ne_of_none hb hD)]
    exact s _ _ (p.s b x hb)
  · rw [L2.upd_same, fmL_succ, e]
    rfl
theorem PvF.skip {f : Nat → Option V} {H1 : Hp} {D : Addr} {i : Nat} {H H3 : Hp} (p : PvF f H1 D i H) (s : Same H H3) (e : f i = none) : PvF f H1 D (i + 1) H3 :=
  ⟨fun b x hb => s _ _ (p.s b x hb), by rw [s _ _ p.at_, fmL_succ, e]; simp⟩
theorem fmL_take {α : Type} (l : List α) (h : α → Option V) : ∀ i, i ≤ l.length → fmL (fun i => l[i]?.bind h) i = (l.take i).filterMap h
  | 0, _ => rfl
  | i + 1, hi => by
    rw [fmL_succ, fmL_take l h i (by omega), List.take_add_one, List.filterMap_append, List.getElem?_eq_getElem (show i < l.length by omega)]
    show _ ++ (h l[i]).toList = _ ++ [l[i]].filterMap h
    congr 1
theorem fmL_bind {α : Type} (l : List α) (h : α → Option V) : fmL (fun i => l[i]?.bind h) l.length = l.filterMap h := by
  rw [fmL_take l h _ (Nat.le_refl _), List.take_length]
theorem fmL_map {α : Type} (l : List α) (h : α → V) : fmL (fun i => l[i]?.map h) l.length = l.map h := by
  have e := fmL_bind l fun x => some (h x)
  have e2 : (fun i : Nat => l[i]?.map h) = fun i : Nat => l[i]?.bind fun x => some (h x) := by
    funext i
    cases l[i]? <;> rfl
  rw [e2, e, List.filterMap_eq_map']
theorem fmL_range (h : Nat → V) (n : Nat) : fmL (fun i => some (h i)) n = (List.range n).map h := by
  unfold fmL
  rw [List.filterMap_eq_map']
theorem ix_tupK {X : Cx} {K : PySem.W.Frag} (e : X.K = K) : IxR X (rIxT K) := e ▸ ix_tup
theorem ite_dup {c : Prop} [Decidable c] {A R : Prop} (hR : R) (hA : c → R → A) : if decide c = true then A else R := by
  by_cases h : c
  · rw [if_pos (decide_eq_true h)]
    exact hA h hR
  · rw [if_neg (by rw [decide_eq_false h]; exact Bool.false_ne_true)]
    exact hR
theorem op_eqDK {X : Cx} {K : PySem.W.Frag} (e : X.K = K) (hu : X.A.units + 64 < cLine) : OpR X (compareOp .Eq) (rEqD K) := e ▸ op_eqD hu
theorem op_neDK {X : Cx} {K : PySem.W.Frag} (e : X.K = K) (hu : X.A.units + 64 < cLine) : OpR X (compareOp .NotEq) (rNeD K) := e ▸ op_neD hu
theorem u1 {k : Nat} {A : Around} (r : Room k A) : A.units + 1 < cLine := by have := r.un; omega
/-- over a list that stands still -/
theorem lc_fm {K : PySem.W.Frag} {a : Addr} {xs : List V} {g : TG} {tt : TT} {te : TE} {vs : List Nat} {σ : L2.St} {H1 : Hp} {D : Addr} {Qd : Hp → Prop} (f : Nat → Option V) (hD : H1 D = none) (hl : SqL K H1 a xs)
    (hs : ∀ i x H, xs[i]? = some x → PvF f H1 D i H → g x (wipe σ vs) H fun σ2 H2 => wipe σ2 vs = wipe σ vs ∧ tt σ2 H2 fun b H3 =>
      if b = true then te σ2 H3 fun y H4 => ∃ acc, H4 D = some (.lst acc) ∧ acc.length < sizeLine ∧ PvF f H1 D (i + 1) (L2.upd H4 D (.lst (acc ++ [y]))) else PvF f H1 D (i + 1) H3) (hd : ∀ H, PvF f H1 D xs.length H → Qd H) :
    ∃ W : Nat → Nat → Hp → Prop, (∃ m, W 0 m (L2.upd H1 D (.lst []))) ∧ ∀ i m H, W i m H →
      ((Itl K a).stop i H ∧ Qd H) ∨ ((Itl K a).go i H ∧ ∃ Nx : Hp → Prop, (∀ H', Nx H' → ∃ m', m' < m ∧ W (i + 1) m' H') ∧ ∀ x H', (Itl K a).yld i H x H' → g x (wipe σ vs) H' fun σ2 H2 => wipe σ2 vs = wipe σ vs ∧ tt σ2 H2 fun b H3 =>
        if b = true then te σ2 H3 fun y H4 => ∃ acc, H4 D = some (.lst acc) ∧ acc.length < sizeLine ∧ Nx (L2.upd H4 D (.lst (acc ++ [y]))) else Nx H3) :=
  lc_list (PvF f H1 D) (PvF.zero hD) (fun i H _ p => hl.elim (fun h => .inl (h.elim (fun h => .inl (p.s _ _ h)) fun ⟨o, h⟩ => .inr ⟨o, p.s _ _ h⟩)) fun h => .inr h) hs hd
end Gx
end

section
set_option Elab.async false
set_option linter.all false
set_option maxRecDepth 100000
set_option maxHeartbeats 4000000
/-! Generator expressions with any target, whose callers may write to what is tracked between two items; sum(..) of one. -/
namespace Gx
open PySem PySem.Spec PyProof.Rows L2 GxR
def none0 (xs : List Str) : L2.St := xs.map fun _ => none
structure GOkV (N : List Str) (sc scope : Scope) (xs : List Str) (ns : List (Str × Nat)) : Prop where
  kind : scope.kind = .function
  co : scope.isCoroutine = false
  cell : ∀ y ∈ scope.names, y.2 ≠ .cell
  dot : scope.names.lookup (".0" : Str) = some NameKind.local
  free : ∀ y ∈ scope.names, y.2 = .free → sc.names.lookup y.1 = some .cell ∨ sc.names.lookup y.1 = some .free
  caps : ∀ p ∈ ns, N[p.2]? = some p.1 ∧ (p.1, NameKind.free) ∈ scope.names
  uniq : ∀ y ∈ scope.names, scope.names.lookup y.1 = some y.2
def gokVB (N : List Str) (sc scope : Scope) (ns : List (Str × Nat)) : Bool :=
  decide (scope.kind = .function) && !scope.isCoroutine && scope.names.all (fun y => decide (y.2 ≠ .cell)) && decide (scope.names.lookup (".0" : Str) = some NameKind.local) &&
  scope.names.all (fun y => decide (y.2 = .free → sc.names.lookup y.1 = some .cell ∨ sc.names.lookup y.1 = some .free)) && ns.all (fun p => decide (N[p.2]? = some p.1) && decide ((p.1, NameKind.free) ∈ scope.names)) && scope.names.all (fun y => decide (scope.names.lookup y.1 = some y.2))
theorem gokV_by {N : List Str} {sc scope : Scope} {xs : List Str} {ns : List (Str × Nat)} (h : gokVB N sc scope ns = true) : GOkV N sc scope xs ns := by
  unfold gokVB at h
  simp only [Bool.and_eq_true, List.all_eq_true, decide_eq_true_eq, Bool.not_eq_true'] at h
  obtain ⟨⟨⟨⟨⟨⟨h1, h2⟩, h3⟩, h4⟩, h6⟩, h7⟩, h8⟩ := h
  exact ⟨h1, h2, fun y hy => h3 y hy, h4, fun y hy => h6 y hy, fun p hp => h7 p hp, fun y hy => h8 y hy⟩
/-- the names of the def are as they were -/
def Keep2 (σ0 σ1 : L2.St) : Prop := σ1.length = σ0.length ∧ ∀ (j : Nat) (v : V), σ0[j]? = some (some v) → σ1[j]? = some (some v)
theorem keep2_1 {x : V} {c : L2.St} : Keep2 (none :: c) (some x :: c) := ⟨rfl, fun j v h => by
  cases j with
  | zero => cases h
  | succ j => exact h⟩
theorem keep2_2 {x y : Option V} {c : L2.St} : Keep2 (none :: none :: c) (x :: y :: c) := ⟨rfl, fun j v h => by
  match j, h with
  | 0, h => cases h
  | 1, h => cases h
  | j + 2, h => exact h⟩
/-- what is not tracked is as it was -/
def Unt (H : Hp) (s : Shared) (H' : Hp) (s' : Shared) : Prop := ∀ b o, H b = none → s.heap.get? b = some o → H' b = none ∧ s'.heap.get? b = some o
def GEndV (G : Cx) (a : Addr) (go : Obj) (σ0 : L2.St) (L : Nat) (Pv : Nat → Hp → Prop) : Nat → Shared → Shared → Prop := fun n _ s => n = 1 ∧ ∃ H, Inv G [(a, go)] σ0 H s ∧ Pv L H
def GYldV (G : Cx) (a : Addr) (go : Obj) (σ0 : L2.St) (L : Nat) (Pv : Nat → Hp → Prop) (Ye : Nat → V → Hp → Prop) : Protocol := fun n _ v s kap =>
  ∃ i y H, i < L ∧ n + i = L ∧ RelV y v ∧ Inv G [(a, go)] σ0 H s ∧ Ye i y H ∧ ∀ s' H', Inv G [(a, go)] σ0 H' s' → Unt H s H' s' → Pv (i + 1) H' → kap (.send .none) s'
section
variable {X : Cx} {pins : List (Addr × Obj)} {σ : L2.St} {H : Hp} {s : Shared}
theorem inv_genV {s5 : Shared} {scope : Scope} {xs : List Str} {ns : List (Str × Nat)} {fp : List Addr} {P C a : Addr} {go : Obj} {code it : Value} {A : Around}
    (I : Inv X pins σ H s) (S : GOkV X.N X.env.scope scope xs ns) (hP : H P = some (TabO P)) (hf : ∀ b ∈ fp, FpOk X pins H b) (hfo : ∀ b ∈ fp, ∃ o, s.heap.get? b = some o)
    (hA : A.frames = some (genEnv scope (cloFrom X.env.cells scope.names []) C code builtinsNs X.env :: X.stack)) (hh : A.handled = none) (hC : s.heap.objs.size ≤ C) (ha : C < a)
    (ho : s5.os = s.os) (hb : AllBare s5.gens) (k : ∀ b o, b ≠ P → s.heap.get? b = some o → s5.heap.get? b = some o) (hp : tabPhi P s5.heap)
    (hn : s5.heap.Ns C (fun y => if y = ".0" then some it else none)) (hgo : s5.heap.get? a = some go) (hgd : ∀ v, go.data ≠ .cell v) :
    Inv (gcx X s H (xs ++ ns.map (·.1)) (genEnv scope (cloFrom X.env.cells scope.names []) C code builtinsNs X.env) fp A) [(a, go)] (none0 xs ++ capsOf σ ns) H s5 := by
  have hfree : ∀ y ∈ scope.names, y.2 = .free → ∃ c, X.env.cells.lookup y.1 = some c := fun y hy e => by
    rcases S.free y hy e with k | k
    · exact I.ok.has _ (.inl k)
    · exact I.ok.has _ (.inr k)
  have nP : ∀ b, H b = none → b ≠ P := fun b e z => by
    rw [z, hP] at e
    cases e
  have fplt : ∀ b ∈ fp, b < s.heap.objs.size := fun b hb => let ⟨o, e⟩ := hfo b hb; Heap.lt_size e
  have stk : ∀ b ∈ fp, b ∉ frs X.stack := fun b hb hm => by
    obtain ⟨_, f1, f2, _⟩ := hf b hb
    rcases List.mem_cons.mp (I.stkSub b hm) with z | z
    · exact f1 z
    · exact f2 z
  have noA : ∀ b, s.heap.objs.size ≤ b → b ∉ frs X.stack := fun b hb hm => by
    rcases List.mem_cons.mp (I.stkSub b hm) with z | z
    · have := I.lt
      rw [← z] at this
      exact absurd (Nat.lt_of_lt_of_le this hb) (Nat.lt_irrefl _)
    · exact I.nofs hb z
  refine ⟨⟨I.mod, S.kind, I.ok.glob, rfl, hC, fun y z c h1 h2 => ?_, fun y hy => ?_, fun y c h _ => (by cases h), fun _ => hh, hA, .inr ⟨rfl, rfl⟩, fun b hb => ⟨?_, fun y c h z => ?_⟩, fun b o e => I.bs b o e, Nat.le_trans I.ok.bsz I.sz, fun b o e hm => ?_, fun b hb => stk b hb, I.stack, I.stkFree⟩,
    ho, hb, ⟨fun b o e n _ _ => k b o (nP b n) e, fun b o e n _ _ => ⟨o.slots, k b o (nP b n) e⟩, fun _ _ _ n _ => n, fun b o e _ => ?_, fun _ _ q => q, fun _ _ _ q => q, fun b ps q => ⟨#[], by
      have q' : H b = some (.tbl ps) := q
      rw [q']; simp⟩⟩,
    ⟨_, hn, fun i y v h1 h2 h3 => ?_⟩, fun y c h => ?_, I.hok.fresh hC, fun y c h => ?_, fun p hp' => ?_, fun b u e => ?_, ?_⟩
  · exact I.ok.inj _ _ _ (clo_of hfree h1).2 (clo_of hfree h2).2
  · have hy : scope.names.lookup y = some .cell ∨ scope.names.lookup y = some .free := hy
    rcases hy with hy | hy
    · exact absurd rfl (S.cell _ (PySem.mem_of_lookup hy))
    · obtain ⟨c, e⟩ := hfree _ (PySem.mem_of_lookup hy) rfl
      exact ⟨c, clo_lookup (PySem.mem_of_lookup hy) e⟩
  · exact Nat.ne_of_lt (Nat.lt_of_lt_of_le (fplt b hb) hC)
  · obtain ⟨_, _, _, _, f4, _⟩ := hf b hb
    exact f4 y c (clo_of hfree h).2 z
  · obtain ⟨_, _, _, f3, _⟩ := hf b hm
    rcases f3 with z | z
    · exact I.ok.noex b o e z
    · exact absurd (Nat.lt_of_lt_of_le (Heap.lt_size e) (Nat.le_trans I.ok.bsz z)) (Nat.lt_irrefl _)
  · by_cases hb : b = P
    · obtain ⟨ps, e2, _⟩ := hp
      exact ⟨_, by rw [hb]; exact e2⟩
    · exact ⟨o, k b o hb e⟩
  · by_cases hix : i < xs.length
    · rw [List.getElem?_append_left (by unfold none0; rw [List.length_map]; exact hix)] at h2
      unfold none0 at h2
      rw [List.getElem?_map, List.getElem?_eq_getElem hix] at h2
      cases h2
    · obtain ⟨i, rfl⟩ : ∃ j, i = xs.length + j := ⟨i - xs.length, by omega⟩
      have hln : (none0 xs).length = xs.length := List.length_map _
      rw [List.getElem?_append_right (by omega), Nat.add_sub_cancel_left] at h1
      rw [List.getElem?_append_right (by omega), hln, Nat.add_sub_cancel_left] at h2
      have h1' : (ns.map (·.1))[i]? = some y := h1
      have h2' : (capsOf σ ns)[i]? = some (some v) := h2
      unfold capsOf at h2'
      rw [List.getElem?_map] at h1' h2'
      cases e : ns[i]? with
      | none => rw [e] at h1'; cases h1'
      | some p =>
        rw [e] at h1' h2'
        have e1 : p.1 = y := Option.some.inj h1'
        have e2 : (σ[p.2]?).join = some v := Option.some.inj h2'
        obtain ⟨c1, c2⟩ := S.caps p (List.mem_of_getElem? e)
        obtain ⟨m, hm, hl⟩ := I.loc
        have e3 : σ[p.2]? = some (some v) := by
          cases q : σ[p.2]? with
          | none => rw [q] at e2; cases e2
          | some w => rw [q] at e2; have e2' : w = some v := e2; rw [e2']
        have hk := S.free _ c2 rfl
        have hvis : Vis X.env.scope p.1 := .inr hk
        obtain ⟨u, r, lk⟩ := hl p.2 p.1 v c1 e3 hvis
        refine ⟨u, r, ?_⟩
        rcases lk with ⟨kl, _⟩ | ⟨_, c, hc, ic⟩
        · have kl' : X.env.scope.names.lookup p.1 = some .local := kl
          rcases hk with hk | hk
          · rw [show X.env.scope.names.lookup p.1 = some .cell from hk] at kl'; cases kl'
          · rw [show X.env.scope.names.lookup p.1 = some .free from hk] at kl'; cases kl'
        · rw [← e1]
          refine .inr ⟨.inr (S.uniq _ c2), c, clo_lookup c2 hc, ?_⟩
          obtain ⟨oc, ho', hd'⟩ := ic
          exact ⟨oc, k c oc (nP c (I.freeC _ _ hc)) ho', hd'⟩
  · have hc := (clo_of hfree h).2
    obtain ⟨v, oc, ho', hd'⟩ := I.cell y c hc
    exact ⟨v, oc, k c oc (nP c (I.freeC _ _ hc)) ho', hd'⟩
  · exact I.freeC _ _ (clo_of hfree h).2
  · have hp2 : p ∈ [(a, go)] := hp'
    rw [List.mem_singleton.mp hp2]
    have hsa : s.heap.objs.size ≤ a := Nat.le_trans hC (Nat.le_of_lt ha)
    exact ⟨hgo, I.hok.fresh hsa, Nat.ne_of_gt ha, noA a hsa, hgd⟩
  · by_cases hb : b = P
    · rw [hb, hP] at e
      cases e
      rw [hb]
      exact tab_ok hp
    · refine (I.hok b u e).stay (fun c v hc q => k c v ?_ q) (fun _ q => q) fun _ _ q => q
      rcases hc with z | z
      · rw [z]; exact hb
      · intro w
        rw [w, hP] at z
        cases z
  · show (none0 xs ++ capsOf σ ns).length = (xs ++ ns.map (·.1)).length
    unfold capsOf none0
    simp
end
section
variable {G : Cx} {A : Around} {elt iter tg : Expr} {scope : Scope} {pos : Pos} {it a : Addr} {go : Obj} {fp : List Addr} {tn : Nat → Heap → Prop} {J : It} {σ0 : L2.St} {g : TG} {te : TE} {L : Nat} {Pv : Nat → Hp → Prop} {Ye : Nat → V → Hp → Prop}
theorem seg_gloopV (hA : A.over (.compLoop (.GeneratorExp elt [⟨tg, iter, [], 0⟩] scope pos) 0 (.ref it) .none G.env) [] = G.A) (hc : G.calm = true) (hex : G.ex = fp) (hxe : G.xe = fun _ _ => False) (hpn : G.pn = []) (hco : G.env.scope.isCoroutine = false)
    (T : Turn G.prog G.w G.K tg J fp it tn) (hg : PG G tg g) (he : PE G elt te) (ha : ∀ b ∈ fp, a ≠ b)
    (step : ∀ i H, i < L → Pv i H → J.go i H ∧ ∀ y H', J.yld i H y H' → g y σ0 H' fun σ1 H1 => Keep2 σ0 σ1 ∧ te σ1 H1 (Ye i)) (stop : ∀ H, Pv L H → J.stop L H) :
    ∀ (k i : Nat) (s₀ s : Shared) (H : Hp), L - i = k → i ≤ L → Inv G [(a, go)] (σ0) H s → tn i s.heap → (∀ b ∈ fp, H b = none) → Pv i H →
      Seg (model G.prog G.w) A (fun n s₀ r s₁ => r = .ok .next ∧ GEndV G a go σ0 L Pv n s₀ s₁) (GYldV G a go σ0 L Pv Ye) (k + 1) s₀
        (.compLoop (.GeneratorExp elt [⟨tg, iter, [], 0⟩] scope pos) 0 (.ref it) .none G.env)
        ((model G.prog G.w).den (.compLoop (.GeneratorExp elt [⟨tg, iter, [], 0⟩] scope pos) 0 (.ref it) .none G.env)) [] s := by
  have fpok : ∀ {H : Hp} {σ : L2.St} {s : Shared}, Inv G [(a, go)] σ H s → (∀ b ∈ fp, H b = none) → ∀ b ∈ fp, FpOk G [(a, go)] H b := fun {H σ s} I hn b hb => by
    have hb' : b ∈ G.ex := by rw [hex]; exact hb
    obtain ⟨e1, e2⟩ := I.ok.exf b hb'
    refine ⟨hn b hb, e1, I.ok.exfs b hb', .inl hb', e2, fun p hp => ?_⟩
    rw [hpn, List.nil_append] at hp
    rw [List.mem_singleton.mp hp]
    exact ha b hb
  intro k
  induction k with
  | zero =>
    intro i s₀ s H hk hi I st fr pv
    have hin : i = L := by omega
    subst hin
    show Seg _ A _ _ _ s₀ _ ((compTurn (.GeneratorExp elt [⟨tg, iter, [], 0⟩] scope pos) 0 (.ref it) .none G.env).onRaise (leaving G.env)) [] s
    rw [compTurn_gen, Sem.onRaise_eq_wrap]
    refine seg_bind_wrap (wpAny_standAt ?_)
    refine seg_bind_wrap ?_
    rw [hA]
    refine thn (T.done G rfl rfl rfl hc i _ s _ H _ I (fpok I fr) st (stop H pv)) fun r s1 ⟨hr, I1⟩ => ?_
    subst hr
    exact seg_end (.ok .next) ⟨rfl, rfl, H, I1, pv⟩
  | succ k ih =>
    intro i s₀ s H hk hi I st fr pv
    have hlt : i < L := by omega
    obtain ⟨hgo, hstep⟩ := step i H hlt pv
    show Seg _ A _ _ _ s₀ _ ((compTurn (.GeneratorExp elt [⟨tg, iter, [], 0⟩] scope pos) 0 (.ref it) .none G.env).onRaise (leaving G.env)) [] s
    rw [compTurn_gen, Sem.onRaise_eq_wrap]
    refine seg_bind_wrap (wpAny_standAt ?_)
    refine seg_bind_wrap ?_
    rw [hA]
    refine thn (T.item G rfl rfl rfl hc i _ s _ H _ I (fpok I fr) st hgo) fun r s1 ⟨u, hr, h1⟩ => ?_
    subst hr
    refine seg_bind_wrap ?_
    rw [hA]
    refine thn h1 fun _ s2 ⟨y, H2, I2, ru, yl, st2, fr2⟩ => ?_
    have I2p := I2.pinned (fpok I2 fr2) (T.obj _ _ st2)
    refine seg_bind_wrap ?_
    rw [hA]
    refine wpAny_mono (hg.run _ s2 _ H2 y u (fun σ' H' => Keep2 σ0 σ' ∧ te σ' H' (Ye i)) I2p ru (hstep y _ yl)) (fun _ s3 h3 => ?_) (fun e s' hx => by rw [hxe] at hx; exact hx.elim)
    obtain ⟨σ3, H3, I3, kp, hte⟩ := h3
    simp only [List.forIn_nil]
    refine seg_bind_wrap (wpAny_pure ?_)
    simp only [if_true]
    have hy : ∀ v, yieldOut G.env v = yieldValue v := fun v => by simp only [yieldOut, hco, Bool.false_eq_true, if_false]
    simp only [hy]
    rw [Sem.bind_eq_wrap', Sem.bind_eq_wrap', Sem.wrap_wrap, Sem.wrap_wrap]
    refine seg_wrap ?_
    rw [hA]
    refine wpAny_mono (he.run _ s3 _ _ (Ye i) I3 hte) (fun v s4 h4 => ?_) (fun e s' hx => by rw [hxe] at hx; exact hx.elim)
    obtain ⟨y4, H4, I4, r4, q4⟩ := h4
    have pinAt : ∀ b ∈ fp, ∀ o, s2.heap.get? b = some o → s4.heap.get? b = some o ∧ H4 b = none := fun b hb o e =>
      let z := I4.pin (b, o) (List.mem_append_right _ (List.mem_append_right _ (mem_pinsAt hb e))); ⟨z.1, z.2.1⟩
    have st4 : tn (i + 1) s4.heap := T.keep _ _ _ st2 fun b hb o e => (pinAt b hb o e).1
    have fr4 : ∀ b ∈ fp, H4 b = none := fun b hb => by
      obtain ⟨o, e, _⟩ := T.obj _ _ st2 b hb
      exact (pinAt b hb o e).2
    have I4w : Inv G [(a, go)] σ0 H4 s4 := I4.unpinned.weak kp.1.symm kp.2
    refine seg_at (seg_yield rfl rfl rfl ⟨i, y4, H4, hlt, by omega, r4, I4w, q4, fun s5 H5 I5 un pv5 => ?_⟩)
    exact seg_again rfl (ih (i + 1) s5 s5 H5 (by omega) hlt I5 (T.keep _ _ _ st4 fun b hb o e => (un b o (fr4 b hb) e).2) (fun b hb => let ⟨o, e, _⟩ := T.obj _ _ st4 b hb; (un b o (fr4 b hb) e).1) pv5)

theorem seg_gstartV (hA : A.over (.compLoop (.GeneratorExp elt [⟨tg, iter, [], 0⟩] scope pos) 0 (.ref it) .none G.env) [] = G.A) (hc : G.calm = true) (hex : G.ex = fp) (hxe : G.xe = fun _ _ => False) (hpn : G.pn = []) (hco : G.env.scope.isCoroutine = false)
    (T : Turn G.prog G.w G.K tg J fp it tn) (hg : PG G tg g) (he : PE G elt te) (ha : ∀ b ∈ fp, a ≠ b)
    (step : ∀ i H, i < L → Pv i H → J.go i H ∧ ∀ y H', J.yld i H y H' → g y σ0 H' fun σ1 H1 => Keep2 σ0 σ1 ∧ te σ1 H1 (Ye i)) (stop : ∀ H, Pv L H → J.stop L H)
    (s₀ s : Shared) (H : Hp) (I : Inv G [(a, go)] (σ0) H s) (st : tn 0 s.heap) (fr : ∀ b ∈ fp, H b = none) (pv : Pv 0 H) :
      Seg (model G.prog G.w) A (fun n s₀ r s₁ => r = .ok .next ∧ GEndV G a go σ0 L Pv n s₀ s₁) (GYldV G a go σ0 L Pv Ye) (L + 1) s₀
        (.compStart (.GeneratorExp elt [⟨tg, iter, [], 0⟩] scope pos) 0 (.ref it) .none G.env)
        ((model G.prog G.w).den (.compStart (.GeneratorExp elt [⟨tg, iter, [], 0⟩] scope pos) 0 (.ref it) .none G.env)) [] s := by
  have loop := seg_gloopV (a := a) (go := go) hA hc hex hxe hpn hco T hg he ha step stop L 0 s₀ s H (Nat.sub_zero _) (Nat.zero_le _) I st fr pv
  show Seg _ A _ _ _ s₀ _ ((compStart (.GeneratorExp elt [⟨tg, iter, [], 0⟩] scope pos) 0 (.ref it) .none G.env).onRaise (leaving G.env)) [] s
  unfold compStart
  rw [Sem.onRaise_eq_wrap]
  show Seg _ A _ _ _ s₀ _ ((ask >>= _).wrap _ _ _ _) [] s
  refine seg_bind_wrap (wpAny_askSetting ?_)
  split
  · exact seg_again rfl loop
  · first
      | exact seg_bind_wrap (wpAny_rule (seg_bind_wrap (wpAny_standAt (seg_bind_wrap (T.self _ 0 s _ _ st (seg_again rfl loop))))))
      | (refine seg_bind_wrap (wpAny_rule ?_); show Seg _ A _ _ _ s₀ _ ((standAt iter.pos >>= _).wrap _ _ _ _) [] s; exact seg_bind_wrap (wpAny_standAt (seg_bind_wrap (T.self _ 0 s _ _ st (seg_again rfl loop)))))
end
/-- what stands when a generator expression has been made -/
def GReadyV (X : Cx) (pins : List (Addr × Obj)) (σ : L2.St) (J : It) (H2 : Hp) (g : TG) (te : TE) (σ0 : L2.St) (k : Nat) (a : Addr) (s5 : Shared) : Prop :=
  ∃ (gi : Nat) (go : Obj) (c : Code), (∀ h : Heap, h.get? a = some go → h.IsGen a gi) ∧ s5.gens[gi]? = some (.fresh c) ∧
    ∀ A : Around, Room (k + 1) A → A.frames = some X.stack → ∃ G : Cx, G.prog = X.prog ∧ G.w = X.w ∧ (∀ H' s', Inv G [(a, go)] (σ0) H' s' → Inv X pins σ H' s') ∧ Inv G [(a, go)] (σ0) H2 s5 ∧
      ∀ (L : Nat) (Pv : Nat → Hp → Prop) (Ye : Nat → V → Hp → Prop), (∀ i H, i < L → Pv i H → J.go i H ∧ ∀ y H', J.yld i H y H' → g y σ0 H' fun σ1 H1 => Keep2 σ0 σ1 ∧ te σ1 H1 (Ye i)) → (∀ H, Pv L H → J.stop L H) →
        ∀ s' H', Inv G [(a, go)] σ0 H' s' → Unt H2 s5 H' s' → Pv 0 H' →
          (GenState.fresh c).Goes (model X.prog X.w) A (fun n s₀ r s₁ => r = .ok .next ∧ GEndV G a go σ0 L Pv n s₀ s₁) (GYldV G a go σ0 L Pv Ye) (L + 1) (.send .none) s'
section
variable {X : Cx} {pins : List (Addr × Obj)} {σ : L2.St} {H : Hp} {s : Shared}
theorem gen_madeV {c P : Addr} {elt iter : Expr} {tg : Expr} {xs : List Str} {gpos : Pos} {scope : Scope} {ns : List (Str × Nat)} {wi : TI} {g : TG} {te : TE} {k k' : Nat} {Q' : Value → Shared → Prop} {R : It → Hp → Prop}
    (hr : Room k X.A) (TB : TabB X.base X.mg c P) (hcode : X.env.code = .ref c) (S : GOkV X.N X.env.scope scope xs ns) (hi : PI X tg iter wi)
    (hg : ∀ (s : Shared) (H : Hp) (C : Addr) (code : Value) (fp : List Addr) (A : Around), PG (gcx X s H (xs ++ ns.map (·.1)) (genEnv scope (cloFrom X.env.cells scope.names []) C code builtinsNs X.env) fp A) tg g)
    (he : ∀ (s : Shared) (H : Hp) (C : Addr) (code : Value) (fp : List Addr) (A : Around), Room k' A → PE (gcx X s H (xs ++ ns.map (·.1)) (genEnv scope (cloFrom X.env.cells scope.names []) C code builtinsNs X.env) fp A) elt te)
    (hs : ∀ v, genFold iter X.env v = pure v) (I : Inv X pins σ H s) (h : wi σ H fun J H1 => H1 P = some (TabO P) ∧ R J H1)
    (hQ : ∀ J H2 a s5, R J H2 → GReadyV X pins σ J H2 g te (none0 xs ++ capsOf σ ns) k' a s5 → Q' (.ref a) s5) :
    wpAny (model X.prog X.w) X.A (eval (.GeneratorExp elt [⟨tg, iter, [], 0⟩] scope gpos) X.env) Q' X.xe s := by
  have hfree : ∀ y ∈ scope.names, y.2 = .free → ∃ c, X.env.cells.lookup y.1 = some c := fun y hy e => by
    rcases S.free y hy e with k | k
    · exact I.ok.has _ (.inl k)
    · exact I.ok.has _ (.inr k)
  refine wpAny_GeneratorExp_make S.co (closure_ok hfree) S.cell S.dot S.kind (by have := hr.dp; omega) (thn (hi.run pins s σ H _ I h) fun xv s1 hx => thn hx fun itv s2 h2 => ?_) hs
  obtain ⟨it, fp, tn, J, H2, e, I2, T, st2, f2, hP, q⟩ := h2
  subst e
  obtain ⟨⟨ps, hPs, ht⟩, _, _⟩ := I2.hok P _ hP
  have hPlt : P < s2.heap.objs.size := Heap.lt_size hPs
  have cd : PySem.W.CodeHd s2.heap c P := TB.code.keeps fun b u e => I2.bk b u e
  have cont : ∀ (code : Value) (h3 : Heap) (tk : Nat), Heap.ExtBut P s2.heap h3 → s2.heap.objs.size ≤ h3.objs.size → tabPhi P h3 →
      wpAny (model X.prog X.w) X.A (builtinsFor X.env.globals X.env.builtins) (fun bi s₄ =>
        ∀ h', h'.Ns s₄.heap.objs.size (fun y => if y = ".0" then some (.ref it) else none) → Heap.SameBut s₄.heap.objs.size (s₄.heap.push { cls := .type "frame", data := .dict #[] }) h' →
          Q' (.ref h'.objs.size) { s₄ with
            gens := s₄.gens.push (.fresh (.compStart (.GeneratorExp elt [⟨tg, iter, [], 0⟩] scope gpos) 0 (.ref it) .none (genEnv scope (cloFrom X.env.cells scope.names []) s₄.heap.objs.size code bi X.env))),
            toks := s₄.toks + 1 + 1 + 1,
            heap := h'.push { cls := .type "generator", data := .fields #[.int s₄.gens.size 0, .str "<genexpr>" (s₄.toks + 1), .str (X.env.qual ++ "<genexpr>") (s₄.toks + 1 + 1)] } }) X.xe { s2 with heap := h3, toks := tk } := by
    intro code h3 tk hx hsz hp3
    obtain ⟨bm, ob, e1, e2, e3, e4, e5, e6, e7, e8⟩ := TB.bm
    have keep3 : ∀ b u, b ≠ P → s2.heap.get? b = some u → h3.get? b = some u := fun b u hb e => hx b u hb e
    refine wpAny_builtinsFor (m := X.mg) (by rw [I2.ok.glob]; exact (I2.mod.glob.keeps I2.bk).extBut hx TB.gP) e1 e2 (keep3 _ _ e4 (I2.bk _ _ e5)) e6 e7 e8 ?_
    intro h' hn' hs'
    have hn' : h'.Ns h3.objs.size (fun y => if y = ".0" then some (.ref it) else none) := hn'
    have hs' : Heap.SameBut h3.objs.size (h3.push { cls := .type "frame", data := .dict #[] }) h' := hs'
    have hsz' : h'.objs.size = h3.objs.size + 1 := by rw [hs'.1, Heap.size_push]
    have keep' : ∀ b o, h3.get? b = some o → h'.get? b = some o := fun b o e => hs'.extBut b o (Nat.ne_of_lt (Heap.lt_size e)) (Heap.get?_push_of_some _ e)
    generalize hgo : ({ cls := .type "generator", data := .fields #[.int s2.gens.size 0, .str "<genexpr>" (tk + 1), .str (X.env.qual ++ "<genexpr>") (tk + 1 + 1)] } : Obj) = go
    have hgen : ∀ h : Heap, h.get? h'.objs.size = some go → h.IsGen h'.objs.size s2.gens.size := fun h e => ⟨go, _, _, e, by rw [← hgo], by rw [← hgo], by rw [← hgo]⟩
    have hgd : ∀ v, go.data ≠ .cell v := fun v z => by rw [← hgo] at z; cases z
    have hself : (h'.push go).get? h'.objs.size = some go := Heap.get?_push_size _ (by rw [← hgo]; rfl)
    have keep5 : ∀ b o, b ≠ P → s2.heap.get? b = some o → (h'.push go).get? b = some o := fun b o hb e => Heap.get?_push_of_some _ (keep' b o (keep3 b o hb e))
    have phi5 : tabPhi P (h'.push go) := tab_stay _ _ hp3 fun o e => Heap.get?_push_of_some _ (keep' _ o e)
    have CP : fp = fp := rfl
    have hfo : ∀ b ∈ fp, ∃ o, s2.heap.get? b = some o := fun b hb => let ⟨o, e, _⟩ := T.obj _ _ st2 b hb; ⟨o, e⟩
    have fpP : ∀ b ∈ fp, b ≠ P := fun b hb z => by
      obtain ⟨f0, _⟩ := f2 b hb
      rw [z, hP] at f0
      cases f0
    refine hQ J H2 h'.objs.size _ q ?_
    refine ⟨s2.gens.size, go, _, hgen, Array.getElem?_push_size .., fun A hA hfr => ?_⟩
    have hAf : (A.over (.compLoop (.GeneratorExp elt [⟨tg, iter, [], 0⟩] scope gpos) 0 (.ref it) .none (genEnv scope (cloFrom X.env.cells scope.names []) h3.objs.size code builtinsNs X.env)) []).frames = some ((genEnv scope (cloFrom X.env.cells scope.names []) h3.objs.size code builtinsNs X.env) :: X.stack) := by
      show pushEnvs [(genEnv scope (cloFrom X.env.cells scope.names []) h3.objs.size code builtinsNs X.env)] (pushEnvs [] A.frames) = _
      rw [hfr]
      rfl
    have hAr : Room k' (A.over (.compLoop (.GeneratorExp elt [⟨tg, iter, [], 0⟩] scope gpos) 0 (.ref it) .none (genEnv scope (cloFrom X.env.cells scope.names []) h3.objs.size code builtinsNs X.env)) []) := by
      refine ⟨hA.hd, ?_, ?_⟩
      · have := hA.dp
        show A.depth + 1 + 3 * k' + 5 < _
        omega
      · have := hA.un
        show A.units + 3 + 16 * k' + 200 < _
        omega
    have I5 := inv_genV (s5 := { s2 with gens := s2.gens.push (.fresh (.compStart (.GeneratorExp elt [⟨tg, iter, [], 0⟩] scope gpos) 0 (.ref it) .none (genEnv scope (cloFrom X.env.cells scope.names []) h3.objs.size code builtinsNs X.env))), toks := tk + 1 + 1 + 1, heap := h'.push go }) (code := code) (it := .ref it) (A := A.over (.compLoop (.GeneratorExp elt [⟨tg, iter, [], 0⟩] scope gpos) 0 (.ref it) .none (genEnv scope (cloFrom X.env.cells scope.names []) h3.objs.size code builtinsNs X.env)) []) (a := h'.objs.size)
      I2 S hP f2 hfo hAf hAr.hd hsz (by rw [hsz']; exact Nat.lt_succ_self _) rfl (I2.bare.push rfl) keep5 phi5 (hn'.push _) hself hgd
    refine ⟨gcx X s2 H2 (xs ++ ns.map (·.1)) (genEnv scope (cloFrom X.env.cells scope.names []) h3.objs.size code builtinsNs X.env) fp (A.over (.compLoop (.GeneratorExp elt [⟨tg, iter, [], 0⟩] scope gpos) 0 (.ref it) .none (genEnv scope (cloFrom X.env.cells scope.names []) h3.objs.size code builtinsNs X.env)) []), rfl, rfl, fun H' s' J' => inv_back I2 f2 J', I5, fun L Pv Ye step stop s' H' I' un pv => ⟨rfl, ?_⟩⟩
    refine seg_gstartV (G := gcx X s2 H2 (xs ++ ns.map (·.1)) (genEnv scope (cloFrom X.env.cells scope.names []) h3.objs.size code builtinsNs X.env) fp (A.over (.compLoop (.GeneratorExp elt [⟨tg, iter, [], 0⟩] scope gpos) 0 (.ref it) .none (genEnv scope (cloFrom X.env.cells scope.names []) h3.objs.size code builtinsNs X.env)) [])) (fp := fp) (tn := tn) (J := J) rfl rfl rfl rfl rfl (S.co) T ?_ ?_ (fun b hb z => ?_) step stop s' s' H' I' ?_ (fun b hb => let ⟨o, e⟩ := hfo b hb; (un b o ((f2 b hb).1) (keep5 b o (fpP b hb) e)).1) pv
    · exact hg s2 H2 h3.objs.size code fp _
    · exact he s2 H2 h3.objs.size code fp (A.over (.compLoop (.GeneratorExp elt [⟨tg, iter, [], 0⟩] scope gpos) 0 (.ref it) .none (genEnv scope (cloFrom X.env.cells scope.names []) h3.objs.size code builtinsNs X.env)) []) hAr
    · obtain ⟨o, e⟩ := hfo b hb
      have h1 := Heap.lt_size e
      rw [← z, hsz'] at h1
      have h1' : h3.objs.size + 1 < s2.heap.objs.size := h1
      omega
    · exact T.keep _ _ _ st2 fun b hb o e => (un b o ((f2 b hb).1) (keep5 b o (fpP b hb) e)).2
  refine ⟨I2.nolimit, ?_⟩
  cases hf : codeAmong gpos ps.toList with
  | none =>
    refine wpAny_genexprCodeX hcode (cd.code hPs ht) (cd.tab hPs) hf fun c' h' tk hx hge hlt hco' _ htab' _ => ?_
    obtain ⟨o1, vs, f1, tf, fl, tg, inF, tx, tt, op, _, _, _, _, _, _, _, _, _, htr, _⟩ := hco'
    exact cont _ h' tk hx (Nat.le_trans hge (Nat.le_of_lt hlt)) ⟨_, htab'.2, htr⟩
  | some cv =>
    refine wpAny_genexprCode_hit hcode (cd.code hPs ht) hf ?_
    exact cont cv s2.heap s2.toks (Heap.ExtBut.refl _ _) (Nat.le_refl _) ⟨ps, hPs, ht⟩

end
end Gx
end

section
set_option Elab.async false
set_option linter.all false
set_option maxRecDepth 100000
set_option maxHeartbeats 4000000
/-! sum(..) of a generator expression. -/
namespace Gx
open PySem PySem.Spec PyProof.Rows L2 GxR
theorem codeAny_sumG {A0 : Around} {a S : Addr} {g : Nat} {go : Obj} {G : Cx} {σ0 : L2.St} {L : Nat} {Pv : Nat → Hp → Prop} {Ye : Nat → V → Hp → Prop} {val : Nat → Int} {R' : Result → Shared → Prop} {prog : Program} {w : World}
    (hG : G.prog = prog ∧ G.w = w) (hh : A0.handled = none) (hroom : A0.depth < recursionLimit) (hgen : ∀ h : Heap, h.get? a = some go → h.IsGen a g)
    (hYe : ∀ i y H, i < L → Ye i y H → y = .int (val i) ∧ H S = some (.lst [.int (preSum val i)]) ∧ Pv (i + 1) (upd H S (.lst [.int (preSum val (i + 1))])))
    (hdone : ∀ H s t, Inv G [(a, go)] σ0 H s → Pv L H → R' (.ok (.ret (.int (preSum val L) t))) s) :
    ∀ (k i : Nat) (s : Shared) (gs : GenState) (stage : Int), (stage = 0 ∨ stage = 2) → L - i = k → i ≤ L → (∃ H, Inv G [(a, go)] σ0 H s ∧ H S = some (.lst [.int (preSum val i)])) → s.gens[g]? = some gs →
      (∀ s', s'.heap = s.heap → s'.os = s.os → AllBare s'.gens → gs.Goes (model prog w) A0.in1.in1 (fun n s₀ r s₁ => r = .ok .next ∧ GEndV G a go σ0 L Pv n s₀ s₁) (GYldV G a go σ0 L Pv Ye) (L - i + 1) (.send .none) s') →
      codeAny (model prog w) A0 (.builtin "sum.loop" ⟨[.ref a, .ref S, rawInt stage, rawInt 0], []⟩) R' s := by
  have pin : ∀ {H : Hp} {σ : L2.St} {s : Shared}, Inv G [(a, go)] σ H s → s.heap.IsGen a g := fun I => hgen _ (I.pin (a, go) (List.mem_append_right _ (List.mem_singleton.mpr rfl))).1
  have at1 : ∀ {H : Hp} {σ : L2.St} {s : Shared} {n : Int}, Inv G [(a, go)] σ H s → H S = some (.lst [.int n]) → ∃ (t : Tok) (c : Nat), s.heap.get? S = some { cls := .type "list", data := .seq [Value.int n t].toArray c } := fun I hS => by
    obtain ⟨z, its, c, r, hl, e⟩ := I.lstM hS
    obtain ⟨u, rfl, ru⟩ := r.one
    obtain ⟨t, rfl⟩ := ru
    exact ⟨t, c, e⟩
  intro k
  induction k with
  | zero =>
    intro i s gs stage hstage hk hi ⟨H, I, hS⟩ hgs hgo
    have hin : i = L := by omega
    subst hin
    obtain ⟨tA, c, eS⟩ := at1 I hS
    refine codeAny_builtin F.entry_sum_loop ?_
    rw [Around.under_plainId F.plain_sum_loop _]
    show wpAny _ A0.in1 (seqItems? (.ref S) >>= _) _ _ s
    refine wpAny_bind (wpAny_seqItems eS rfl ?_)
    show wpAny _ A0.in1 (tryCatch (pyNext (.ref a)) _ >>= _) _ _ s
    refine wpAny_bind (wpAny_tryCatch (wpAny_pyNext_genexpQ (n := i - i + 1) (P := GEndV G a go σ0 i Pv) hh I.nolimit hroom (pin I) hgs (hgo _ rfl rfl (bare_set I.bare rfl)) (fun v s₁ gs' hb hv => ?_) (fun s₁ hp h' hk => ?_)))
    · obtain ⟨j, y, H2, hl, hj, _⟩ := hv
      have hj' : i - i + 1 - 1 + j = i := hj
      omega
    · obtain ⟨_, H2, I2, pv⟩ := hp
      refine wpAny_pure ?_
      exact hdone H2 _ tA (inv_same ((inv_same I2 rfl rfl (s' := s₁.setGen g .finished) (bare_set I2.bare rfl)).kept (t' := s₁.toks) hk) rfl rfl (bare_set I2.bare rfl)) pv
  | succ k ih =>
    intro i s gs stage hstage hk hi ⟨H, I, hS⟩ hgs hgo
    have hlt : i < L := by omega
    obtain ⟨tA, c, eS⟩ := at1 I hS
    refine codeAny_builtin F.entry_sum_loop ?_
    rw [Around.under_plainId F.plain_sum_loop _]
    show wpAny _ A0.in1 (seqItems? (.ref S) >>= _) _ _ s
    refine wpAny_bind (wpAny_seqItems eS rfl ?_)
    show wpAny _ A0.in1 (tryCatch (pyNext (.ref a)) _ >>= _) _ _ s
    have hsz : g + 1 ≤ s.gens.size := (Array.getElem?_eq_some_iff.mp hgs).1
    refine wpAny_bind (wpAny_tryCatch (GenW.wpAny_gsz hsz (wpAny_pyNext_genexpQ (n := L - i + 1) (P := GEndV G a go σ0 L Pv) hh I.nolimit hroom (pin I) hgs (hgo _ rfl rfl (bare_set I.bare rfl)) (fun v s₁ gs' hb hv => ?_) (fun s₁ hp h' hk => ?_))))
    · obtain ⟨j, y, H2, hl, hj, r2, I2, ye, kap⟩ := hv
      have hj' : L - i + 1 - 1 + j = L := hj
      have hji : j = i := by omega
      subst hji
      obtain ⟨ey, hS2, pv⟩ := hYe j y H2 hlt ye
      subst ey
      obtain ⟨t, ev⟩ := r2
      subst ev
      intro hz
      rw [GenW.setGen_size] at hz
      have I3 : Inv G [(a, go)] σ0 H2 (s₁.setGen g gs') := inv_same I2 rfl rfl (bare_set I2.bare hb)
      obtain ⟨tB, c2, eS2⟩ := at1 I3 hS2
      -- what follows the write
      have next : ∀ (tk tok : Nat) (stage : Int), (stage = 0 ∨ stage = 2) →
          codeAny (model prog w) A0 (.builtin "sum.loop" ⟨[.ref a, .ref S, rawInt stage, rawInt 0], []⟩) R' { (s₁.setGen g gs') with heap := (s₁.setGen g gs').heap.update S (Obj.mapSeq fun _ => #[Value.int (preSum val j + val j) tk]), toks := tok } := by
        intro tk tok stage hstage
        have I4 := I3.lset (ys := [.int (preSum val (j + 1))]) (its' := [Value.int (preSum val j + val j) tk]) (f := fun _ => #[Value.int (preSum val j + val j) tk]) (t' := tok) hS2 eS2 (by simp) (.cons ⟨tk, rfl⟩ .nil) (by rw [sizeLine_eq]; exact Nat.le_of_ble_eq_true rfl)
        refine ih (j + 1) _ gs' stage hstage (by omega) hl ⟨_, I4, upd_same⟩ (setGen_at hz) fun s' eh eo eb => ?_
        have e : L - j = L - (j + 1) + 1 := by omega
        have := kap s' (upd H2 S (.lst [.int (preSum val (j + 1))])) (inv_same I4 eh eo eb) (fun b o hb ho => ?_) pv
        · rw [e] at this
          exact this
        · have hbS : b ≠ S := fun z => by rw [z, hS2] at hb; cases hb
          refine ⟨by rw [upd_ne hbS]; exact hb, ?_⟩
          rw [eh]
          exact (Heap.get?_update_other _ _ (Ne.symm hbS)).trans ho
      -- the twice written
      have next2 : ∀ (tk tok : Nat) (stage : Int), (stage = 0 ∨ stage = 2) →
          codeAny (model prog w) A0 (.builtin "sum.loop" ⟨[.ref a, .ref S, rawInt stage, rawInt 0], []⟩) R' { (s₁.setGen g gs') with heap := ((s₁.setGen g gs').heap.update S (Obj.mapSeq fun _ => #[Value.int (preSum val j + val j) tk])).update S (Obj.mapSeq fun _ => #[Value.int (preSum val j + val j) tk]), toks := tok } := by
        intro tk tok stage hstage
        have I4 := I3.lset (ys := [.int (preSum val (j + 1))]) (its' := [Value.int (preSum val j + val j) tk]) (f := fun _ => #[Value.int (preSum val j + val j) tk]) (t' := tok) hS2 eS2 (by simp) (.cons ⟨tk, rfl⟩ .nil) (by rw [sizeLine_eq]; exact Nat.le_of_ble_eq_true rfl)
        obtain ⟨z5, its5, c5, r5, hl5, e5⟩ := I4.lstM upd_same
        have I5 := I4.lset (ys := [.int (preSum val (j + 1))]) (its' := [Value.int (preSum val j + val j) tk]) (f := fun _ => #[Value.int (preSum val j + val j) tk]) (t' := tok) upd_same e5 (by simp) (.cons ⟨tk, rfl⟩ .nil) (by rw [sizeLine_eq]; exact Nat.le_of_ble_eq_true rfl)
        rw [upd_upd] at I5
        refine ih (j + 1) _ gs' stage hstage (by omega) hl ⟨_, I5, upd_same⟩ (setGen_at hz) fun s' eh eo eb => ?_
        have e : L - j = L - (j + 1) + 1 := by omega
        have := kap s' (upd H2 S (.lst [.int (preSum val (j + 1))])) (inv_same I5 eh eo eb) (fun b o hb ho => ?_) pv
        · rw [e] at this
          exact this
        · have hbS : b ≠ S := fun z => by rw [z, hS2] at hb; cases hb
          refine ⟨by rw [upd_ne hbS]; exact hb, ?_⟩
          rw [eh]
          exact (Heap.get?_update_other _ _ (Ne.symm hbS)).trans ((Heap.get?_update_other _ _ (Ne.symm hbS)).trans ho)
      rcases hstage with rfl | rfl
      · show wpAny _ A0.in1 (if (_ : Bool) = true then (mkInt (preSum val j + val j) >>= _) else _) _ _ _
        split
        · refine wpAny_bind (wpAny_mkInt ?_)
          show wpAny _ A0.in1 (updateSeq S (fun _ => #[.int (preSum val j + val j) _]) >>= _) _ _ _
          refine wpAny_bind ?_
          refine wpAny_updateSeq eS2 rfl (wpAny_pure ⟨plainId_quiet F.plain_sum_loop _, ?_⟩)
          exact next _ _ 0 (Or.inl rfl)
        · refine wpAny_bind (wpAny_rule ?_)
          refine wpAny_bind (wpAny_attempt (wpAny_holding (PySem.P.add_int ?_)))
          show wpAny _ A0.in1 (updateSeq S (fun _ => #[.int (preSum val j + val j) _]) >>= _) _ _ _
          refine wpAny_bind ?_
          refine wpAny_updateSeq eS2 rfl ?_
          have hS3 := Heap.get?_update_self (Obj.mapSeq fun _ => #[Value.int (preSum val j + val j) (s₁.setGen g gs').toks]) eS2 rfl
          refine wpAny_bind (wpAny_letGo ?_)
          refine wpAny_bind ?_
          refine wpAny_updateSeq hS3 rfl (wpAny_pure ⟨plainId_quiet F.plain_sum_loop _, ?_⟩)
          exact next2 _ _ 2 (Or.inr rfl)
      · show wpAny _ A0.in1 ((holding [Value.int (val j) t] (binaryOp .Add (.int (preSum val j) tA) (.int (val j) t))).attempt >>= _) _ _ _
        refine wpAny_bind (wpAny_attempt (wpAny_holding (PySem.P.add_int ?_)))
        show wpAny _ A0.in1 (updateSeq S (fun _ => #[.int (preSum val j + val j) _]) >>= _) _ _ _
        refine wpAny_bind ?_
        refine wpAny_updateSeq eS2 rfl ?_
        have hS3 := Heap.get?_update_self (Obj.mapSeq fun _ => #[Value.int (preSum val j + val j) (s₁.setGen g gs').toks]) eS2 rfl
        refine wpAny_bind (wpAny_letGo ?_)
        refine wpAny_bind ?_
        refine wpAny_updateSeq hS3 rfl (wpAny_pure ⟨plainId_quiet F.plain_sum_loop _, ?_⟩)
        exact next2 _ _ 2 (Or.inr rfl)
    · obtain ⟨h0, _⟩ := hp
      have h0' : L - i + 1 = 1 := h0
      omega

/-- sum(elt for t in iter): the list S holds the sum so far -/
def rSumG (g : TG) (te : TE) (σ0 : L2.St) (Q : VK) : It → Hp → Prop := fun J H1 => ∃ (L : Nat) (val : Nat → Int), ∀ S, H1 S = none → ∃ Pv : Nat → Hp → Prop, Pv 0 (upd H1 S (.lst [.int 0])) ∧
  (∀ H, Pv L H → J.stop L H ∧ Q (.int (preSum val L)) H) ∧
  ∀ i H, i < L → Pv i H → J.go i H ∧ ∀ y H', J.yld i H y H' → g y σ0 H' fun σ1 H1' => Keep2 σ0 σ1 ∧ te σ1 H1' fun z H2 => z = .int (val i) ∧ H2 S = some (.lst [.int (preSum val i)]) ∧ Pv (i + 1) (upd H2 S (.lst [.int (preSum val (i + 1))]))
def tSumG (P : Addr) (wi : TI) (g : TG) (te : TE) (xs : List Str) (ns : List (Str × Nat)) : TE := fun σ H Q => wi σ H fun J H1 => H1 P = some (TabO P) ∧ rSumG g te (none0 xs ++ capsOf σ ns) Q J H1
section
variable {X : Cx}
theorem pe_sumG {c P : Addr} {elt iter tg : Expr} {xs : List Str} {p pos gpos : Pos} {scope : Scope} {ns : List (Str × Nat)} {wi : TI} {g : TG} {te : TE} {k' : Nat}
    (hr : Room (k' + 3) X.A) (hgl : Gl X "sum") (hm : X.mg "sum" = none) (TB : TabB X.base X.mg c P) (hcode : X.env.code = .ref c) (S : GOkV X.N X.env.scope scope xs ns) (hi : PI X tg iter wi)
    (hg : ∀ (s : Shared) (H : Hp) (C : Addr) (code : Value) (fp : List Addr) (A : Around), PG (gcx X s H (xs ++ ns.map (·.1)) (genEnv scope (cloFrom X.env.cells scope.names []) C code builtinsNs X.env) fp A) tg g)
    (he : ∀ (s : Shared) (H : Hp) (C : Addr) (code : Value) (fp : List Addr) (A : Around), Room k' A → PE (gcx X s H (xs ++ ns.map (·.1)) (genEnv scope (cloFrom X.env.cells scope.names []) C code builtinsNs X.env) fp A) elt te)
    (hs : ∀ v, genFold iter X.env v = pure v := by intro _; rfl) (hb : bootBuiltins "sum" = some (.builtin "sum") := by decide +kernel)
    (hst : starEach [.GeneratorExp elt [⟨tg, iter, [], 0⟩] scope gpos] X.env = (false, eval (.GeneratorExp elt [⟨tg, iter, [], 0⟩] scope gpos) X.env) :: starEach [] X.env := by rfl) :
    PE X (.Call (.Name "sum" p) [.GeneratorExp elt [⟨tg, iter, [], 0⟩] scope gpos] [] pos) (tSumG P wi g te xs ns) := by
  refine ⟨fun pins s σ H Q I h => ?_⟩
  refine wpAny_Call_Name_kw (ld_blt I hgl hm hb ?_)
  refine PyProof.Rows.callWith_builtin1 ?_ hst (by rfl)
  rw [hst]
  show wpAny _ _ (spliced ((false, eval (.GeneratorExp elt [⟨tg, iter, [], 0⟩] scope gpos) X.env) :: backTo pos (starEach [] X.env))) _ _ s
  refine Calls.spliced_cons (gen_madeV (R := rSumG g te (none0 xs ++ capsOf σ ns) Q) hr TB hcode S hi hg he hs I h fun J H1 a s5 hR hG => ?_)
  obtain ⟨gi, go, c5, hgen, hgs, hA⟩ := hG
  have hr1 : Room (k' + 1) X.A.in1.in1 := hr.in1.in1
  obtain ⟨G, hG1, hG2, back, I5, goes⟩ := hA X.A.in1.in1 hr1 (by rw [show X.A.in1.in1.frames = X.A.frames from rfl]; exact I.ok.frames)
  obtain ⟨L, val, hR⟩ := hR
  refine Calls.spliced_nil ?_
  refine call_function_tree F.kind_sum F.plain_sum F.entry_sum (F.args_sum1 _) ?_
  unfold Builtin.«sum»
  simp only [List.length_cons, List.length_nil]
  rw [if_neg (by decide)]
  refine wpAny_bind (wpAny_of_eq (show Builtin.Builtins.bindParams "sum" ["start"] 0 { } = pure [none] from rfl) ?_)
  refine wpAny_bind (wpAny_pyIter_gen (hgen _ (I5.pin (a, go) (List.mem_append_right _ (List.mem_singleton.mpr rfl))).1) ?_)
  refine wpAny_bind (wpAny_mkInt ?_)
  refine wpAny_bind (wpAny_pure ?_)
  simp only [List.forIn_cons, List.forIn_nil]
  refine wpAny_bind (wpAny_bind (wpAny_bind (wpAny_isInstance (T := "int") (b := false) (typeIs_int _ _ _) PySem.sub_int_str ?_)))
  simp only [Bool.false_eq_true, if_false]
  refine wpAny_pure (wpAny_bind (wpAny_bind (wpAny_isInstance (T := "int") (b := false) (typeIs_int _ _ _) PySem.sub_int_bytes ?_)))
  simp only [Bool.false_eq_true, if_false]
  refine wpAny_pure (wpAny_bind (wpAny_bind (wpAny_isInstance (T := "int") (b := false) (typeIs_int _ _ _) PySem.sub_int_bytearray ?_)))
  simp only [Bool.false_eq_true, if_false]
  refine wpAny_pure (wpAny_pure ?_)
  refine wpAny_bind (wpAny_newObj_type ?_)
  refine wpAny_pure ⟨plainId_quiet F.plain_sum_loop _, ?_⟩
  obtain ⟨Pv, p0, hstop, hstep⟩ := hR s5.heap.objs.size I5.fresh
  have I6 := I5.lnew (ys := [.int 0]) (its := [Value.int 0 s5.toks]) (t' := s5.toks + 1) (.cons ⟨_, rfl⟩ .nil) (by rw [sizeLine_eq]; exact Nat.le_of_ble_eq_true rfl)
  refine codeAny_sumG (G := G) (L := L) (Pv := Pv) (val := val) (Ye := fun i z H2 => z = .int (val i) ∧ H2 s5.heap.objs.size = some (.lst [.int (preSum val i)]) ∧ Pv (i + 1) (upd H2 s5.heap.objs.size (.lst [.int (preSum val (i + 1))])))
    ⟨hG1, hG2⟩ hr.hd (by have := hr.dp; show X.A.depth < recursionLimit; omega) hgen (fun i y H _ h => h) (fun H' s' t J' q => ?_) L 0 _ (.fresh c5) 0 (Or.inl rfl) rfl (Nat.zero_le _) ⟨_, I6, upd_same⟩ hgs
    (fun s' eh eo eb => goes L Pv _ (fun i H' hi hp => hstep i H' hi hp) (fun H' hp => (hstop H' hp).1) s' _ (inv_same I6 eh eo eb) (fun b o hb ho => ?_) p0)
  · exact ⟨.int (preSum val L), H', back H' s' J', ⟨t, rfl⟩, (hstop H' q).2⟩
  · have hbS : b ≠ s5.heap.objs.size := Nat.ne_of_lt (Heap.lt_size ho)
    refine ⟨by rw [upd_ne hbS]; exact hb, ?_⟩
    rw [eh]
    exact Heap.get?_push_of_some _ ho
end
end Gx
end

section
set_option Elab.async false
set_option linter.all false
set_option maxRecDepth 100000
set_option maxHeartbeats 4000000
/-! A set comprehension of ints, and its size. -/
namespace Gx
open PySem PySem.Spec PyProof.Rows L2 GxR
def memK (val : Nat → Int) : Nat → Key → Bool
  | 0 => fun _ => false
  | i + 1 => fun j => memK val i j || decide (j = .inl (val i))
def cntK (val : Nat → Int) : Nat → Nat
  | 0 => 0
  | i + 1 => if memK val i (.inl (val i)) = true then cntK val i else cntK val i + 1
theorem cntK_le (val : Nat → Int) : ∀ i, cntK val i ≤ i
  | 0 => Nat.le_refl _
  | i + 1 => by
    have := cntK_le val i
    unfold cntK
    split <;> omega
theorem memK_iff (val : Nat → Int) (k : Int) : ∀ i, memK val i (.inl k) = true ↔ ∃ j, j < i ∧ val j = k
  | 0 => by
    constructor
    · intro h; cases h
    · rintro ⟨j, h, _⟩; omega
  | i + 1 => by
    have ih := memK_iff val k i
    show (memK val i (.inl k) || decide ((.inl k : Key) = .inl (val i))) = true ↔ _
    rw [Bool.or_eq_true, decide_eq_true_eq, ih]
    constructor
    · rintro (⟨j, h, e⟩ | e)
      · exact ⟨j, by omega, e⟩
      · exact ⟨i, by omega, (Sum.inl.inj e).symm⟩
    · rintro ⟨j, h, e⟩
      by_cases hj : j = i
      · subst hj; exact .inr (by rw [e])
      · exact .inl ⟨j, by omega, e⟩
/-- as many as there are items: all differ -/
theorem cntK_eq (val : Nat → Int) : ∀ i, cntK val i = i ↔ ∀ j, j < i → memK val j (.inl (val j)) = false
  | 0 => ⟨fun _ j h => by omega, fun _ => rfl⟩
  | i + 1 => by
    have hle := cntK_le val i
    have ih := cntK_eq val i
    show (if memK val i (.inl (val i)) = true then cntK val i else cntK val i + 1) = i + 1 ↔ _
    constructor
    · intro h j hj
      split at h
      · omega
      · by_cases e : j = i
        · subst e; exact Bool.eq_false_iff.mpr ‹¬ _›
        · exact ih.mp (by omega) j (by omega)
    · intro h
      rw [if_neg (by rw [h i (by omega)]; decide), ih.mpr fun j hj => h j (by omega)]
def rScK (P : Program) (w : World) (g : TG) (te : TE) (σw : L2.St) (Q : VK) : It → Hp → Prop := fun J H1 => ∃ (L : Nat) (val : Nat → Int), L + 1 < scanBound ∧ ∀ D, H1 D = none → ∃ Pv : Nat → Hp → Prop, Pv 0 (upd H1 D (SetK P w D (memK val 0) (cntK val 0))) ∧
  (∀ H, Pv L H → J.stop L H ∧ Q (.ref D) H) ∧
  ∀ i H, i < L → Pv i H → J.go i H ∧ ∀ y H', J.yld i H y H' → g y σw H' fun σ1 H1' => (σ1.length = σw.length ∧ ∀ (j : Nat) (v : V), σw[j]? = some (some v) → σ1[j]? = some (some v)) ∧ te σ1 H1' fun z H2 => z = .int (val i) ∧ H2 D = some (SetK P w D (memK val i) (cntK val i)) ∧ Pv (i + 1) (upd H2 D (SetK P w D (memK val (i + 1)) (cntK val (i + 1))))
def tScK (P : Program) (w : World) (wi : TI) (g : TG) (te : TE) (vs : List Nat) : TE := fun σ H Q => wi σ H (rScK P w g te (wipe σ vs) Q)
section
variable {X : Cx}
theorem addK_ok {pins : List (Addr × Obj)} {σ : L2.St} {H : Hp} {s : Shared} {E : Value → Shared → Prop} {D : Addr} {S : Key → Bool} {n : Nat} {y : Int} {u : Value} {Q : Value → Shared → Prop} (I : Inv X pins σ H s) (ru : RelV (.int y) u) (hD : H D = some (SetK X.prog X.w D S n)) (room : n + 1 < scanBound)
    (h : ∀ s', Inv X pins σ (upd H D (SetK X.prog X.w D (fun j => S j || decide (j = .inl y)) (if S (.inl y) = true then n else n + 1))) s' → Q .none s') : wpAny (model X.prog X.w) X.A (call (.builtin "set.add") [.ref D, u]) Q E s := by
  have rk : RelV (kV (.inl y)) u := ru
  refine call_set_add (kV_is rk) (key_scan rk) (setK_get I hD) room fun h' sb new => h _ ?_
  obtain ⟨o, _, _, _, ho, _⟩ := id new
  exact I.write (e := D) (t' := s.toks + 1) (by rw [hD]; exact trivial) (.inl rfl) (fun b v hb hv => (sb.2 b hb).trans hv) ⟨o, ho⟩ (setK_new new)
theorem setK_fresh {P : Program} (w : World) {h : Heap} : (h.push { cls := .type "set", dict := none, data := .set #[] 0 (.fresh 0 0 (!w.params.followText "set-order")) }).SetOf (mixKind P w) h.objs.size (fun _ => false) 0 :=
  ⟨_, #[], 0, _, Heap.get?_push_size _ rfl, ⟨rfl, rfl, rfl⟩, rfl, (fun e he => by simp at he), (fun k => by simp), (by decide), (by rfl), rfl⟩
theorem pe_scK {elt tg iter : Expr} {scope : Scope} {own : List (PySem.Str × Nat)} {pos : Pos} {wi : TI} {g : TG} {te : TE} (hc : X.calm = true) (hN : X.N.Nodup) (hi : PI X tg iter wi) (ok : BlkOk X.N X.env.scope scope own)
    (hg : ∀ (s : Shared) (H : Hp) (C : Addr) (cl : List (PySem.Str × Addr)) (fp : List Addr), PG (X.blk s H scope (compEnvC scope cl C X.env) fp) tg g)
    (he : ∀ (s : Shared) (H : Hp) (C : Addr) (cl : List (PySem.Str × Addr)) (fp : List Addr), PE (X.blk s H scope (compEnvC scope cl C X.env) fp) elt te) (hs : ∀ x, foldedSetIterable iter X.env x = pure x := by intro _; rfl) :
    PE X (.SetComp elt [⟨tg, iter, [], 0⟩] scope pos) (tScK X.prog X.w wi g te (own.map (·.2))) := by
  refine ⟨fun pins s σ H Q I h => ?_⟩
  rw [PpSet.eval_SetComp]
  have hclo : ∀ y ∈ scope.names, y.2 = .free → ∃ c, X.env.cells.lookup y.1 = some c := fun y hy e =>
    (ok.free y hy e).elim (fun k => I.ok.has _ (.inl k)) fun k => I.ok.has _ (.inr k)
  refine wpAny_comprehension_free (use := none) rfl hs (closure_ok hclo) ok.kind (fun y hy e => (ok.uniq y hy).trans (by rw [e])) (thn (hi.run pins s σ H _ I h) fun xv s1 hx => thn hx fun itv s2 h2 => ?_)
  obtain ⟨it, fp, tn, J, H2, rfl, I2, T, st2, f2, L, val, hL, q⟩ := h2
  refine PpSet.newSet_ok (newEnv_comp ?_)
  obtain ⟨Pv, p0, hstop, hstep⟩ := q s2.heap.objs.size I2.fresh
  generalize hD : s2.heap.objs.size = D at p0 hstop hstep ⊢
  have fpD : ∀ b ∈ fp, b < D := fun b hb => by
    obtain ⟨o, e, _⟩ := T.obj _ _ st2 b hb
    rw [← hD]
    exact Heap.lt_size e
  generalize hs3 : ({ s2 with heap := s2.heap.push { cls := .type "set", dict := none, data := .set #[] 0 (.fresh 0 0 (!X.w.params.followText "set-order")) } } : Shared) = s3
  have heap3 : s3.heap = s2.heap.push { cls := .type "set", dict := none, data := .set #[] 0 (.fresh 0 0 (!X.w.params.followText "set-order")) } := by rw [← hs3]
  have old3 : ∀ b o, s2.heap.get? b = some o → s3.heap.get? b = some o := fun b o e => by rw [heap3]; exact Heap.get?_push_of_some _ e
  have I3 : Inv X pins σ (upd H2 D (SetK X.prog X.w D (memK val 0) (cntK val 0))) s3 := by
    rw [← hs3, ← hD]
    exact I2.laid (t' := s2.toks) (fun b o e => Heap.get?_push_of_some _ e) (Nat.le_refl _) (setK_new (setK_fresh X.w))
  have ok3 : ∀ b ∈ fp, FpOk X pins (upd H2 D (SetK X.prog X.w D (memK val 0) (cntK val 0))) b ∧ b < s3.heap.objs.size := fun b hb => by
    refine ⟨⟨(upd_ne (Nat.ne_of_lt (fpD b hb))).trans (f2 b hb).1, (f2 b hb).2⟩, ?_⟩
    rw [heap3, Heap.size_push, hD]
    exact Nat.lt_succ_of_lt (fpD b hb)
  generalize upd H2 D (SetK X.prog X.w D (memK val 0) (cntK val 0)) = H3 at I3 p0 ok3
  have B3 := block_start I3 ok hN ok3
  have pg := hg s3 H3 s3.heap.objs.size (cellsFrom (s3.heap.objs.size + 1) scope.names (cloFrom X.env.cells scope.names [])) fp
  have pe := he s3 H3 s3.heap.objs.size (cellsFrom (s3.heap.objs.size + 1) scope.names (cloFrom X.env.cells scope.names [])) fp
  show codeAny _ _ (.compStart (.SetComp elt [⟨tg, iter, [], 0⟩] scope pos) 0 (.ref it) (.ref D) (compEnvC scope (cellsFrom (s3.heap.objs.size + 1) scope.names (cloFrom X.env.cells scope.names [])) s3.heap.objs.size X.env)) (compPost (model X.prog X.w) X.A X.xe none _ (.ref D) s3.heap.objs.size) { s3 with heap := pushCells (s3.heap.push { cls := .type "dict", data := .dict #[] }) scope.names }
  generalize hce : compEnvC scope (cellsFrom (s3.heap.objs.size + 1) scope.names (cloFrom X.env.cells scope.names [])) s3.heap.objs.size X.env = ce at B3 pg pe ⊢
  have cL : ce.locals = s3.heap.objs.size := by rw [← hce]; rfl
  generalize hs4 : ({ s3 with heap := pushCells (s3.heap.push { cls := .type "dict", data := .dict #[] }) scope.names } : Shared) = s4 at B3 ⊢
  have st4 : tn 0 s4.heap := T.keep _ _ _ st2 fun b _ o e => by
    rw [← hs4]
    exact pushCells_keeps _ _ _ _ (Heap.get?_push_of_some _ (old3 b o e))
  -- the iterator's objects, seen from the block
  have foot : ∀ {σ' : L2.St} {H' : Hp} {s' : Shared}, Inv (X.blk s3 H3 scope ce fp) [] σ' H' s' → (∀ b ∈ fp, H' b = none) → ∀ b ∈ fp, FpOk (X.blk s3 H3 scope ce fp) [] H' b := fun I' hn b hb => by
    have z := I'.ok.exf b hb
    exact ⟨hn b hb, z.1, I'.ok.exfs b hb, .inl hb, fun x c e => z.2 x c e, fun p hp => absurd (show p ∈ ([] : List (Addr × Obj)) ++ [] from hp) (by simp)⟩
  have turns : codeAny (model X.prog X.w) X.A (.compLoop (.SetComp elt [⟨tg, iter, [], 0⟩] scope pos) 0 (.ref it) (.ref D) ce) (compPost (model X.prog X.w) X.A X.xe none (fun v s' => EP X pins σ Q v s') (.ref D) s3.heap.objs.size) s4 := by
    refine PpSet.compLoopS_any (fun n s' => ∃ i H', n = L - i ∧ i ≤ L ∧ Inv (X.blk s3 H3 scope ce fp) [] (wipe σ (own.map (·.2))) H' s' ∧ tn i s'.heap ∧ (∀ b ∈ fp, H' b = none) ∧ Pv i H') ?_ L ⟨0, H3, rfl, Nat.zero_le _, B3, st4, fun b hb => (ok3 b hb).1.1, p0⟩
    rintro n s5 ⟨i, H5, rfl, hi, I5, st5, n5, p5⟩
    by_cases hlt : i < L
    · obtain ⟨go, step⟩ := hstep i H5 hlt p5
      refine thnF (T.item (X.blk s3 H3 scope ce fp) rfl rfl rfl hc i [] s5 _ H5 (fun _ _ => False) I5 (foot I5 n5) st5 go) fun r s6 ⟨u, hr, h6⟩ => ?_
      subst hr
      refine thnF h6 fun _ s7 ⟨x, H7, I7, r7, y7, st7, n7⟩ => ?_
      refine thnF (pg.run _ s7 _ H7 x u _ (I7.pinned (foot I7 n7) (T.obj _ _ st7)) r7 (step x H7 y7)) fun _ s8 ⟨σ8, H8, I8, kp, q8⟩ => ?_
      rw [List.forIn_nil]
      refine wpAny_pure ?_
      simp only [if_true]
      refine thnF (pe.run _ s8 σ8 H8 _ I8 q8) fun z s9 ⟨yv, H9, I9, r9, ey, hD9, p9⟩ => ?_
      subst ey
      refine addK_ok (X := X.blk s3 H3 scope ce fp) I9 r9 hD9 (by have := cntK_le val i; omega) fun s10 I10 => ?_
      have pinned : ∀ b ∈ fp, ∀ o, s7.heap.get? b = some o → s10.heap.get? b = some o ∧ upd H9 D (SetK X.prog X.w D (memK val (i + 1)) (cntK val (i + 1))) b = none := fun b hb o e =>
        have z := I10.pin (b, o) (List.mem_append_right _ (List.mem_append_right _ (mem_pinsAt hb e)))
        ⟨z.1, z.2.1⟩
      refine ⟨L - (i + 1), by omega, i + 1, _, rfl, hlt, (I10.unpinned (pins := [])).weak kp.1.symm kp.2, T.keep _ _ _ st7 fun b hb o e => (pinned b hb o e).1, fun b hb => ?_, p9⟩
      obtain ⟨o, e, _⟩ := T.obj _ _ st7 b hb
      exact (pinned b hb o e).2
    · have e : i = L := by omega
      subst e
      obtain ⟨stop, hQ⟩ := hstop H5 p5
      refine thnF (T.done (X.blk s3 H3 scope ce fp) rfl rfl rfl hc i [] s5 _ H5 (fun _ _ => False) I5 (foot I5 n5) st5 stop) fun r s6 ⟨hr, I6⟩ => ?_
      subst hr
      have I7 : Inv X pins σ H5 s6 := I3.call' (ch := fp) I6.os I6.base I6.hok I6.bare fun b hb => by
        have z := (ok3 b hb).1.2
        exact ⟨z.2.2.1, z.1, z.2.2.2.1, z.2.2.2.2⟩
      have nC : H5 s3.heap.objs.size = none := by rw [← cL]; exact I6.free
      obtain ⟨m, hn, _⟩ := I6.loc
      have hn' : s6.heap.Ns ce.locals m := hn
      rw [cL] at hn'
      obtain ⟨f0, f1, f2', f3, f4, f5⟩ := I3.fpOk (Nat.le_refl _) nC
      exact ⟨m, hn', fun h'' sb => ⟨.ref D, H5, I7.turned (t' := s6.toks) (fun b o hb e => (sb.2 b hb).trans e) f0 f1 f3 f4 f5, rfl, hQ⟩⟩
  exact PpSet.codeAny_compStart_set turns (T.self X.A 0 _ _ _ st4 turns)
/-- len of a set -/
theorem call_len_setK : CallR X (.builtin "len") (fun xs H Q => ∃ p S n, xs = [.ref p] ∧ H p = some (SetK X.prog X.w p S n) ∧ Q (.int n) H) := by
  intro pins s σ H xs us Q I r h
  obtain ⟨p, S, n, rfl, hp, q⟩ := h
  obtain ⟨u, rfl, rx⟩ := r.one
  cases rx
  obtain ⟨o, es, ep, t, ho, hex, hd, _, _, hb, hf, hn⟩ := setK_get I hp
  refine call_len_set ho hex hd hf (by have : scanBound ≤ 2 ^ 63 := by decide +kernel
                                       omega) ⟨.int n, H, I.tok _, ⟨s.toks + 1, by rw [hn]⟩, q⟩
end
end Gx
end

section
set_option linter.all false
set_option maxHeartbeats 1000000
/-! The mathematics of contents: common divisors, contents without one, top-ups. -/
namespace Ma
def gcdF (d : Nat) (ns : List Int) : Nat := ns.foldl (fun d n => Nat.gcd d n.natAbs) d
def gcdN (ns : List Int) : Nat := gcdF 0 ns
theorem dvd_gcdF {e : Nat} : ∀ (ns : List Int) (d : Nat), e ∣ gcdF d ns ↔ e ∣ d ∧ ∀ n ∈ ns, e ∣ n.natAbs
  | [], d => by simp [gcdF]
  | n :: r, d => by
    have h := dvd_gcdF (e := e) r (Nat.gcd d n.natAbs)
    show e ∣ gcdF (Nat.gcd d n.natAbs) r ↔ _
    rw [h, Nat.dvd_gcd_iff]
    constructor
    · rintro ⟨⟨a, b⟩, c⟩
      refine ⟨a, fun m hm => ?_⟩
      rcases List.mem_cons.mp hm with z | z
      · rw [z]; exact b
      · exact c m z
    · rintro ⟨a, b⟩
      exact ⟨⟨a, b n List.mem_cons_self⟩, fun m hm => b m (List.mem_cons_of_mem _ hm)⟩
theorem dvd_gcdN {e : Nat} {ns : List Int} : e ∣ gcdN ns ↔ ∀ n ∈ ns, e ∣ n.natAbs := by
  unfold gcdN
  rw [dvd_gcdF]
  exact ⟨fun h => h.2, fun h => ⟨Nat.dvd_zero e, h⟩⟩
theorem gcdF_take {ns : List Int} {i : Nat} {n : Int} (d : Nat) (h : ns[i]? = some n) : gcdF d (ns.take (i + 1)) = Nat.gcd (gcdF d (ns.take i)) n.natAbs := by
  rw [List.take_add_one, h]
  unfold gcdF
  rw [List.foldl_append]
  rfl
theorem gcdN_take {ns : List Int} {i : Nat} {n : Int} (h : ns[i]? = some n) : gcdN (ns.take (i + 1)) = Nat.gcd (gcdN (ns.take i)) n.natAbs := gcdF_take 0 h
theorem gcdN_dvd {ns : List Int} {n : Int} (h : n ∈ ns) : ((gcdN ns : Nat) : Int) ∣ n := by
  have := (dvd_gcdN (e := gcdN ns) (ns := ns)).mp (Nat.dvd_refl _) n h
  exact Int.ofNat_dvd_left.mpr this
/-- numbers from 0 on, not all 0 -/
structure Amt (ns : List Int) : Prop where
  nn : ∀ n ∈ ns, 0 ≤ n
  pos : 0 < ns.sum
structure Con (ns : List Int) : Prop where
  len : 0 < ns.length
  le8 : ns.length ≤ 8
  nn : ∀ n ∈ ns, 0 ≤ n
  g : gcdN ns = 1
theorem sum_nn : ∀ {ns : List Int}, (∀ n ∈ ns, 0 ≤ n) → 0 ≤ ns.sum
  | [], _ => by simp
  | n :: r, h => by
    rw [List.sum_cons]
    have h1 := h n List.mem_cons_self
    have h2 := sum_nn (ns := r) fun m hm => h m (List.mem_cons_of_mem _ hm)
    omega
theorem le_sum : ∀ {ns : List Int} {n : Int}, (∀ n ∈ ns, 0 ≤ n) → n ∈ ns → n ≤ ns.sum
  | [], _, _, h => by cases h
  | m :: r, n, h, hm => by
    rw [List.sum_cons]
    have h1 := h m List.mem_cons_self
    have hr : ∀ n ∈ r, 0 ≤ n := fun m hm => h m (List.mem_cons_of_mem _ hm)
    have h2 := sum_nn hr
    rcases List.mem_cons.mp hm with z | z
    · rw [z]; omega
    · have := le_sum hr z
      omega
theorem sum_zero {ns : List Int} (h : ∀ n ∈ ns, 0 ≤ n) (hs : ns.sum = 0) : ∀ n ∈ ns, n = 0 := fun n hn => by
  have := le_sum h hn
  have := h n hn
  omega
theorem gcdN_pos {ns : List Int} (h : Amt ns) : 0 < gcdN ns := by
  rcases Nat.eq_zero_or_pos (gcdN ns) with z | z
  · exfalso
    have h0 : ∀ n ∈ ns, n = 0 := fun n hn => by
      have := gcdN_dvd hn
      rw [z] at this
      exact Int.zero_dvd.mp this
    have : ns.sum = 0 := by
      clear h z
      induction ns with
      | nil => rfl
      | cons m r ih =>
        rw [List.sum_cons, h0 m List.mem_cons_self, ih fun n hn => h0 n (List.mem_cons_of_mem _ hn)]
        rfl
    have := h.pos
    omega
  · exact z
theorem Con.amt {ns : List Int} (h : Con ns) : Amt ns := by
  refine ⟨h.nn, ?_⟩
  have h1 := sum_nn h.nn
  by_cases z : ns.sum = 0
  · exfalso
    have h0 := sum_zero h.nn z
    have : 2 ∣ gcdN ns := dvd_gcdN.mpr fun n hn => by rw [h0 n hn]; exact ⟨0, rfl⟩
    rw [h.g] at this
    omega
  · omega
def plain (ns : List Int) : List Int := ns.map fun n => n / ((gcdN ns : Nat) : Int)
theorem plain_len (ns : List Int) : (plain ns).length = ns.length := List.length_map _
theorem plain_mul {ns : List Int} {n : Int} (h : n ∈ ns) : n / ((gcdN ns : Nat) : Int) * ((gcdN ns : Nat) : Int) = n := Int.ediv_mul_cancel (gcdN_dvd h)
theorem sum_div {g : Int} (hg : 0 < g) : ∀ {ns : List Int}, (∀ n ∈ ns, g ∣ n) → (ns.map fun n => n / g).sum * g = ns.sum
  | [], _ => by simp
  | n :: r, h => by
    rw [List.map_cons, List.sum_cons, List.sum_cons, Int.add_mul, sum_div hg (ns := r) fun m hm => h m (List.mem_cons_of_mem _ hm), Int.ediv_mul_cancel (h n List.mem_cons_self)]
theorem plain_sum {ns : List Int} (h : Amt ns) : (plain ns).sum * ((gcdN ns : Nat) : Int) = ns.sum := sum_div (by have := gcdN_pos h; omega) fun n hn => gcdN_dvd hn
theorem plain_con {ns : List Int} (h : Amt ns) (h1 : 0 < ns.length) (h8 : ns.length ≤ 8) : Con (plain ns) := by
  have hg := gcdN_pos h
  refine ⟨by rw [plain_len]; exact h1, by rw [plain_len]; exact h8, fun n hn => ?_, ?_⟩
  · obtain ⟨m, hm, e⟩ := List.mem_map.mp hn
    rw [← e]
    exact Int.ediv_nonneg (h.nn m hm) (Int.natCast_nonneg _)
  · have key : gcdN (plain ns) * gcdN ns ∣ gcdN ns := dvd_gcdN.mpr fun n hn => by
      have h2 : gcdN (plain ns) ∣ (n / ((gcdN ns : Nat) : Int)).natAbs := dvd_gcdN.mp (Nat.dvd_refl _) _ (List.mem_map.mpr ⟨n, hn, rfl⟩)
      have h3 := Nat.mul_dvd_mul_right h2 (gcdN ns)
      have h4 : (n / ((gcdN ns : Nat) : Int)).natAbs * gcdN ns = n.natAbs := by
        have := congrArg Int.natAbs (plain_mul hn)
        rw [Int.natAbs_mul, Int.natAbs_natCast] at this
        exact this
      rw [h4] at h3
      exact h3
    have h5 := Nat.le_of_dvd hg key
    have h6 : gcdN (plain ns) * gcdN ns ≤ 1 * gcdN ns := by omega
    have h7 := Nat.le_of_mul_le_mul_right h6 hg
    have h8 : gcdN (plain ns) ≠ 0 := fun z => by
      rw [z, Nat.zero_mul] at key
      have := Nat.eq_zero_of_zero_dvd key
      omega
    omega
theorem plain_sum_le {ns : List Int} (h : Amt ns) : (plain ns).sum ≤ ns.sum := by
  have e := plain_sum h
  have hg := gcdN_pos h
  have h1 : 0 ≤ (plain ns).sum := sum_nn fun n hn => by
    obtain ⟨m, hm, e⟩ := List.mem_map.mp hn
    rw [← e]
    exact Int.ediv_nonneg (h.nn m hm) (Int.natCast_nonneg _)
  have h2 : (plain ns).sum * 1 ≤ (plain ns).sum * ((gcdN ns : Nat) : Int) := Int.mul_le_mul_of_nonneg_left (by omega) h1
  omega
theorem plain_of_one {ns : List Int} (h : gcdN ns = 1) : plain ns = ns := by
  unfold plain
  rw [h]
  conv => rhs; rw [← List.map_id ns]
  exact List.map_congr_left fun n _ => by simp
/-! ### top-ups -/
structure Kep (a b : Int) : Prop where
  a1 : 1 ≤ a
  ab : a < b
  b100 : b ≤ 100
  g : Nat.gcd a.natAbs b.natAbs = 1
def pre (ns : List Int) (a b : Int) (c : Nat) : List Int := (ns.map fun n => n * a).set c ((ns.getD c 0) * a + (b - a) * ns.sum)
def step (ns : List Int) (a b : Int) (c : Nat) : List Int := plain (pre ns a b c)
theorem sum_map_mul (a : Int) : ∀ ns : List Int, (ns.map fun n => n * a).sum = ns.sum * a
  | [] => by simp
  | n :: r => by rw [List.map_cons, List.sum_cons, List.sum_cons, sum_map_mul a r, Int.add_mul]
theorem sum_set (v : Int) : ∀ (ns : List Int) (c : Nat), c < ns.length → (ns.set c v).sum = ns.sum - ns.getD c 0 + v
  | [], c, h => by simp at h
  | n :: r, 0, _ => by
    rw [List.set_cons_zero, List.sum_cons, List.sum_cons]
    show v + r.sum = n + r.sum - n + v
    omega
  | n :: r, c + 1, h => by
    rw [List.set_cons_succ, List.sum_cons, List.sum_cons, sum_set v r c (by simpa using h)]
    show n + (r.sum - r.getD c 0 + v) = n + r.sum - r.getD c 0 + v
    omega
theorem pre_len (ns : List Int) (a b : Int) (c : Nat) : (pre ns a b c).length = ns.length := by unfold pre; simp
theorem pre_sum {ns : List Int} {a b : Int} {c : Nat} (h : c < ns.length) : (pre ns a b c).sum = b * ns.sum := by
  unfold pre
  rw [sum_set _ _ _ (by simpa using h), sum_map_mul]
  have e : (ns.map fun n => n * a).getD c 0 = ns.getD c 0 * a := by
    rw [List.getD_eq_getElem?_getD, List.getD_eq_getElem?_getD, List.getElem?_map, List.getElem?_eq_getElem h]
    rfl
  rw [e, Int.sub_mul, Int.mul_comm ns.sum a]
  omega
theorem pre_nn {ns : List Int} {a b : Int} {c : Nat} (hn : ∀ n ∈ ns, 0 ≤ n) (ha : 0 ≤ a) (hb : a ≤ b) : ∀ n ∈ pre ns a b c, 0 ≤ n := fun n hm => by
  unfold pre at hm
  rcases List.mem_or_eq_of_mem_set hm with z | z
  · obtain ⟨m, h1, e⟩ := List.mem_map.mp z
    rw [← e]
    exact Int.mul_nonneg (hn m h1) ha
  · rw [z]
    have h1 : 0 ≤ ns.getD c 0 := by
      rw [List.getD_eq_getElem?_getD]
      cases q : ns[c]? with
      | none => exact Int.le_refl _
      | some m => exact hn m (List.mem_of_getElem? q)
    have h2 := Int.mul_nonneg h1 ha
    have h3 := Int.mul_nonneg (show 0 ≤ b - a by omega) (sum_nn hn)
    omega
theorem pre_amt {ns : List Int} {a b : Int} {c : Nat} (h : Con ns) (k : Kep a b) (hc : c < ns.length) : Amt (pre ns a b c) := by
  refine ⟨pre_nn h.nn (by have := k.a1; omega) (by have := k.ab; omega), ?_⟩
  rw [pre_sum hc]
  exact Int.mul_pos (by have := k.a1; have := k.ab; omega) h.amt.pos
theorem step_con {ns : List Int} {a b : Int} {c : Nat} (h : Con ns) (k : Kep a b) (hc : c < ns.length) : Con (step ns a b c) :=
  plain_con (pre_amt h k hc) (by rw [pre_len]; exact h.len) (by rw [pre_len]; exact h.le8)
theorem step_len (ns : List Int) (a b : Int) (c : Nat) : (step ns a b c).length = ns.length := by unfold step; rw [plain_len, pre_len]
theorem step_sum {ns : List Int} {a b : Int} {c : Nat} (h : Con ns) (k : Kep a b) (hc : c < ns.length) : (step ns a b c).sum ≤ 100 * ns.sum := by
  have h1 := plain_sum_le (pre_amt h k hc)
  rw [pre_sum hc] at h1
  have h2 : b * ns.sum ≤ 100 * ns.sum := Int.mul_le_mul_of_nonneg_right k.b100 (Int.le_of_lt h.amt.pos)
  have e : step ns a b c = plain (pre ns a b c) := rfl
  rw [e]
  omega
/-- the contents behind 0, 1 .. all top-ups -/
def walk (ns : List Int) (a b : Int) : List Nat → List (List Int)
  | [] => [ns]
  | c :: r => ns :: walk (step ns a b c) a b r
end Ma
end

section
set_option linter.all false
namespace Ma
theorem gcd_emodZ (x : Int) (m : Nat) : Nat.gcd m (x % (m : Int)).natAbs = Nat.gcd x.natAbs m := by
  have t1 : ∀ (d : Nat) (y : Int), d ∣ y.natAbs ↔ (d : Int) ∣ y := fun d y => by rw [← Int.natAbs_dvd_natAbs, Int.natAbs_natCast]
  have e := Int.emod_add_mul_ediv x (m : Int)
  apply Nat.dvd_antisymm
  · refine Nat.dvd_gcd ((t1 _ _).mpr ?_) (Nat.gcd_dvd_left _ _)
    have h1 := (t1 _ _).mp (Nat.gcd_dvd_right m (x % (m : Int)).natAbs)
    have h2 := Int.natCast_dvd_natCast.mpr (Nat.gcd_dvd_left m (x % (m : Int)).natAbs)
    have h3 := Int.dvd_add h1 (Int.dvd_trans h2 (Int.dvd_mul_right (m : Int) (x / (m : Int))))
    rw [e] at h3
    exact h3
  · refine Nat.dvd_gcd (Nat.gcd_dvd_right _ _) ((t1 _ _).mpr ?_)
    have h1 := (t1 _ _).mp (Nat.gcd_dvd_left x.natAbs m)
    have h2 := Int.natCast_dvd_natCast.mpr (Nat.gcd_dvd_right x.natAbs m)
    have e2 : x % (m : Int) = x - (m : Int) * (x / (m : Int)) := by omega
    rw [e2]
    exact Int.dvd_sub h1 (Int.dvd_trans h2 (Int.dvd_mul_right (m : Int) (x / (m : Int))))
end Ma
end

section
set_option Elab.async false
set_option linter.all false
set_option maxRecDepth 100000
set_option maxHeartbeats 4000000
namespace K29
open PySem PySem.Spec PyProof.Rows L2 GxR Gx
def topS (i : Nat) : Stmt := PySem.Challenge.pw_topups_k29_whole_mixtures_topped_up.main.body.getD i (.Pass ⟨0, 0, 0, 0⟩)
abbrev s_is_integer : Stmt := topS 13
theorem sc_is_integer : FnScope ["thing"] ["thing"] (defScope s_is_integer) := ⟨rfl, rfl, rfl, by decide +kernel, rfl, by decide +kernel, by decide +kernel⟩
theorem bd_is_integer {K : PySem.W.Frag} : ∀ f fd, Fun K "is_integer" "is_integer" s_is_integer f fd → Binds K fd ["thing"] [] := fun f fd F => F.binds fun _ _ _ _ _ _ us hl => match us, hl with | [_], _ => rfl
abbrev s_is_within : Stmt := topS 14
theorem sc_is_within : FnScope ["thing", "least", "most"] ["thing", "least", "most"] (defScope s_is_within) := ⟨rfl, rfl, rfl, by decide +kernel, rfl, by decide +kernel, by decide +kernel⟩
theorem bd_is_within {K : PySem.W.Frag} : ∀ f fd, Fun K "is_within" "is_within" s_is_within f fd → Binds K fd ["thing", "least", "most"] [] := fun f fd F => F.binds fun _ _ _ _ _ _ us hl => match us, hl with | [_, _, _], _ => rfl
abbrev s_is_pair_in_lowest_terms : Stmt := topS 15
theorem sc_is_pair_in_lowest_terms : FnScope ["thing", "one", "other"] ["thing"] (defScope s_is_pair_in_lowest_terms) := ⟨rfl, rfl, rfl, by decide +kernel, rfl, by decide +kernel, by decide +kernel⟩
theorem bd_is_pair_in_lowest_terms {K : PySem.W.Frag} : ∀ f fd, Fun K "is_pair_in_lowest_terms" "is_pair_in_lowest_terms" s_is_pair_in_lowest_terms f fd → Binds K fd ["thing"] [] := fun f fd F => F.binds fun _ _ _ _ _ _ us hl => match us, hl with | [_], _ => rfl
abbrev s_is_kept : Stmt := topS 16
theorem sc_is_kept : FnScope ["thing"] ["thing"] (defScope s_is_kept) := ⟨rfl, rfl, rfl, by decide +kernel, rfl, by decide +kernel, by decide +kernel⟩
theorem bd_is_kept {K : PySem.W.Frag} : ∀ f fd, Fun K "is_kept" "is_kept" s_is_kept f fd → Binds K fd ["thing"] [] := fun f fd F => F.binds fun _ _ _ _ _ _ us hl => match us, hl with | [_], _ => rfl
abbrev s_is_list_of_keeps : Stmt := topS 17
theorem sc_is_list_of_keeps : FnScope ["thing"] ["thing"] (defScope s_is_list_of_keeps) := ⟨rfl, rfl, rfl, by decide +kernel, rfl, by decide +kernel, by decide +kernel⟩
theorem bd_is_list_of_keeps {K : PySem.W.Frag} : ∀ f fd, Fun K "is_list_of_keeps" "is_list_of_keeps" s_is_list_of_keeps f fd → Binds K fd ["thing"] [] := fun f fd F => F.binds fun _ _ _ _ _ _ us hl => match us, hl with | [_], _ => rfl
abbrev s_is_list_of_liquids : Stmt := topS 18
theorem sc_is_list_of_liquids : FnScope ["thing", "liquids"] ["thing", "liquids"] (defScope s_is_list_of_liquids) := ⟨rfl, rfl, rfl, by decide +kernel, rfl, by decide +kernel, by decide +kernel⟩
theorem bd_is_list_of_liquids {K : PySem.W.Frag} : ∀ f fd, Fun K "is_list_of_liquids" "is_list_of_liquids" s_is_list_of_liquids f fd → Binds K fd ["thing", "liquids"] [] := fun f fd F => F.binds fun _ _ _ _ _ _ us hl => match us, hl with | [_, _], _ => rfl
abbrev s_is_row : Stmt := topS 19
theorem sc_is_row : FnScope ["thing", "liquids"] ["thing", "liquids"] (defScope s_is_row) := ⟨rfl, rfl, rfl, by decide +kernel, rfl, by decide +kernel, by decide +kernel⟩
theorem bd_is_row {K : PySem.W.Frag} : ∀ f fd, Fun K "is_row" "is_row" s_is_row f fd → Binds K fd ["thing", "liquids"] [] := fun f fd F => F.binds fun _ _ _ _ _ _ us hl => match us, hl with | [_, _], _ => rfl
abbrev s_check_kept : Stmt := topS 20
theorem sc_check_kept : FnScope ["kept"] ["kept"] (defScope s_check_kept) := ⟨rfl, rfl, rfl, by decide +kernel, rfl, by decide +kernel, by decide +kernel⟩
theorem bd_check_kept {K : PySem.W.Frag} : ∀ f fd, Fun K "check_kept" "check_kept" s_check_kept f fd → Binds K fd ["kept"] [] := fun f fd F => F.binds fun _ _ _ _ _ _ us hl => match us, hl with | [_], _ => rfl
abbrev s_check_keeps : Stmt := topS 21
theorem sc_check_keeps : FnScope ["keeps"] ["keeps"] (defScope s_check_keeps) := ⟨rfl, rfl, rfl, by decide +kernel, rfl, by decide +kernel, by decide +kernel⟩
theorem bd_check_keeps {K : PySem.W.Frag} : ∀ f fd, Fun K "check_keeps" "check_keeps" s_check_keeps f fd → Binds K fd ["keeps"] [] := fun f fd F => F.binds fun _ _ _ _ _ _ us hl => match us, hl with | [_], _ => rfl
abbrev s_check_row : Stmt := topS 22
theorem sc_check_row : FnScope ["row", "liquids"] ["row", "liquids"] (defScope s_check_row) := ⟨rfl, rfl, rfl, by decide +kernel, rfl, by decide +kernel, by decide +kernel⟩
theorem bd_check_row {K : PySem.W.Frag} : ∀ f fd, Fun K "check_row" "check_row" s_check_row f fd → Binds K fd ["row", "liquids"] [] := fun f fd F => F.binds fun _ _ _ _ _ _ us hl => match us, hl with | [_, _], _ => rfl
abbrev s_check_liquid : Stmt := topS 23
theorem sc_check_liquid : FnScope ["liquid", "liquids"] ["liquid", "liquids"] (defScope s_check_liquid) := ⟨rfl, rfl, rfl, by decide +kernel, rfl, by decide +kernel, by decide +kernel⟩
theorem bd_check_liquid {K : PySem.W.Frag} : ∀ f fd, Fun K "check_liquid" "check_liquid" s_check_liquid f fd → Binds K fd ["liquid", "liquids"] [] := fun f fd F => F.binds fun _ _ _ _ _ _ us hl => match us, hl with | [_, _], _ => rfl
abbrev s_lowest_terms : Stmt := topS 24
theorem sc_lowest_terms : FnScope ["top", "bottom", "divisor"] ["top", "bottom"] (defScope s_lowest_terms) := ⟨rfl, rfl, rfl, by decide +kernel, rfl, by decide +kernel, by decide +kernel⟩
theorem bd_lowest_terms {K : PySem.W.Frag} : ∀ f fd, Fun K "lowest_terms" "lowest_terms" s_lowest_terms f fd → Binds K fd ["top", "bottom"] [] := fun f fd F => F.binds fun _ _ _ _ _ _ us hl => match us, hl with | [_, _], _ => rfl
abbrev s_common_divisor : Stmt := topS 25
theorem sc_common_divisor : FnScope ["numbers", "divisor", "number"] ["numbers"] (defScope s_common_divisor) := ⟨rfl, rfl, rfl, by decide +kernel, rfl, by decide +kernel, by decide +kernel⟩
theorem bd_common_divisor {K : PySem.W.Frag} : ∀ f fd, Fun K "common_divisor" "common_divisor" s_common_divisor f fd → Binds K fd ["numbers"] [] := fun f fd F => F.binds fun _ _ _ _ _ _ us hl => match us, hl with | [_], _ => rfl
abbrev s_without_divisor : Stmt := topS 26
theorem sc_without_divisor : FnScope ["numbers", "divisor", "number"] ["numbers"] (defScope s_without_divisor) := ⟨rfl, rfl, rfl, by decide +kernel, rfl, by decide +kernel, by decide +kernel⟩
theorem bd_without_divisor {K : PySem.W.Frag} : ∀ f fd, Fun K "without_divisor" "without_divisor" s_without_divisor f fd → Binds K fd ["numbers"] [] := fun f fd F => F.binds fun _ _ _ _ _ _ us hl => match us, hl with | [_], _ => rfl
abbrev s_is_content : Stmt := topS 28
theorem sc_is_content : FnScope ["thing"] ["thing"] (defScope s_is_content) := ⟨rfl, rfl, rfl, by decide +kernel, rfl, by decide +kernel, by decide +kernel⟩
theorem bd_is_content {K : PySem.W.Frag} : ∀ f fd, Fun K "is_content" "is_content" s_is_content f fd → Binds K fd ["thing"] [] := fun f fd F => F.binds fun _ _ _ _ _ _ us hl => match us, hl with | [_], _ => rfl
abbrev s_share_of : Stmt := topS 29
theorem sc_share_of : FnScope ["content", "liquid"] ["content", "liquid"] (defScope s_share_of) := ⟨rfl, rfl, rfl, by decide +kernel, rfl, by decide +kernel, by decide +kernel⟩
theorem bd_share_of {K : PySem.W.Frag} : ∀ f fd, Fun K "share_of" "share_of" s_share_of f fd → Binds K fd ["content", "liquid"] [] := fun f fd F => F.binds fun _ _ _ _ _ _ us hl => match us, hl with | [_, _], _ => rfl
abbrev s_mixed_content : Stmt := topS 30
theorem sc_mixed_content : FnScope ["contents", "weights"] ["contents", "weights"] (defScope s_mixed_content) := ⟨rfl, rfl, rfl, by decide +kernel, rfl, by decide +kernel, by decide +kernel⟩
theorem bd_mixed_content {K : PySem.W.Frag} : ∀ f fd, Fun K "mixed_content" "mixed_content" s_mixed_content f fd → Binds K fd ["contents", "weights"] [] := fun f fd F => F.binds fun _ _ _ _ _ _ us hl => match us, hl with | [_, _], _ => rfl
abbrev s_mixture_of : Stmt := topS 31
theorem sc_mixture_of : FnScope ["contents", "weights", "common", "content", "mixture", "weight", "factor", "amount", "more"] ["contents", "weights"] (defScope s_mixture_of) := ⟨rfl, rfl, rfl, by decide +kernel, rfl, by decide +kernel, by decide +kernel⟩
theorem bd_mixture_of {K : PySem.W.Frag} : ∀ f fd, Fun K "mixture_of" "mixture_of" s_mixture_of f fd → Binds K fd ["contents", "weights"] [] := fun f fd F => F.binds fun _ _ _ _ _ _ us hl => match us, hl with | [_, _], _ => rfl
abbrev s_is_list_of_amounts : Stmt := topS 32
theorem sc_is_list_of_amounts : FnScope ["thing"] ["thing"] (defScope s_is_list_of_amounts) := ⟨rfl, rfl, rfl, by decide +kernel, rfl, by decide +kernel, by decide +kernel⟩
theorem bd_is_list_of_amounts {K : PySem.W.Frag} : ∀ f fd, Fun K "is_list_of_amounts" "is_list_of_amounts" s_is_list_of_amounts f fd → Binds K fd ["thing"] [] := fun f fd F => F.binds fun _ _ _ _ _ _ us hl => match us, hl with | [_], _ => rfl
abbrev s_is_list_of_contents : Stmt := topS 33
theorem sc_is_list_of_contents : FnScope ["thing"] ["thing"] (defScope s_is_list_of_contents) := ⟨rfl, rfl, rfl, by decide +kernel, rfl, by decide +kernel, by decide +kernel⟩
theorem bd_is_list_of_contents {K : PySem.W.Frag} : ∀ f fd, Fun K "is_list_of_contents" "is_list_of_contents" s_is_list_of_contents f fd → Binds K fd ["thing"] [] := fun f fd F => F.binds fun _ _ _ _ _ _ us hl => match us, hl with | [_], _ => rfl
abbrev s_check_content : Stmt := topS 34
theorem sc_check_content : FnScope ["content"] ["content"] (defScope s_check_content) := ⟨rfl, rfl, rfl, by decide +kernel, rfl, by decide +kernel, by decide +kernel⟩
theorem bd_check_content {K : PySem.W.Frag} : ∀ f fd, Fun K "check_content" "check_content" s_check_content f fd → Binds K fd ["content"] [] := fun f fd F => F.binds fun _ _ _ _ _ _ us hl => match us, hl with | [_], _ => rfl
abbrev s_check_contents : Stmt := topS 35
theorem sc_check_contents : FnScope ["contents"] ["contents"] (defScope s_check_contents) := ⟨rfl, rfl, rfl, by decide +kernel, rfl, by decide +kernel, by decide +kernel⟩
theorem bd_check_contents {K : PySem.W.Frag} : ∀ f fd, Fun K "check_contents" "check_contents" s_check_contents f fd → Binds K fd ["contents"] [] := fun f fd F => F.binds fun _ _ _ _ _ _ us hl => match us, hl with | [_], _ => rfl
abbrev s_check_amounts : Stmt := topS 36
theorem sc_check_amounts : FnScope ["numbers"] ["numbers"] (defScope s_check_amounts) := ⟨rfl, rfl, rfl, by decide +kernel, rfl, by decide +kernel, by decide +kernel⟩
theorem bd_check_amounts {K : PySem.W.Frag} : ∀ f fd, Fun K "check_amounts" "check_amounts" s_check_amounts f fd → Binds K fd ["numbers"] [] := fun f fd F => F.binds fun _ _ _ _ _ _ us hl => match us, hl with | [_], _ => rfl
abbrev s_check_weights : Stmt := topS 37
theorem sc_check_weights : FnScope ["weights", "count"] ["weights", "count"] (defScope s_check_weights) := ⟨rfl, rfl, rfl, by decide +kernel, rfl, by decide +kernel, by decide +kernel⟩
theorem bd_check_weights {K : PySem.W.Frag} : ∀ f fd, Fun K "check_weights" "check_weights" s_check_weights f fd → Binds K fd ["weights", "count"] [] := fun f fd F => F.binds fun _ _ _ _ _ _ us hl => match us, hl with | [_, _], _ => rfl
abbrev s_strength_of : Stmt := topS 39
theorem sc_strength_of : FnScope ["content", "strengths", "top"] ["content", "strengths"] (defScope s_strength_of) := ⟨rfl, rfl, rfl, by decide +kernel, rfl, by decide +kernel, by decide +kernel⟩
theorem bd_strength_of {K : PySem.W.Frag} : ∀ f fd, Fun K "strength_of" "strength_of" s_strength_of f fd → Binds K fd ["content", "strengths"] [] := fun f fd F => F.binds fun _ _ _ _ _ _ us hl => match us, hl with | [_, _], _ => rfl
abbrev s_check_strengths : Stmt := topS 40
theorem sc_check_strengths : FnScope ["strengths"] ["strengths"] (defScope s_check_strengths) := ⟨rfl, rfl, rfl, by decide +kernel, rfl, by decide +kernel, by decide +kernel⟩
theorem bd_check_strengths {K : PySem.W.Frag} : ∀ f fd, Fun K "check_strengths" "check_strengths" s_check_strengths f fd → Binds K fd ["strengths"] [] := fun f fd F => F.binds fun _ _ _ _ _ _ us hl => match us, hl with | [_], _ => rfl
abbrev s_is_list_of_strengths : Stmt := topS 41
theorem sc_is_list_of_strengths : FnScope ["thing"] ["thing"] (defScope s_is_list_of_strengths) := ⟨rfl, rfl, rfl, by decide +kernel, rfl, by decide +kernel, by decide +kernel⟩
theorem bd_is_list_of_strengths {K : PySem.W.Frag} : ∀ f fd, Fun K "is_list_of_strengths" "is_list_of_strengths" s_is_list_of_strengths f fd → Binds K fd ["thing"] [] := fun f fd F => F.binds fun _ _ _ _ _ _ us hl => match us, hl with | [_], _ => rfl
abbrev s_topped : Stmt := topS 43
theorem sc_topped : FnScope ["content", "kept", "liquid"] ["content", "kept", "liquid"] (defScope s_topped) := ⟨rfl, rfl, rfl, by decide +kernel, rfl, by decide +kernel, by decide +kernel⟩
theorem bd_topped {K : PySem.W.Frag} : ∀ f fd, Fun K "topped" "topped" s_topped f fd → Binds K fd ["content", "kept", "liquid"] [] := fun f fd F => F.binds fun _ _ _ _ _ _ us hl => match us, hl with | [_, _, _], _ => rfl
abbrev s_topped_row : Stmt := topS 44
theorem sc_topped_row : FnScope ["content", "kept", "row"] ["content", "kept", "row"] (defScope s_topped_row) := ⟨rfl, rfl, rfl, by decide +kernel, rfl, by decide +kernel, by decide +kernel⟩
theorem bd_topped_row {K : PySem.W.Frag} : ∀ f fd, Fun K "topped_row" "topped_row" s_topped_row f fd → Binds K fd ["content", "kept", "row"] [] := fun f fd F => F.binds fun _ _ _ _ _ _ us hl => match us, hl with | [_, _, _], _ => rfl
abbrev s_contents_along : Stmt := topS 45
theorem sc_contents_along : FnScope ["content", "kept", "row"] ["content", "kept", "row"] (defScope s_contents_along) := ⟨rfl, rfl, rfl, by decide +kernel, rfl, by decide +kernel, by decide +kernel⟩
theorem bd_contents_along {K : PySem.W.Frag} : ∀ f fd, Fun K "contents_along" "contents_along" s_contents_along f fd → Binds K fd ["content", "kept", "row"] [] := fun f fd F => F.binds fun _ _ _ _ _ _ us hl => match us, hl with | [_, _, _], _ => rfl
abbrev s_topped_by : Stmt := topS 46
theorem sc_topped_by : FnScope ["content", "keeps", "row"] ["content", "keeps", "row"] (defScope s_topped_by) := ⟨rfl, rfl, rfl, by decide +kernel, rfl, by decide +kernel, by decide +kernel⟩
theorem bd_topped_by {K : PySem.W.Frag} : ∀ f fd, Fun K "topped_by" "topped_by" s_topped_by f fd → Binds K fd ["content", "keeps", "row"] [] := fun f fd F => F.binds fun _ _ _ _ _ _ us hl => match us, hl with | [_, _, _], _ => rfl
abbrev s_content_behind : Stmt := topS 47
theorem sc_content_behind : FnScope ["content", "kept", "liquid", "stays", "whole", "mixture", "amount"] ["content", "kept", "liquid"] (defScope s_content_behind) := ⟨rfl, rfl, rfl, by decide +kernel, rfl, by decide +kernel, by decide +kernel⟩
theorem bd_content_behind {K : PySem.W.Frag} : ∀ f fd, Fun K "content_behind" "content_behind" s_content_behind f fd → Binds K fd ["content", "kept", "liquid"] [] := fun f fd F => F.binds fun _ _ _ _ _ _ us hl => match us, hl with | [_, _, _], _ => rfl
abbrev s_contents_by : Stmt := topS 48
theorem sc_contents_by : FnScope ["content", "keeps", "row", "contents", "kept", "liquid"] ["content", "keeps", "row"] (defScope s_contents_by) := ⟨rfl, rfl, rfl, by decide +kernel, rfl, by decide +kernel, by decide +kernel⟩
theorem bd_contents_by {K : PySem.W.Frag} : ∀ f fd, Fun K "contents_by" "contents_by" s_contents_by f fd → Binds K fd ["content", "keeps", "row"] [] := fun f fd F => F.binds fun _ _ _ _ _ _ us hl => match us, hl with | [_, _, _], _ => rfl
abbrev s__law_jar : Stmt := topS 50
theorem sc__law_jar : FnScope ["script", "k", "cell_here"] ["script", "k"] (defScope s__law_jar) := ⟨rfl, rfl, rfl, by decide +kernel, rfl, by decide +kernel, by decide +kernel⟩
theorem bd__law_jar {K : PySem.W.Frag} : ∀ f fd, Fun K "_law_jar" "_law_jar" s__law_jar f fd → Binds K fd ["script", "k"] [] := fun f fd F => F.binds fun _ _ _ _ _ _ us hl => match us, hl with | [_, _], _ => rfl
abbrev s__law_dip : Stmt := topS 51
theorem sc__law_dip : FnScope ["jar", "many", "digit", "mixed"] ["jar", "many"] (defScope s__law_dip) := ⟨rfl, rfl, rfl, by decide +kernel, rfl, by decide +kernel, by decide +kernel⟩
theorem bd__law_dip {K : PySem.W.Frag} : ∀ f fd, Fun K "_law_dip" "_law_dip" s__law_dip f fd → Binds K fd ["jar", "many"] [] := fun f fd F => F.binds fun _ _ _ _ _ _ us hl => match us, hl with | [_, _], _ => rfl
abbrev s__law_gcd : Stmt := topS 52
theorem sc__law_gcd : FnScope ["one", "two"] ["one", "two"] (defScope s__law_gcd) := ⟨rfl, rfl, rfl, by decide +kernel, rfl, by decide +kernel, by decide +kernel⟩
theorem bd__law_gcd {K : PySem.W.Frag} : ∀ f fd, Fun K "_law_gcd" "_law_gcd" s__law_gcd f fd → Binds K fd ["one", "two"] [] := fun f fd F => F.binds fun _ _ _ _ _ _ us hl => match us, hl with | [_, _], _ => rfl
abbrev s__law_plain : Stmt := topS 53
theorem sc__law_plain : FnScope ["numbers_here", "divisor", "number_here"] ["numbers_here"] (defScope s__law_plain) := ⟨rfl, rfl, rfl, by decide +kernel, rfl, by decide +kernel, by decide +kernel⟩
theorem bd__law_plain {K : PySem.W.Frag} : ∀ f fd, Fun K "_law_plain" "_law_plain" s__law_plain f fd → Binds K fd ["numbers_here"] [] := fun f fd F => F.binds fun _ _ _ _ _ _ us hl => match us, hl with | [_], _ => rfl
abbrev s__law_part : Stmt := topS 54
theorem sc__law_part : FnScope ["top", "bottom", "divisor"] ["top", "bottom"] (defScope s__law_part) := ⟨rfl, rfl, rfl, by decide +kernel, rfl, by decide +kernel, by decide +kernel⟩
theorem bd__law_part {K : PySem.W.Frag} : ∀ f fd, Fun K "_law_part" "_law_part" s__law_part f fd → Binds K fd ["top", "bottom"] [] := fun f fd F => F.binds fun _ _ _ _ _ _ us hl => match us, hl with | [_, _], _ => rfl
abbrev s__law_step : Stmt := topS 55
theorem sc__law_step : FnScope ["numbers_here", "stays", "whole", "spot", "poured", "found", "part"] ["numbers_here", "stays", "whole", "spot"] (defScope s__law_step) := ⟨rfl, rfl, rfl, by decide +kernel, rfl, by decide +kernel, by decide +kernel⟩
theorem bd__law_step {K : PySem.W.Frag} : ∀ f fd, Fun K "_law_step" "_law_step" s__law_step f fd → Binds K fd ["numbers_here", "stays", "whole", "spot"] [] := fun f fd F => F.binds fun _ _ _ _ _ _ us hl => match us, hl with | [_, _, _, _], _ => rfl
abbrev s__law_walk : Stmt := topS 56
theorem sc__law_walk : FnScope ["numbers_here", "share_here", "spots", "found", "spot"] ["numbers_here", "share_here", "spots"] (defScope s__law_walk) := ⟨rfl, rfl, rfl, by decide +kernel, rfl, by decide +kernel, by decide +kernel⟩
theorem bd__law_walk {K : PySem.W.Frag} : ∀ f fd, Fun K "_law_walk" "_law_walk" s__law_walk f fd → Binds K fd ["numbers_here", "share_here", "spots"] [] := fun f fd F => F.binds fun _ _ _ _ _ _ us hl => match us, hl with | [_, _, _], _ => rfl
abbrev s__law_share : Stmt := topS 57
theorem sc__law_share : FnScope ["jar", "way_here", "whole", "stays"] ["jar"] (defScope s__law_share) := ⟨rfl, rfl, rfl, by decide +kernel, rfl, by decide +kernel, by decide +kernel⟩
theorem bd__law_share {K : PySem.W.Frag} : ∀ f fd, Fun K "_law_share" "_law_share" s__law_share f fd → Binds K fd ["jar"] [] := fun f fd F => F.binds fun _ _ _ _ _ _ us hl => match us, hl with | [_], _ => rfl
abbrev s__law_pure : Stmt := topS 58
theorem sc__law_pure : FnScope ["many", "spot", "here"] ["many", "spot"] (defScope s__law_pure) := ⟨rfl, rfl, rfl, by decide +kernel, rfl, by decide +kernel, by decide +kernel⟩
theorem bd__law_pure {K : PySem.W.Frag} : ∀ f fd, Fun K "_law_pure" "_law_pure" s__law_pure f fd → Binds K fd ["many", "spot"] [] := fun f fd F => F.binds fun _ _ _ _ _ _ us hl => match us, hl with | [_, _], _ => rfl
abbrev s__law_spots : Stmt := topS 59
theorem sc__law_spots : FnScope ["jar", "many", "size", "turn"] ["jar", "many", "size"] (defScope s__law_spots) := ⟨rfl, rfl, rfl, by decide +kernel, rfl, by decide +kernel, by decide +kernel⟩
theorem bd__law_spots {K : PySem.W.Frag} : ∀ f fd, Fun K "_law_spots" "_law_spots" s__law_spots f fd → Binds K fd ["jar", "many", "size"] [] := fun f fd F => F.binds fun _ _ _ _ _ _ us hl => match us, hl with | [_, _, _], _ => rfl
abbrev s__law_filled : Stmt := topS 60
theorem sc__law_filled : FnScope ["jar", "many", "most", "found", "pot", "turn"] ["jar", "many", "most"] (defScope s__law_filled) := ⟨rfl, rfl, rfl, by decide +kernel, rfl, by decide +kernel, by decide +kernel⟩
theorem bd__law_filled {K : PySem.W.Frag} : ∀ f fd, Fun K "_law_filled" "_law_filled" s__law_filled f fd → Binds K fd ["jar", "many", "most"] [] := fun f fd F => F.binds fun _ _ _ _ _ _ us hl => match us, hl with | [_, _, _], _ => rfl
abbrev s__law_right : Stmt := topS 61
theorem sc__law_right : FnScope ["jar", "many", "size", "pots_here", "pot", "parts", "share_here", "spots", "mixed", "later", "shares_here", "some", "top", "bottom_here", "part", "one", "under", "turn", "spot"] ["jar", "many", "size"] (defScope s__law_right) := ⟨rfl, rfl, rfl, by decide +kernel, rfl, by decide +kernel, by decide +kernel⟩
theorem bd__law_right {K : PySem.W.Frag} : ∀ f fd, Fun K "_law_right" "_law_right" s__law_right f fd → Binds K fd ["jar", "many", "size"] [] := fun f fd F => F.binds fun _ _ _ _ _ _ us hl => match us, hl with | [_, _, _], _ => rfl
abbrev s__law_gap : Stmt := topS 62
theorem sc__law_gap : FnScope ["one", "two"] ["one", "two"] (defScope s__law_gap) := ⟨rfl, rfl, rfl, by decide +kernel, rfl, by decide +kernel, by decide +kernel⟩
theorem bd__law_gap {K : PySem.W.Frag} : ∀ f fd, Fun K "_law_gap" "_law_gap" s__law_gap f fd → Binds K fd ["one", "two"] [] := fun f fd F => F.binds fun _ _ _ _ _ _ us hl => match us, hl with | [_, _], _ => rfl
abbrev s__law_shrinks : Stmt := topS 63
theorem sc__law_shrinks : FnScope ["jar", "pots_here", "share_here", "one", "two", "spot", "here", "gap", "later", "new_gap", "pot"] ["jar", "pots_here", "share_here"] (defScope s__law_shrinks) := ⟨rfl, rfl, rfl, by decide +kernel, rfl, by decide +kernel, by decide +kernel⟩
theorem bd__law_shrinks {K : PySem.W.Frag} : ∀ f fd, Fun K "_law_shrinks" "_law_shrinks" s__law_shrinks f fd → Binds K fd ["jar", "pots_here", "share_here"] [] := fun f fd F => F.binds fun _ _ _ _ _ _ us hl => match us, hl with | [_, _, _], _ => rfl
abbrev s_law : Stmt := topS 64
theorem sc_law : FnScope ["script", "k", "jar", "turn"] ["script"] (defScope s_law) := ⟨rfl, rfl, rfl, by decide +kernel, rfl, by decide +kernel, by decide +kernel⟩
theorem bd_law {K : PySem.W.Frag} : ∀ f fd, Fun K "law" "law" s_law f fd → Binds K fd ["script"] [] := fun f fd F => F.binds fun _ _ _ _ _ _ us hl => match us, hl with | [_], _ => rfl
end K29
end

section
set_option Elab.async false
set_option linter.all false
set_option maxRecDepth 100000
set_option maxHeartbeats 4000000
namespace K29
open PySem PySem.Spec PyProof.Rows L2 GxR Gx Ma
abbrev LI (H : Hp) (a : Addr) (ns : List Int) : Prop := H a = some (.lst (ns.map V.int))
structure Bl (mg : Str → Option Value) : Prop where
  abs : mg "abs" = none
  all : mg "all" = none
  bool : mg "bool" = none
  int : mg "int" = none
  isinstance : mg "isinstance" = none
  len : mg "len" = none
  list : mg "list" = none
  max : mg "max" = none
  min : mg "min" = none
  range : mg "range" = none
  sum : mg "sum" = none
  tuple : mg "tuple" = none
  type : mg "type" = none
  zip : mg "zip" = none
  MOST_LIQUIDS : ∃ t, mg "MOST_LIQUIDS" = some (.int 8 t)
  MOST_PARTS : ∃ t, mg "MOST_PARTS" = some (.int 100 t)
  MOST_TOP_UPS : ∃ t, mg "MOST_TOP_UPS" = some (.int 60 t)
  gcd : mg "gcd" = some (.builtin "math.gcd")
  lcm : mg "lcm" = some (.builtin "math.lcm")
theorem same_new {H : Hp} {p : Addr} {o : HO} (h : H p = none) : Same H (upd H p o) := fun b x e => by
  rw [upd_ne (ne_of_none e h)]
  exact e
section
variable {P : Program} {w : World} {K : PySem.W.Frag} {mg : Str → Option Value} {base : Heap}

def sp_is_integer : Sp := fun vs H Q _ => ∃ i, vs = [V.int i] ∧ Q (.bl true) H

theorem ok_is_integer {f : Addr} {fd : FuncData}  (F : Fun K "is_integer" "is_integer" s_is_integer f fd) (B : Bl mg)  : FnOk P w K mg base CX0 1 f fd ["thing"] (sp_is_integer) := by
  refine F.ok sc_is_integer (fun vs H Q E h => ?_) (fun cdv A outer s H vs Q E hr h => ?_)
  · obtain ⟨i, rfl, _⟩ := h; rfl
  · obtain ⟨i, rfl, q⟩ := h
    have nd := sc_is_integer.nd
    refine ⟨_, (pss_one (ps_ret (pe_and (pe_callB call_isi (by rfl) B.isinstance (by decide +kernel) (pa_cons (pv 0) (pa_cons (pe_bltn (v := .ty "int") (by rfl) B.int (by decide +kernel) rfl) pa_nil))) (pe_one (pe_not (pe_callB call_isi (by rfl) B.isinstance (by decide +kernel) (pa_cons (pv 0) (pa_cons (pe_bltn (v := .ty "bool") (by rfl) B.bool (by decide +kernel) rfl) pa_nil)))))))), ?_⟩
    refine ⟨.int i, rfl, .int i, .ty "int", .type "int", .type "int", true, rfl, .ty _, .base (.int i), kit_ty (by decide +kernel), true, rfl, iteT ?_⟩
    exact ⟨.int i, rfl, .int i, .ty "bool", .type "int", .type "bool", false, rfl, .ty _, .base (.int i), kit_ty (by decide +kernel), false, rfl, q⟩

def sp_is_within : Sp := fun vs H Q _ => ∃ i lo hi, vs = [V.int i, V.int lo, V.int hi] ∧ lo ≤ i ∧ i ≤ hi ∧ Q (.bl true) H

theorem ok_is_within {f : Addr} {fd : FuncData}  (F : Fun K "is_within" "is_within" s_is_within f fd) (B : Bl mg) (C_is_integer : Cal P w K mg base 1 "is_integer" ["thing"] sp_is_integer) : FnOk P w K mg base CX0 2 f fd ["thing", "least", "most"] (sp_is_within) := by
  refine F.ok sc_is_within (fun vs H Q E h => ?_) (fun cdv A outer s H vs Q E hr h => ?_)
  · obtain ⟨i, lo, hi, rfl, _⟩ := h; rfl
  · obtain ⟨i, lo, hi, rfl, h1, h2, q⟩ := h
    have nd := sc_is_within.nd
    refine ⟨_, (pss_one (ps_ret (pe_and (pe_cal C_is_integer (hr.mono (by decide)) (pa_cons (pv 0) pa_nil)) (pe_one (pe_chain op_le op_le (pv 1) (pv 0) (pv 2)))))), ?_⟩
    refine ⟨.int i, rfl, i, rfl, true, rfl, iteT ?_⟩
    refine ⟨.int lo, rfl, .int i, rfl, lo, i, rfl, rfl, _, rfl, ?_⟩
    rw [decide_eq_true h1]
    refine iteT ⟨.int hi, rfl, i, hi, rfl, rfl, ?_⟩
    show Q (.bl (decide (i ≤ hi))) H
    rw [decide_eq_true h2]
    exact q

end
end K29
end

section
set_option Elab.async false
set_option linter.all false
set_option maxRecDepth 100000
set_option maxHeartbeats 4000000
namespace K29
open PySem PySem.Spec PyProof.Rows L2 GxR Gx Ma
section
variable {P : Program} {w : World} {K : PySem.W.Frag} {mg : Str → Option Value} {base : Heap}

def sp_is_pair : Sp := fun vs H Q _ => ∃ t a b, vs = [V.ref t] ∧ H t = some (.tup [.int a, .int b]) ∧ Nat.gcd a.natAbs b.natAbs = 1 ∧ Q (.bl true) H
def sp_is_kept : Sp := fun vs H Q _ => ∃ t a b, vs = [V.ref t] ∧ H t = some (.tup [.int a, .int b]) ∧ Kep a b ∧ Q (.bl true) H

theorem ok_is_pair_in_lowest_terms {f : Addr} {fd : FuncData}  (F : Fun K "is_pair_in_lowest_terms" "is_pair_in_lowest_terms" s_is_pair_in_lowest_terms f fd) (B : Bl mg) (C_is_integer : Cal P w K mg base 1 "is_integer" ["thing"] sp_is_integer) : FnOk P w K mg base CX0 2 f fd ["thing"] (sp_is_pair) := by
  refine F.ok sc_is_pair_in_lowest_terms (fun vs H Q E h => ?_) (fun cdv A outer s H vs Q E hr h => ?_)
  · obtain ⟨t, a, b, rfl, _⟩ := h; rfl
  · obtain ⟨t, a, b, rfl, ht, hg, q⟩ := h
    have nd := sc_is_pair_in_lowest_terms.nd
    refine ⟨_, (pss_cons (ps_if (PW.pt (pw_or (pt_cmpR op_neTy (pe_typeOf (by rfl) B.type (pv 0)) (pe_bltn (v := .ty "tuple") (by rfl) B.tuple (by decide +kernel) rfl) (nomark _)) (pw_or1 (pt_cmpR op_ne (pe_callB call_len_seq (by rfl) B.len PySem.boot_len (pa_cons (pv 0) pa_nil)) pe_int (nomark _)))))
      (pss_one (ps_ret pe_bl)) pss_nil)
      (pss_cons (ps_asg (pv 0) (pg_tup (by rfl) (pgs_cons (pg_name (i := 1) nd rfl (Or.inl rfl)) (pgs_cons (pg_name (i := 2) nd rfl (Or.inl rfl)) pgs_nil))))
      (pss_one (ps_ret (pe_and (pe_cal C_is_integer (hr.mono (by decide)) (pa_cons (pv 1) pa_nil)) (pe_and (pe_cal C_is_integer (hr.mono (by decide)) (pa_cons (pv 2) pa_nil)) (pe_one (pe_cmpR op_eq (pe_callBfun cr_gcd (by rfl) B.gcd (pa_cons (pv 1) (pa_cons (pv 2) pa_nil))) pe_int (nomark _))))))))), ?_⟩
    refine ⟨.ref t, rfl, "tuple", by simp only [zTyV, ht], "tuple", rfl, rfl, TypeEq.meta_tuple, false, rfl, iteF ?_⟩
    refine ⟨.ref t, rfl, t, _, rfl, .inr (SqT.of ht), rfl, _, rfl, iteNS rfl ?_⟩
    refine ⟨.ref t, rfl, t, [_, _], rfl, SqT.of ht, rfl, _, _, rfl, _, _, rfl, rfl, ?_⟩
    refine ⟨.int a, rfl, a, rfl, true, rfl, iteT ?_⟩
    refine ⟨.int b, rfl, b, rfl, true, rfl, iteT ?_⟩
    refine ⟨.int a, rfl, .int b, rfl, a, b, rfl, rfl, ?_⟩
    show Q (.bl (decide (V.int ((Nat.gcd a.natAbs b.natAbs : Nat) : Int) = V.int 1))) H
    rw [hg]
    exact q

theorem ok_is_kept {f : Addr} {fd : FuncData}  (F : Fun K "is_kept" "is_kept" s_is_kept f fd) (B : Bl mg) (C_is_pair_in_lowest_terms : Cal P w K mg base 2 "is_pair_in_lowest_terms" ["thing"] sp_is_pair) : FnOk P w K mg base CX0 3 f fd ["thing"] (sp_is_kept) := by
  refine F.ok sc_is_kept (fun vs H Q E h => ?_) (fun cdv A outer s H vs Q E hr h => ?_)
  · obtain ⟨t, a, b, rfl, _⟩ := h; rfl
  · obtain ⟨t, a, b, rfl, ht, k, q⟩ := h
    have nd := sc_is_kept.nd
    refine ⟨_, (pss_one (ps_ret (pe_and (pe_cal C_is_pair_in_lowest_terms (hr.mono (by decide)) (pa_cons (pv 0) pa_nil)) (pe_one (pe_chain3 op_le op_lt op_le pe_int (pe_ix ix_tup (pv 0) pe_int (fun _ _ => rfl)) (pe_ix ix_tup (pv 0) pe_int (fun _ _ => rfl)) (pe_gi B.MOST_PARTS)))))), ?_⟩
    refine ⟨.ref t, rfl, t, a, b, rfl, ht, k.g, true, rfl, iteT ?_⟩
    refine ⟨.ref t, rfl, t, _, 0, .int a, rfl, rfl, SqT.of ht, rfl, 1, a, rfl, rfl, _, rfl, ?_⟩
    rw [decide_eq_true k.a1]
    refine iteT ⟨.ref t, rfl, t, _, 1, .int b, rfl, rfl, SqT.of ht, rfl, a, b, rfl, rfl, _, rfl, ?_⟩
    rw [decide_eq_true k.ab]
    refine iteT ⟨b, 100, rfl, rfl, ?_⟩
    show Q (.bl (decide (b ≤ 100))) H
    rw [decide_eq_true k.b100]
    exact q

def sp_is_row (T : Addr) : Sp := fun vs H Q _ => ∃ l cs k, vs = [V.ref l, V.int k] ∧ LI H l cs ∧ cs.length ≤ 60 ∧ (∀ c ∈ cs, 0 ≤ c ∧ c ≤ k - 1) ∧ H T = some (TabO T) ∧ Q (.bl true) H
theorem map_get {ns : List Int} {i : Nat} {y : V} (h : (ns.map V.int)[i]? = some y) : ∃ n, ns[i]? = some n ∧ y = .int n := by
  rw [List.getElem?_map] at h
  cases e : ns[i]? with
  | none => rw [e] at h; cases h
  | some n => rw [e] at h; exact ⟨n, rfl, (Option.some.inj h).symm⟩
theorem get_map {ns : List Int} {i : Nat} {n : Int} (h : ns[i]? = some n) : (ns.map V.int)[i]? = some (.int n) := by
  rw [List.getElem?_map, h]; rfl
/-- all(..) over a list that stands still -/
theorem all_list {te : TE} {caps : L2.St} {Q : VK} {a : Addr} {xs : List V} {H : Hp} (hL : H a = some (.lst xs)) (h : ∀ (i : Nat) (y : V), xs[i]? = some y → ∀ R : VK, R (.bl true) H → te (some y :: caps) H R) (q : Q (.bl true) H) : rAllG te caps Q (Itl K a) H := by
  refine ⟨xs.length, fun _ H' => H' = H, rfl, fun H' e => ?_, fun i H' hi e => ?_⟩
  · subst e
    exact ⟨⟨xs, SqL.of hL, Nat.le_refl _⟩, q⟩
  · subst e
    refine ⟨⟨xs, xs[i], SqL.of hL, List.getElem?_eq_getElem hi⟩, fun y H2 hy => ?_⟩
    obtain ⟨e2, hy⟩ := hy
    subst e2
    exact h i y (hy xs (SqL.of hL)) _ ⟨true, rfl, iteT rfl⟩

def sp_is_list_of_liquids (T : Addr) : Sp := fun vs H Q _ => ∃ l cs k, vs = [V.ref l, V.int k] ∧ LI H l cs ∧ (∀ c ∈ cs, 0 ≤ c ∧ c ≤ k - 1) ∧ H T = some (TabO T) ∧ Q (.bl true) H
theorem ok_is_list_of_liquids {f : Addr} {fd : FuncData} {c : Addr} (F : FunC K "is_list_of_liquids" "is_list_of_liquids" s_is_list_of_liquids f fd c) (B : Bl mg) (C_is_within : Cal P w K mg base 2 "is_within" ["thing", "least", "most"] sp_is_within) {T : Addr} (TB_is_list_of_liquids : TabB base mg c T) : FnOk P w K mg base CX0 6 f fd ["thing", "liquids"] (sp_is_list_of_liquids T) := by
  refine F.ok sc_is_list_of_liquids (fun vs H Q E h => ?_) (fun A outer s H vs Q E hr h => ?_)
  · obtain ⟨l, cs, k, rfl, _⟩ := h; rfl
  · obtain ⟨l, cs, k, rfl, hl, hc, hT, q⟩ := h
    have hcode : (cxOf CX0 P w K mg base ["thing", "liquids"] "is_list_of_liquids" (defScope s_is_list_of_liquids) f (.ref c) A outer s H E).nox.env.code = .ref c := rfl
    have nd := sc_is_list_of_liquids.nd
    refine ⟨_, (pss_cons (ps_if (pt_cmpR op_neTy (pe_typeOf (by rfl) B.type (pv 0)) (pe_bltn (v := .ty "list") (by rfl) B.list (by decide +kernel) rfl) (nomark _))
      (pss_one (ps_ret pe_bl)) pss_nil)
      (pss_one (ps_ret (pe_allG (ns := [("liquids", 1)]) (k' := 2) (hr.mono (by decide)) (by rfl) B.all TB_is_list_of_liquids hcode (gok_by (N := ["thing", "liquids"]) (sc := defScope s_is_list_of_liquids) (by decide +kernel)) (by decide) (pi_list (pv 0)) (fun s H C code fp A hq => (pe_cal C_is_within (hq.mono (by decide)) (pa_cons (pv 0) (pa_cons pe_int (pa_cons (pe_op op_sub (pv 1) pe_int) pa_nil))))))))), ?_⟩
    refine ⟨.ref l, rfl, "list", by simp only [zTyV, hl], "list", rfl, rfl, TypeEq.meta_list, false, rfl, iteF ?_⟩
    refine ⟨.ref l, rfl, l, rfl, ⟨_, SqL.of hl⟩, hT, all_list hl (fun i y hy R r => ?_) q⟩
    obtain ⟨n, hn, rfl⟩ := map_get hy
    obtain ⟨h1, h2⟩ := hc n (List.mem_of_getElem? hn)
    exact ⟨.int n, rfl, .int k, rfl, k, 1, rfl, rfl, n, 0, k - 1, rfl, h1, h2, r⟩

theorem ok_is_row {f : Addr} {fd : FuncData}  (F : Fun K "is_row" "is_row" s_is_row f fd) (B : Bl mg) {T : Addr} (C_is_list_of_liquids : Cal P w K mg base 6 "is_list_of_liquids" ["thing", "liquids"] (sp_is_list_of_liquids T)) : FnOk P w K mg base CX0 7 f fd ["thing", "liquids"] (sp_is_row T) := by
  refine F.ok sc_is_row (fun vs H Q E h => ?_) (fun cdv A outer s H vs Q E hr h => ?_)
  · obtain ⟨l, cs, k, rfl, _⟩ := h; rfl
  · obtain ⟨l, cs, k, rfl, hl, h60, hc, hT, q⟩ := h
    have nd := sc_is_row.nd
    refine ⟨_, (pss_one (ps_ret (pe_and (pe_cal C_is_list_of_liquids (hr.mono (by decide)) (pa_cons (pv 0) (pa_cons (pv 1) pa_nil))) (pe_one (pe_cmpR op_le (pe_callB call_len_seq (by rfl) B.len PySem.boot_len (pa_cons (pv 0) pa_nil)) (pe_gi B.MOST_TOP_UPS) (nomark _)))))), ?_⟩
    refine ⟨.ref l, rfl, .int k, rfl, l, cs, k, rfl, hl, hc, hT, true, rfl, iteT ?_⟩
    refine ⟨.ref l, rfl, l, _, rfl, .inl (SqL.of hl), _, _, rfl, rfl, ?_⟩
    show Q (.bl (decide (((cs.map V.int).length : Int) ≤ 60))) H
    rw [decide_eq_true (by rw [List.length_map]; omega)]
    exact q

def sp_check_kept : Sp := fun vs H Q _ => ∃ t a b, vs = [V.ref t] ∧ H t = some (.tup [.int a, .int b]) ∧ Kep a b ∧ Q .non H
def sp_check_row (T : Addr) : Sp := fun vs H Q _ => ∃ l cs k, vs = [V.ref l, V.int k] ∧ LI H l cs ∧ cs.length ≤ 60 ∧ (∀ c ∈ cs, 0 ≤ c ∧ c ≤ k - 1) ∧ H T = some (TabO T) ∧ Q .non H
def sp_check_liquid : Sp := fun vs H Q _ => ∃ i k, vs = [V.int i, V.int k] ∧ 0 ≤ i ∧ i ≤ k - 1 ∧ Q .non H
def sp_check_number : Sp := fun vs H Q _ => ∃ i lo hi, vs = [V.int i, V.int lo, V.int hi] ∧ lo ≤ i ∧ i ≤ hi ∧ Q .non H

theorem ok_check_kept {f : Addr} {fd : FuncData}  (F : Fun K "check_kept" "check_kept" s_check_kept f fd) (B : Bl mg) (C_is_kept : Cal P w K mg base 3 "is_kept" ["thing"] sp_is_kept) : FnOk P w K mg base CX0 4 f fd ["kept"] (sp_check_kept) := by
  refine F.ok sc_check_kept (fun vs H Q E h => ?_) (fun cdv A outer s H vs Q E hr h => ?_)
  · obtain ⟨t, a, b, rfl, _⟩ := h; rfl
  · obtain ⟨t, a, b, rfl, ht, k, q⟩ := h
    have nd := sc_check_kept.nd
    refine ⟨_, (pss_one (ps_if (pt_not (pt_val (pe_cal C_is_kept (hr.mono (by decide)) (pa_cons (pv 0) pa_nil))))
      (pss_one ps_never) pss_nil)), ?_⟩
    exact ⟨.ref t, rfl, t, a, b, rfl, ht, k, true, rfl, iteF q⟩

theorem ok_check_row {f : Addr} {fd : FuncData}  (F : Fun K "check_row" "check_row" s_check_row f fd) (B : Bl mg) {T : Addr} (C_is_row : Cal P w K mg base 7 "is_row" ["thing", "liquids"] (sp_is_row T)) : FnOk P w K mg base CX0 8 f fd ["row", "liquids"] (sp_check_row T) := by
  refine F.ok sc_check_row (fun vs H Q E h => ?_) (fun cdv A outer s H vs Q E hr h => ?_)
  · obtain ⟨l, cs, k, rfl, _⟩ := h; rfl
  · obtain ⟨l, cs, k, rfl, hl, h60, hc, hT, q⟩ := h
    have nd := sc_check_row.nd
    refine ⟨_, (pss_one (ps_if (pt_not (pt_val (pe_cal C_is_row (hr.mono (by decide)) (pa_cons (pv 0) (pa_cons (pv 1) pa_nil)))))
      (pss_one ps_never) pss_nil)), ?_⟩
    exact ⟨.ref l, rfl, .int k, rfl, l, cs, k, rfl, hl, h60, hc, hT, true, rfl, iteF q⟩

theorem ok_check_liquid {f : Addr} {fd : FuncData}  (F : Fun K "check_liquid" "check_liquid" s_check_liquid f fd) (B : Bl mg) (C_is_within : Cal P w K mg base 2 "is_within" ["thing", "least", "most"] sp_is_within) : FnOk P w K mg base CX0 3 f fd ["liquid", "liquids"] (sp_check_liquid) := by
  refine F.ok sc_check_liquid (fun vs H Q E h => ?_) (fun cdv A outer s H vs Q E hr h => ?_)
  · obtain ⟨i, k, rfl, _⟩ := h; rfl
  · obtain ⟨i, k, rfl, h1, h2, q⟩ := h
    have nd := sc_check_liquid.nd
    refine ⟨_, (pss_one (ps_if (pt_not (pt_val (pe_cal C_is_within (hr.mono (by decide)) (pa_cons (pv 0) (pa_cons pe_int (pa_cons (pe_op op_sub (pv 1) pe_int) pa_nil))))))
      (pss_one ps_never) pss_nil)), ?_⟩
    exact ⟨.int i, rfl, .int k, rfl, k, 1, rfl, rfl, i, 0, k - 1, rfl, h1, h2, true, rfl, iteF q⟩


def sp_common_divisor : Sp := fun vs H Q _ => ∃ l ns, vs = [V.ref l] ∧ LI H l ns ∧ Q (.int ((gcdN ns : Nat) : Int)) H

theorem ok_common_divisor {f : Addr} {fd : FuncData}  (F : Fun K "common_divisor" "common_divisor" s_common_divisor f fd) (B : Bl mg)  : FnOk P w K mg base CX0 1 f fd ["numbers"] (sp_common_divisor) := by
  refine F.ok sc_common_divisor (fun vs H Q E h => ?_) (fun cdv A outer s H vs Q E hr h => ?_)
  · obtain ⟨l, ns, rfl, _⟩ := h; rfl
  · obtain ⟨l, ns, rfl, hl, q⟩ := h
    have nd := sc_common_divisor.nd
    refine ⟨_, (pss_cons (ps_set (i := 1) nd rfl (Or.inl rfl) pe_int)
      (pss_cons (ps_for PassesOwn.never rfl (pi_list (pv 0)) (pg_name (i := 2) nd rfl (Or.inl rfl)) (pss_one (ps_set (i := 1) nd rfl (Or.inl rfl) (pe_callBfun cr_gcd (by rfl) B.gcd (pa_cons (pv 1) (pa_cons (pv 2) pa_nil))))))
      (pss_one (ps_ret (pv 1))))), ?_⟩
    refine ⟨.ref l, rfl, l, rfl, ⟨_, SqL.of hl⟩, for_list (xs := ns.map V.int) (fun i σ H' => ∃ y, σ = [some (.ref l), some (.int ((gcdN (ns.take i) : Nat) : Int)), y] ∧ H' = H) ⟨none, rfl, rfl⟩ (fun i σ H' _ ⟨_, _, e⟩ => by rw [e]; exact SqL.of hl) (fun i x σ H' hx ⟨y, e1, e2⟩ => ?_) (fun σ H' ⟨y, e1, e2⟩ => ?_)⟩
    · subst e1 e2
      obtain ⟨n, hn, rfl⟩ := map_get hx
      refine ⟨.int ((gcdN (ns.take i) : Nat) : Int), rfl, .int n, rfl, _, n, rfl, some (.int n), ?_, rfl⟩
      rw [gcdN_take hn]
      rfl
    · subst e1 e2
      rw [List.length_map, List.take_length]
      exact ⟨_, rfl, q⟩

def sp_without_divisor : Sp := fun vs H Q _ => ∃ l ns, vs = [V.ref l] ∧ LI H l ns ∧ Amt ns ∧ ns.length ≤ 100 ∧ gcdN ns < 2 ^ 8000 ∧ ∀ p H', Same H H' → H p = none → LI H' p (plain ns) → Q (.ref p) H'

theorem ok_without_divisor {f : Addr} {fd : FuncData}  (F : Fun K "without_divisor" "without_divisor" s_without_divisor f fd) (B : Bl mg) (C_common_divisor : Cal P w K mg base 1 "common_divisor" ["numbers"] sp_common_divisor) : FnOk P w K mg base CX0 2 f fd ["numbers"] (sp_without_divisor) := by
  refine F.ok sc_without_divisor (fun vs H Q E h => ?_) (fun cdv A outer s H vs Q E hr h => ?_)
  · obtain ⟨l, ns, rfl, _⟩ := h; rfl
  · obtain ⟨l, ns, rfl, hl, ha, hz, hg, q⟩ := h
    have nd := sc_without_divisor.nd
    refine ⟨_, (pss_cons (ps_set (i := 1) nd rfl (Or.inr rfl) (pe_cal C_common_divisor (hr.mono (by decide)) (pa_cons (pv 0) pa_nil)))
      (pss_one (ps_ret (pe_lc (own := [("number", 2)]) (g := gName 2) rfl nd (pi_list (pv 0)) (blkOk_by (own := [("number", 2)]) (N := ["numbers", "divisor", "number"]) (sc := defScope s_without_divisor) (by decide +kernel)) (fun _ _ _ _ _ => (pg_name (i := 2) nd rfl (Or.inl rfl))) (fun _ _ _ _ _ => pts_nil) (fun _ _ _ _ _ => (pe_op op_fdivW (pv 2) (pv 1))))))), ?_⟩
    refine ⟨.ref l, rfl, l, ns, rfl, hl, ?_⟩
    refine ⟨.ref l, rfl, l, rfl, ⟨_, SqL.of hl⟩, fun D hD => lc_list (xs := ns.map V.int) (fun i H' => Same H H' ∧ H' D = some (.lst (((plain ns).take i).map V.int))) ⟨same_new hD, upd_same⟩ (fun i H' _ ⟨e, _⟩ => SqL.of (e l _ hl)) (fun i x H' hx ⟨e1, e2⟩ => ?_) (fun H' ⟨e1, e2⟩ => ?_)⟩
    · obtain ⟨n, hn, rfl⟩ := map_get hx
      have hpos := gcdN_pos ha
      refine ⟨rfl, .int n, rfl, .int ((gcdN ns : Nat) : Int), rfl, n, _, rfl, rfl, wide_div (by omega) (b := 8000) (by rw [Int.natAbs_natCast]; exact hg) (by decide) (by decide), _, e2, ?_, fun b x hb => ?_, ?_⟩
      · rw [List.length_map, List.length_take]
        have := plain_len ns
        show min i (plain ns).length < 16777216
        omega
      · rw [upd_ne (ne_of_none hb hD)]
        exact e1 b x hb
      · have hp : (plain ns)[i]? = some (n / ((gcdN ns : Nat) : Int)) := by
          unfold Ma.plain
          rw [List.getElem?_map, hn]
          rfl
        rw [upd_same, List.take_add_one, hp, List.map_append]
        rfl
    · rw [List.length_map, ← plain_len ns, List.take_length] at e2
      exact q D H' e1 hD e2

end
end K29
end

section
set_option Elab.async false
set_option linter.all false
set_option maxRecDepth 100000
set_option maxHeartbeats 4000000
namespace K29
open PySem PySem.Spec PyProof.Rows L2 GxR Gx Ma
section
variable {P : Program} {w : World} {K : PySem.W.Frag} {mg : Str → Option Value} {base : Heap}

def sp_is_list_of_amounts (T : Addr) : Sp := fun vs H Q _ => ∃ l ns, vs = [V.ref l] ∧ LI H l ns ∧ 0 < ns.length ∧ ns.length ≤ 8 ∧ (∀ n ∈ ns, 0 ≤ n) ∧ H T = some (TabO T) ∧ Q (.bl true) H

theorem ok_is_list_of_amounts {f : Addr} {fd : FuncData} {c : Addr} (F : FunC K "is_list_of_amounts" "is_list_of_amounts" s_is_list_of_amounts f fd c) (B : Bl mg) (C_is_integer : Cal P w K mg base 1 "is_integer" ["thing"] sp_is_integer) {T : Addr} (TB_is_list_of_amounts : TabB base mg c T) : FnOk P w K mg base CX0 5 f fd ["thing"] (sp_is_list_of_amounts T) := by
  refine F.ok sc_is_list_of_amounts (fun vs H Q E h => ?_) (fun A outer s H vs Q E hr h => ?_)
  · obtain ⟨l, ns, rfl, _⟩ := h; rfl
  · obtain ⟨l, ns, rfl, hl, h1, h8, hn, hT, q⟩ := h
    have hcode : (cxOf CX0 P w K mg base ["thing"] "is_list_of_amounts" (defScope s_is_list_of_amounts) f (.ref c) A outer s H E).nox.env.code = .ref c := rfl
    have nd := sc_is_list_of_amounts.nd
    refine ⟨_, (pss_cons (ps_if (PW.pt (pw_or (pt_cmpR op_neTy (pe_typeOf (by rfl) B.type (pv 0)) (pe_bltn (v := .ty "list") (by rfl) B.list (by decide +kernel) rfl) (nomark _)) (pw_or1 (pt_not (pt_chain op_le op_le pe_int (pe_callB call_len_seq (by rfl) B.len PySem.boot_len (pa_cons (pv 0) pa_nil)) (pe_gi B.MOST_LIQUIDS))))))
      (pss_one (ps_ret pe_bl)) pss_nil)
      (pss_one (ps_ret (pe_allG (ns := []) (k' := 1) (hr.mono (by decide)) (by rfl) B.all TB_is_list_of_amounts hcode (gok_by (N := ["thing"]) (sc := defScope s_is_list_of_amounts) (by decide +kernel)) (by decide) (pi_list (pv 0)) (fun s H C code fp A hq => (pe_and (pe_cal C_is_integer (hq.mono (by decide)) (pa_cons (pv 0) pa_nil)) (pe_one (pe_cmpR op_ge (pv 0) pe_int (nomark _))))))))), ?_⟩
    refine ⟨.ref l, rfl, "list", by simp only [zTyV, hl], "list", rfl, rfl, TypeEq.meta_list, false, rfl, iteF ?_⟩
    refine ⟨.ref l, rfl, l, _, rfl, .inl (SqL.of hl), 1, _, rfl, rfl, _, rfl, ?_⟩
    rw [decide_eq_true (by rw [List.length_map]; omega)]
    refine iteT ⟨_, 8, rfl, rfl, _, rfl, ?_⟩
    rw [decide_eq_true (by rw [List.length_map]; omega)]
    refine iteF ⟨.ref l, rfl, l, rfl, ⟨_, SqL.of hl⟩, hT, all_list hl (fun i y hy R r => ?_) q⟩
    obtain ⟨n, e, rfl⟩ := map_get hy
    refine ⟨.int n, rfl, n, rfl, true, rfl, iteT ⟨.int n, rfl, n, 0, rfl, rfl, ?_⟩⟩
    show R (.bl (decide (0 ≤ n))) H
    rw [decide_eq_true (hn n (List.mem_of_getElem? e))]
    exact r

def sp_is_content (T : Addr) : Sp := fun vs H Q _ => ∃ l ns, vs = [V.ref l] ∧ LI H l ns ∧ Con ns ∧ H T = some (TabO T) ∧ Q (.bl true) H
def sp_check_content (T : Addr) : Sp := fun vs H Q _ => ∃ l ns, vs = [V.ref l] ∧ LI H l ns ∧ Con ns ∧ H T = some (TabO T) ∧ Q .non H

theorem ok_is_content {f : Addr} {fd : FuncData}  (F : Fun K "is_content" "is_content" s_is_content f fd) (B : Bl mg) {T : Addr} (C_is_list_of_amounts : Cal P w K mg base 5 "is_list_of_amounts" ["thing"] (sp_is_list_of_amounts T)) (C_common_divisor : Cal P w K mg base 1 "common_divisor" ["numbers"] sp_common_divisor) : FnOk P w K mg base CX0 6 f fd ["thing"] (sp_is_content T) := by
  refine F.ok sc_is_content (fun vs H Q E h => ?_) (fun cdv A outer s H vs Q E hr h => ?_)
  · obtain ⟨l, ns, rfl, _⟩ := h; rfl
  · obtain ⟨l, ns, rfl, hl, hc, hT, q⟩ := h
    have nd := sc_is_content.nd
    refine ⟨_, (pss_one (ps_ret (pe_and (pe_cal C_is_list_of_amounts (hr.mono (by decide)) (pa_cons (pv 0) pa_nil)) (pe_one (pe_cmpR op_eq (pe_cal C_common_divisor (hr.mono (by decide)) (pa_cons (pv 0) pa_nil)) pe_int (nomark _)))))), ?_⟩
    refine ⟨.ref l, rfl, l, ns, rfl, hl, hc.len, hc.le8, hc.nn, hT, true, rfl, iteT ⟨.ref l, rfl, l, ns, rfl, hl, rfl, ?_⟩⟩
    rw [hc.g]
    exact q

theorem ok_check_content {f : Addr} {fd : FuncData}  (F : Fun K "check_content" "check_content" s_check_content f fd) (B : Bl mg) {T : Addr} (C_is_content : Cal P w K mg base 6 "is_content" ["thing"] (sp_is_content T)) : FnOk P w K mg base CX0 7 f fd ["content"] (sp_check_content T) := by
  refine F.ok sc_check_content (fun vs H Q E h => ?_) (fun cdv A outer s H vs Q E hr h => ?_)
  · obtain ⟨l, ns, rfl, _⟩ := h; rfl
  · obtain ⟨l, ns, rfl, hl, hc, hT, q⟩ := h
    have nd := sc_check_content.nd
    refine ⟨_, (pss_one (ps_if (pt_not (pt_val (pe_cal C_is_content (hr.mono (by decide)) (pa_cons (pv 0) pa_nil))))
      (pss_one ps_never) pss_nil)), ?_⟩
    exact ⟨.ref l, rfl, l, ns, rfl, hl, hc, hT, true, rfl, iteF q⟩

/-- the fraction of two numbers without a common divisor -/
def fr (a b : Int) : Int × Int := (a / ((Nat.gcd a.natAbs b.natAbs : Nat) : Int), b / ((Nat.gcd a.natAbs b.natAbs : Nat) : Int))
def sp_share_of (T : Addr) : Sp := fun vs H Q _ => ∃ l ns n i, vs = [V.ref l, V.int i] ∧ LI H l ns ∧ Con ns ∧ ns.sum < 2 ^ 8000 ∧ 0 ≤ i ∧ ns[i.toNat]? = some n ∧ H T = some (TabO T) ∧ ∀ p H', Same H H' → H p = none → H' p = some (.tup [.int (fr n ns.sum).1, .int (fr n ns.sum).2]) → Q (.ref p) H'
theorem fr_gcd {n m : Int} (hm : 0 < m) (h : m < 2 ^ 8000) : (0 : Int) < ((Nat.gcd n.natAbs m.natAbs : Nat) : Int) ∧ ((Nat.gcd n.natAbs m.natAbs : Nat) : Int).natAbs < 2 ^ 8000 := by
  have h0 : 0 < m.natAbs := by omega
  have h1 := Nat.gcd_le_right n.natAbs h0
  have h2 := Nat.gcd_pos_of_pos_right n.natAbs h0
  refine ⟨by omega, ?_⟩
  rw [Int.natAbs_natCast]
  omega
theorem atI_map {ns : List Int} {i n : Int} (h0 : 0 ≤ i) (h : ns[i.toNat]? = some n) : atI (ns.map V.int) i = some (.int n) := by
  obtain ⟨j, rfl⟩ := Int.eq_ofNat_of_zero_le h0
  exact atI_nat (get_map h)

def sp_low : Sp := fun vs H Q _ => ∃ a b : Int, vs = [V.int a, V.int b] ∧ 0 < b ∧ b < 2 ^ 8000 ∧ ∀ p H', Same H H' → H p = none → H' p = some (.tup [.int (fr a b).1, .int (fr a b).2]) → Q (.ref p) H'

theorem ok_lowest_terms {f : Addr} {fd : FuncData}  (F : Fun K "lowest_terms" "lowest_terms" s_lowest_terms f fd) (B : Bl mg)  : FnOk P w K mg base CX0 1 f fd ["top", "bottom"] (sp_low) := by
  refine F.ok sc_lowest_terms (fun vs H Q E h => ?_) (fun cdv A outer s H vs Q E hr h => ?_)
  · obtain ⟨n, m, rfl, _⟩ := h; rfl
  · obtain ⟨n, m, rfl, hs, hz, q⟩ := h
    obtain ⟨g1, g2⟩ := fr_gcd (n := n) hs hz
    have nd := sc_lowest_terms.nd
    refine ⟨_, (pss_cons (ps_set (i := 2) nd rfl (Or.inl rfl) (pe_callBfun cr_gcd (by rfl) B.gcd (pa_cons (pv 0) (pa_cons (pv 1) pa_nil))))
      (pss_one (ps_ret (pe_tup (pa_cons (pe_op op_fdivW (pv 0) (pv 2)) (pa_cons (pe_op op_fdivW (pv 1) (pv 2)) pa_nil)))))), ?_⟩
    refine ⟨.int n, rfl, .int m, rfl, n, m, rfl, ?_⟩
    refine ⟨.int n, rfl, _, rfl, n, _, rfl, rfl, wide_div g1 g2 (by decide) (by decide), .int m, rfl, _, rfl, m, _, rfl, rfl, wide_div g1 g2 (by decide) (by decide), by show 2 ≤ 16777216; decide, fun p hp => ?_⟩
    exact q p _ (same_new hp) hp upd_same

theorem ok_share_of {f : Addr} {fd : FuncData}  (F : Fun K "share_of" "share_of" s_share_of f fd) (B : Bl mg) {T : Addr} (C_check_content : Cal P w K mg base 7 "check_content" ["content"] (sp_check_content T)) (C_check_liquid : Cal P w K mg base 3 "check_liquid" ["liquid", "liquids"] sp_check_liquid) (C_lowest_terms : Cal P w K mg base 1 "lowest_terms" ["top", "bottom"] sp_low) : FnOk P w K mg base CX0 8 f fd ["content", "liquid"] (sp_share_of T) := by
  refine F.ok sc_share_of (fun vs H Q E h => ?_) (fun cdv A outer s H vs Q E hr h => ?_)
  · obtain ⟨l, ns, n, i, rfl, _⟩ := h; rfl
  · obtain ⟨l, ns, n, i, rfl, hl, hc, hz, h0, hi, hT, q⟩ := h
    have hlt := (List.getElem?_eq_some_iff.mp hi).1
    have hs := hc.amt.pos
    have nd := sc_share_of.nd
    refine ⟨_, (pss_cons (ps_expr (pe_cal C_check_content (hr.mono (by decide)) (pa_cons (pv 0) pa_nil)))
      (pss_cons (ps_expr (pe_cal C_check_liquid (hr.mono (by decide)) (pa_cons (pv 1) (pa_cons (pe_callB call_len_seq (by rfl) B.len PySem.boot_len (pa_cons (pv 0) pa_nil)) pa_nil))))
      (pss_one (ps_ret (pe_cal C_lowest_terms (hr.mono (by decide)) (pa_cons (pe_ix ix_list (pv 0) (pv 1) (fun _ _ => rfl)) (pa_cons (pe_callB (cr_sum rfl) (by rfl) B.sum (by decide +kernel) (pa_cons (pv 0) pa_nil)) pa_nil))))))), ?_⟩
    refine ⟨.ref l, rfl, l, ns, rfl, hl, hc, hT, ?_⟩
    refine ⟨.int i, rfl, .ref l, rfl, l, _, rfl, .inl (SqL.of hl), i, _, rfl, h0, by rw [List.length_map]; omega, ?_⟩
    refine ⟨.ref l, rfl, .int i, rfl, l, _, i, _, rfl, rfl, SqL.of hl, atI_map h0 hi, ?_⟩
    refine ⟨.ref l, rfl, l, ns, rfl, SqL.of hl, ?_⟩
    exact ⟨n, ns.sum, rfl, hs, hz, q⟩

def pur (k i : Nat) : List Int := (List.replicate k 0).set i 1
theorem rep_flat (v : V) : ∀ k : Nat, (List.replicate k [v]).flatten = List.replicate k v
  | 0 => rfl
  | k + 1 => by rw [List.replicate_succ, List.flatten_cons, rep_flat v k]; rfl
theorem ixN_of {n j : Nat} (h : j < n) : ixN n (j : Int) = some j := by
  unfold ixN
  rw [if_pos (by omega), if_pos (by omega), Int.toNat_natCast]
def sp_pure_content : Sp := fun vs H Q _ => ∃ k i : Nat, vs = [V.int k, V.int i] ∧ 1 ≤ k ∧ k ≤ 8 ∧ i < k ∧ ∀ p H', Same H H' → H p = none → LI H' p (pur k i) → Q (.ref p) H'


end
end K29
end

section
set_option Elab.async false
set_option linter.all false
set_option maxRecDepth 100000
set_option maxHeartbeats 4000000
namespace K29
open PySem PySem.Spec PyProof.Rows L2 GxR Gx Ma
section
variable {P : Program} {w : World} {K : PySem.W.Frag} {mg : Str → Option Value} {base : Heap}

theorem gcd_le_sum {ns : List Int} (h : Amt ns) : ((gcdN ns : Nat) : Int) ≤ ns.sum := by
  have e := plain_sum h
  have hg := gcdN_pos h
  have hs := h.pos
  have h1 : 0 < (Ma.plain ns).sum := by
    by_cases z : 0 < (Ma.plain ns).sum
    · exact z
    · have : (Ma.plain ns).sum * ((gcdN ns : Nat) : Int) ≤ 0 * ((gcdN ns : Nat) : Int) := Int.mul_le_mul_of_nonneg_right (by omega) (by omega)
      omega
  have h2 : 1 * ((gcdN ns : Nat) : Int) ≤ (Ma.plain ns).sum * ((gcdN ns : Nat) : Int) := Int.mul_le_mul_of_nonneg_right (by omega) (by omega)
  omega
def sp_content_behind : Sp := fun vs H Q _ => ∃ l t ns a b, ∃ c : Nat, vs = [V.ref l, V.ref t, V.int c] ∧ LI H l ns ∧ Con ns ∧ H t = some (.tup [.int a, .int b]) ∧ Kep a b ∧ c < ns.length ∧ ns.sum < 2 ^ 7900 ∧ ∀ p H', Same H H' → H p = none → LI H' p (step ns a b c) → Q (.ref p) H'
theorem pow_le_of {m n : Nat} (h : m ≤ n) : (2 : Int) ^ m ≤ 2 ^ n := by
  have := Nat.pow_le_pow_right (show 0 < 2 by decide) h
  exact_mod_cast this
theorem abs_lt {n : Int} {k : Nat} (h0 : 0 ≤ n) (h : n < 2 ^ k) : n.natAbs < 2 ^ k := by
  have e : ((n.natAbs : Nat) : Int) = n := Int.natAbs_of_nonneg h0
  have : ((n.natAbs : Nat) : Int) < ((2 ^ k : Nat) : Int) := by
    rw [e]
    have e2 : ((2 ^ k : Nat) : Int) = (2 : Int) ^ k := by rw [Int.natCast_pow]; rfl
    rw [e2]
    exact h
  exact Int.ofNat_lt.mp this

theorem ok_content_behind {f : Addr} {fd : FuncData}  (F : Fun K "content_behind" "content_behind" s_content_behind f fd) (B : Bl mg) (C_without_divisor : Cal P w K mg base 2 "without_divisor" ["numbers"] sp_without_divisor) : FnOk P w K mg base CX0 3 f fd ["content", "kept", "liquid"] (sp_content_behind) := by
  refine F.ok sc_content_behind (fun vs H Q E h => ?_) (fun cdv A outer s H vs Q E hr h => ?_)
  · obtain ⟨l, t, ns, a, b, c, rfl, _⟩ := h; rfl
  · obtain ⟨l, t, ns, a, b, c, rfl, hl, hc, ht, k, hcl, hz, q⟩ := h
    obtain ⟨k1, k2, k3, k4⟩ := k
    have hs := hc.amt.pos
    have nd := sc_content_behind.nd
    refine ⟨_, (pss_cons (ps_asg (pv 1) (pg_tup (by rfl) (pgs_cons (pg_name (i := 3) nd rfl (Or.inr rfl)) (pgs_cons (pg_name (i := 4) nd rfl (Or.inl rfl)) pgs_nil))))
      (pss_cons (ps_setLc (i := 5) (own := [("amount", 6)]) (g := gName 6) rfl nd rfl rfl (sw_true rfl rfl rfl (by decide +kernel)) (pi_list (pv 0)) (blkOk_by (own := [("amount", 6)]) (N := ["content", "kept", "liquid", "stays", "whole", "mixture", "amount"]) (sc := defScope s_content_behind) (by decide +kernel)) (fun _ _ _ _ _ => (pg_name (i := 6) nd rfl (Or.inl rfl))) (fun _ _ _ _ _ => pts_nil) (fun _ _ _ _ _ => (pe_op op_mulW (pv 6) (pv 3))))
      (pss_cons (ps_augS (pv 5) (pv 2) get_list (pe_op op_mulW (pe_op op_sub (pv 4) (pv 3)) (pe_callB (cr_sum rfl) (by rfl) B.sum (by decide +kernel) (pa_cons (pv 0) pa_nil))) ip_add set_list)
      (pss_one (ps_ret (pe_cal C_without_divisor (hr.mono (by decide)) (pa_cons (pv 5) pa_nil))))))), ?_⟩
    refine ⟨.ref t, rfl, t, [_, _], rfl, SqT.of ht, rfl, _, _, rfl, _, _, rfl, rfl, ?_⟩
    refine ⟨.ref l, rfl, l, rfl, ⟨_, SqL.of hl⟩, fun D hD => lc_list (xs := ns.map V.int) (fun i H' => Same H H' ∧ H' D = some (.lst (((ns.map fun n => n * a).take i).map V.int))) ⟨same_new hD, upd_same⟩ (fun i H' _ ⟨e, _⟩ => SqL.of (e l _ hl)) (fun i x H' hx ⟨e1, e2⟩ => ?_) (fun H' ⟨e1, e2⟩ => ?_)⟩
    · obtain ⟨n, hn, rfl⟩ := map_get hx
      have hm := List.mem_of_getElem? hn
      have hn0 := hc.nn n hm
      have hn1 := le_sum hc.nn hm
      refine ⟨rfl, .int n, rfl, .int a, rfl, n, a, rfl, rfl, wide_mul (a := 7900) (b := 7) (abs_lt hn0 (Int.lt_of_le_of_lt hn1 hz)) (abs_lt (by omega) (by omega)) (by decide) (by decide) (by decide), _, e2, ?_, fun b x hb => ?_, ?_⟩
      · have := hc.le8
        rw [List.length_map, List.length_take, List.length_map]
        show min i ns.length < 16777216
        omega
      · rw [upd_ne (ne_of_none hb hD)]
        exact e1 b x hb
      · have hp : (ns.map fun n => n * a)[i]? = some (n * a) := by
          rw [List.getElem?_map, hn]
          rfl
        rw [upd_same, List.take_add_one, hp, List.map_append]
        rfl
    · have e2 : LI H' D (ns.map fun n => n * a) := by
        show H' D = _
        rw [e2, List.length_map, List.take_of_length_le (by rw [List.length_map]; exact Nat.le_refl _)]
      have hcm : (ns.map fun n => n * a)[c]? = some (ns.getD c 0 * a) := by
        rw [List.getElem?_map, List.getD_eq_getElem?_getD, List.getElem?_eq_getElem hcl]
        rfl
      have hba : (b - a).natAbs < 2 ^ 7 := abs_lt (by omega) (by omega)
      refine ⟨.ref D, rfl, .int c, rfl, D, _, c, .int (ns.getD c 0 * a), rfl, rfl, SqL.of e2, by omega, get_map hcm, ?_⟩
      refine ⟨.int b, rfl, .int a, rfl, b, a, rfl, rfl, .ref l, rfl, l, ns, rfl, SqL.of (e1 l _ hl), b - a, ns.sum, rfl, rfl, wide_mul (a := 7) (b := 7900) hba (abs_lt (by omega) hz) (by decide) (by decide) (by decide), ?_⟩
      refine ⟨_, _, rfl, rfl, D, _, c, c, rfl, rfl, e2, ixN_of (by rw [List.length_map, List.length_map]; exact hcl), ?_⟩
      have hk : Kep a b := ⟨k1, k2, k3, k4⟩
      have ha := pre_amt hc hk hcl
      have hps := pre_sum (a := a) (b := b) hcl
      have e3 : upd H' D (.lst (((ns.map fun n => n * a).map V.int).set c (.int (ns.getD c 0 * a + (b - a) * ns.sum)))) D = some (.lst ((pre ns a b c).map V.int)) := by
        rw [upd_same]
        unfold pre
        rw [List.map_set]
      refine ⟨.ref D, rfl, D, pre ns a b c, rfl, e3, ha, ?_, ?_, fun p H2 s2 np e4 => ?_⟩
      · rw [pre_len]
        have := hc.le8
        omega
      · have h1 := gcd_le_sum ha
        rw [hps] at h1
        have h2 : b * ns.sum ≤ 100 * ns.sum := Int.mul_le_mul_of_nonneg_right k3 (by omega)
        have h3 : (100 : Int) * ns.sum < 2 ^ 8000 := by
          have e : (2 : Int) ^ 8000 = 2 ^ 100 * 2 ^ 7900 := by rw [← Int.pow_add]
          have h4 : (2 : Int) ^ 7 * 2 ^ 7900 ≤ 2 ^ 100 * 2 ^ 7900 := Int.mul_le_mul_of_nonneg_right (pow_le_of (by decide)) (Int.le_of_lt (Int.pow_pos (by decide)))
          have h5 : (128 : Int) * ns.sum ≤ 2 ^ 7 * 2 ^ 7900 := Int.mul_le_mul_of_nonneg_left (Int.le_of_lt hz) (by decide)
          omega
        have h6 := abs_lt (n := ((gcdN (pre ns a b c) : Nat) : Int)) (by omega) (Int.lt_of_le_of_lt (Int.le_trans h1 h2) h3)
        rw [Int.natAbs_natCast] at h6
        exact h6
      · refine q p H2 (fun x u hx => s2 x u ?_) (Same.free (fun x u hx => ?_) np) e4
        · rw [upd_ne (ne_of_none hx hD)]
          exact e1 x u hx
        · rw [upd_ne (ne_of_none hx hD)]
          exact e1 x u hx

end
end K29
end

section
set_option Elab.async false
set_option linter.all false
set_option maxRecDepth 100000
set_option maxHeartbeats 4000000
namespace K29
open PySem PySem.Spec PyProof.Rows L2 GxR Gx Ma
section
variable {P : Program} {w : World} {K : PySem.W.Frag} {mg : Str → Option Value} {base : Heap}

/-- the content behind i top-ups, each by its own kept share -/
def ctn (ns : List Int) (ks : List (Int × Int)) (cs : List Nat) : Nat → List Int
  | 0 => ns
  | i + 1 => step (ctn ns ks cs i) (ks.getD i (1, 2)).1 (ks.getD i (1, 2)).2 (cs.getD i 0)
structure Rowy (ns : List Int) (ks : List (Int × Int)) (cs : List Nat) : Prop where
  con : Con ns
  len : ks.length = cs.length
  c60 : cs.length ≤ 60
  kep : ∀ q ∈ ks, Kep q.1 q.2
  liq : ∀ c ∈ cs, c < ns.length
theorem getD_mem {α : Type} {l : List α} {i : Nat} {d : α} (h : i < l.length) : l.getD i d ∈ l := by
  rw [List.getD_eq_getElem?_getD, List.getElem?_eq_getElem h]
  exact List.getElem_mem h
theorem ctn_len (ns : List Int) (ks : List (Int × Int)) (cs : List Nat) : ∀ i, (ctn ns ks cs i).length = ns.length
  | 0 => rfl
  | i + 1 => by rw [← ctn_len ns ks cs i]; exact step_len ..
theorem ctn_con {ns : List Int} {ks : List (Int × Int)} {cs : List Nat} (R : Rowy ns ks cs) : ∀ i, i ≤ cs.length → Con (ctn ns ks cs i)
  | 0, _ => R.con
  | i + 1, h => by
    have hik : i < ks.length := by have := R.len; omega
    have hic : i < cs.length := by omega
    exact step_con (ctn_con R i (by omega)) (R.kep _ (getD_mem hik)) (by rw [ctn_len]; exact R.liq _ (getD_mem hic))
theorem ctn_sum {ns : List Int} {ks : List (Int × Int)} {cs : List Nat} (R : Rowy ns ks cs) : ∀ i, i ≤ cs.length → (ctn ns ks cs i).sum ≤ 100 ^ i * ns.sum
  | 0, _ => by show ns.sum ≤ 100 ^ 0 * ns.sum; rw [Int.pow_zero, Int.one_mul]; exact Int.le_refl _
  | i + 1, h => by
    have hik : i < ks.length := by have := R.len; omega
    have hic : i < cs.length := by omega
    have h1 := step_sum (ctn_con R i (by omega)) (R.kep _ (getD_mem (d := (1, 2)) hik)) (c := cs.getD i 0) (by rw [ctn_len]; exact R.liq _ (getD_mem hic))
    have h2 := ctn_sum R i (by omega)
    have h3 : (100 : Int) * (ctn ns ks cs i).sum ≤ 100 * (100 ^ i * ns.sum) := Int.mul_le_mul_of_nonneg_left h2 (by decide)
    have e : (100 : Int) ^ (i + 1) * ns.sum = 100 * (100 ^ i * ns.sum) := by rw [Int.pow_succ, Int.mul_comm ((100 : Int) ^ i) 100, Int.mul_assoc]
    rw [e]
    exact Int.le_trans h1 h3
theorem hund_le (i : Nat) (h : i ≤ 60) : (100 : Int) ^ i ≤ 2 ^ 420 := by
  have h1 : (100 : Nat) ^ i ≤ 100 ^ 60 := Nat.pow_le_pow_right (by decide) h
  have h2 : (100 : Nat) ^ 60 ≤ 2 ^ 420 := by decide +kernel
  have h3 : (100 : Nat) ^ i ≤ 2 ^ 420 := Nat.le_trans h1 h2
  exact_mod_cast h3
theorem ctn_small {ns : List Int} {ks : List (Int × Int)} {cs : List Nat} {m : Nat} (R : Rowy ns ks cs) (i : Nat) (hi : i ≤ cs.length) (hz : ns.sum < 2 ^ m) : (ctn ns ks cs i).sum < 2 ^ (m + 420) := by
  have h1 := ctn_sum R i hi
  have hs := R.con.amt.pos
  have h2 : (100 : Int) ^ i * ns.sum ≤ 2 ^ 420 * ns.sum := Int.mul_le_mul_of_nonneg_right (hund_le i (by have := R.c60; omega)) (by omega)
  have h3 : (2 : Int) ^ 420 * ns.sum < 2 ^ 420 * 2 ^ m := Int.mul_lt_mul_of_pos_left hz (Int.pow_pos (by decide))
  have e : (2 : Int) ^ (m + 420) = 2 ^ 420 * 2 ^ m := by rw [Int.pow_add, Int.mul_comm]
  rw [e]
  exact Int.lt_of_le_of_lt (Int.le_trans h1 h2) h3
/-- a list of n + 1 new lists of ints -/
structure Rows (H H' : Hp) (p : Addr) (ps : List Addr) (n : Nat) (v : Nat → List Int) : Prop where
  at_ : H' p = some (.lst (ps.map V.ref))
  len : ps.length = n
  row : ∀ i a, ps[i]? = some a → LI H' a (v i)
  new : ∀ a ∈ ps, H a = none
  nd : ps.Nodup
  out : p ∉ ps
  pnew : H p = none
theorem Rows.grow {H H' H2 : Hp} {p a : Addr} {ps : List Addr} {n : Nat} {v : Nat → List Int} (R : Rows H H' p ps n v) (s : Same H H') (e : Same H' H2) (na : H' a = none) (ha : LI H2 a (v n)) : Rows H (upd H2 p (.lst (ps.map V.ref ++ [.ref a]))) p (ps ++ [a]) (n + 1) v := by
  have hpa : a ≠ p := fun z => by rw [z, R.at_] at na; cases na
  refine ⟨?_, ?_, fun i b hb => ?_, fun b hb => ?_, ?_, fun z => ?_, R.pnew⟩
  · rw [upd_same, List.map_append]
    rfl
  · rw [List.length_append, R.len]
    rfl
  · by_cases hi : i < ps.length
    · rw [List.getElem?_append_left hi] at hb
      have hbp : b ≠ p := fun z => R.out (by rw [← z]; exact List.mem_of_getElem? hb)
      show upd H2 p _ b = _
      rw [upd_ne hbp]
      exact e b _ (R.row i b hb)
    · have hi2 := (List.getElem?_eq_some_iff.mp hb).1
      rw [List.length_append] at hi2
      have e1 : i = ps.length := by
        have : i < ps.length + 1 := hi2
        omega
      rw [e1, List.getElem?_append_right (Nat.le_refl _), Nat.sub_self] at hb
      have e2 : a = b := Option.some.inj hb
      rw [← e2, e1, R.len]
      show upd H2 p _ a = _
      rw [upd_ne hpa]
      exact ha
  · rcases List.mem_append.mp hb with z | z
    · exact R.new b z
    · rw [List.mem_singleton.mp z]
      exact s.free na
  · refine List.nodup_append.mpr ⟨R.nd, List.nodup_cons.mpr ⟨List.not_mem_nil, List.nodup_nil⟩, fun x hx y hy z => ?_⟩
    rw [List.mem_singleton.mp hy] at z
    obtain ⟨i, hi⟩ := List.getElem?_of_mem hx
    have := R.row i x hi
    rw [z] at this
    have t2 : H' a = some _ := this
    rw [na] at t2
    cases t2
  · rcases List.mem_append.mp z with z | z
    · exact R.out z
    · exact hpa (List.mem_singleton.mp z).symm
theorem Rows.last {H H' : Hp} {p : Addr} {ps : List Addr} {n : Nat} {v : Nat → List Int} (R : Rows H H' p ps (n + 1) v) : ∃ a, atI (ps.map V.ref) (-1) = some (.ref a) ∧ LI H' a (v n) ∧ ps[n]? = some a := by
  have hl := R.len
  have hn : n < ps.length := by omega
  have e : ps.map V.ref = (ps.take n).map V.ref ++ [.ref ps[n]] := by
    have e1 : ps = ps.take n ++ [ps[n]] := by
      have := List.take_append_getElem hn
      rw [this, List.take_of_length_le (by omega)]
    conv => lhs; rw [e1]
    rw [List.map_append]
    rfl
  refine ⟨ps[n], ?_, R.row n _ (List.getElem?_eq_getElem hn), List.getElem?_eq_getElem hn⟩
  rw [e]
  exact atI_last _ _
def rowI (cs : List Nat) : List Int := cs.map fun (c : Nat) => (c : Int)
theorem rowI_get {cs : List Nat} {i : Nat} {y : V} (h : ((rowI cs).map V.int)[i]? = some y) : i < cs.length ∧ y = .int ((cs.getD i 0 : Nat) : Int) := by
  obtain ⟨n, hn, rfl⟩ := map_get h
  unfold rowI at hn
  rw [List.getElem?_map] at hn
  cases e : cs[i]? with
  | none => rw [e] at hn; cases hn
  | some c =>
    rw [e] at hn
    refine ⟨(List.getElem?_eq_some_iff.mp e).1, ?_⟩
    rw [List.getD_eq_getElem?_getD, e]
    exact congrArg V.int (Option.some.inj hn).symm
/-- a list of tuples of two ints -/
structure Keeps (H : Hp) (l : Addr) (ts : List Addr) (ks : List (Int × Int)) : Prop where
  at_ : H l = some (.lst (ts.map V.ref))
  len : ts.length = ks.length
  tup : ∀ i t, ts[i]? = some t → H t = some (.tup [.int (ks.getD i (1, 2)).1, .int (ks.getD i (1, 2)).2])
theorem Keeps.same {H H' : Hp} {l : Addr} {ts : List Addr} {ks : List (Int × Int)} (k : Keeps H l ts ks) (e : Same H H') : Keeps H' l ts ks := ⟨e _ _ k.at_, k.len, fun i t h => e _ _ (k.tup i t h)⟩
def sp_contents_by : Sp := fun vs H Q _ => ∃ l kl r ns ts ks cs, vs = [V.ref l, V.ref kl, V.ref r] ∧ LI H l ns ∧ Keeps H kl ts ks ∧ LI H r (rowI cs) ∧ Rowy ns ks cs ∧ ns.sum < 2 ^ 7000 ∧ ∀ p ps H', Same H H' → Rows H H' p ps (cs.length + 1) (ctn ns ks cs) → Q (.ref p) H'
theorem same_upd_new {H H' : Hp} {p : Addr} {o : HO} (e : Same H H') (h : H p = none) : Same H (upd H' p o) := fun b x hb => by
  rw [upd_ne (ne_of_none hb h)]
  exact e b x hb

theorem ok_contents_by {f : Addr} {fd : FuncData}  (F : Fun K "contents_by" "contents_by" s_contents_by f fd) (B : Bl mg) (C_content_behind : Cal P w K mg base 3 "content_behind" ["content", "kept", "liquid"] sp_content_behind) : FnOk P w K mg base CX0 4 f fd ["content", "keeps", "row"] (sp_contents_by) := by
  refine F.ok sc_contents_by (fun vs H Q E h => ?_) (fun cdv A outer s H vs Q E hr h => ?_)
  · obtain ⟨l, kl, r, ns, ts, ks, cs, rfl, _⟩ := h; rfl
  · obtain ⟨l, kl, r, ns, ts, ks, cs, rfl, hl, hk, hr2, R, hz, q⟩ := h
    have h60 := R.c60
    have hlen := R.len
    have nd := sc_contents_by.nd
    refine ⟨_, (pss_cons (ps_set (i := 3) nd rfl (Or.inl rfl) (pe_lst (pa_cons (pe_callTy call_list_of (by rfl) B.list (by decide +kernel) (pa_cons (pv 0) pa_nil)) pa_nil)))
      (pss_cons (ps_for PassesOwn.never rfl (pi_zip (by rfl) B.zip (pa_cons (pv 1) (pa_cons (pv 2) pa_nil))) (pg_tup (by rfl) (pgs_cons (pg_name (i := 4) nd rfl (Or.inl rfl)) (pgs_cons (pg_name (i := 5) nd rfl (Or.inl rfl)) pgs_nil))) (pss_one (ps_expr (pe_bm PySem.F.plainAttrs_list PySem.F.slot_list_append PySem.F.type_list_append mt_append (pv 3) (pa_cons (pe_cal C_content_behind (hr.mono (by decide)) (pa_cons (pe_ix ix_list (pv 3) (pe_un un_neg pe_int) (fun _ _ => rfl)) (pa_cons (pv 4) (pa_cons (pv 5) pa_nil)))) pa_nil)))))
      (pss_one (ps_ret (pv 3))))), ?_⟩
    refine ⟨.ref l, rfl, l, _, rfl, .inl (SqL.of hl), fun o no => ?_⟩
    have s1 : Same H (upd H o (.lst (ns.map V.int))) := same_new no
    refine ⟨by show 1 ≤ 16777216; decide, fun C nC => ?_⟩
    have s2 : Same (upd H o (.lst (ns.map V.int))) (upd (upd H o (.lst (ns.map V.int))) C (.lst [.ref o])) := same_new nC
    have noC : o ≠ C := fun e => by rw [← e, upd_same] at nC; cases nC
    refine ⟨.ref kl, rfl, .ref r, rfl, kl, r, ts.map V.ref, (rowI cs).map V.int, rfl, SqL.of (s2 _ _ (s1 _ _ hk.at_)), SqL.of (s2 _ _ (s1 _ _ hr2)), ?_⟩
    have h0 : Rows H (upd (upd H o (.lst (ns.map V.int))) C (.lst [.ref o])) C [o] 1 (ctn ns ks cs) := by
      refine ⟨upd_same, rfl, fun i a ha => ?_, fun a ha => ?_, by simp, fun z => noC (List.mem_singleton.mp z).symm, s1.free nC⟩
      · cases i with
        | zero =>
          have e : o = a := Option.some.inj ha
          rw [← e]
          show upd _ C _ o = _
          rw [upd_ne noC, upd_same]
          rfl
        | succ i => simp at ha
      · rw [List.mem_singleton.mp ha]
        exact no
    refine RZ.for_zipL (by rw [List.length_map, List.length_map]; unfold rowI; rw [List.length_map, hk.len]; exact hlen) (fun i σ H' => ∃ y4 y5 ps, σ = [some (.ref l), some (.ref kl), some (.ref r), some (.ref C), y4, y5] ∧ i ≤ cs.length ∧ Same H H' ∧ Rows H H' C ps (i + 1) (ctn ns ks cs))
      ⟨none, none, [o], rfl, Nat.zero_le _, s1.trans s2, h0⟩ (fun i σ H' ⟨_, _, _, _, _, e, _⟩ => ⟨SqL.of (e _ _ hk.at_), SqL.of (e _ _ hr2)⟩) (fun i x y T σ H' hx hy hP nT => ?_) (fun σ H' hP => ?_)
    · obtain ⟨y4, y5, ps, rfl, hi, e, RR⟩ := hP
      obtain ⟨hic, rfl⟩ := rowI_get hy
      rw [List.getElem?_map] at hx
      cases ht : ts[i]? with
      | none => rw [ht] at hx; cases hx
      | some t =>
        rw [ht] at hx
        have ex : V.ref t = x := Option.some.inj hx
        subst ex
        have htup := hk.tup i t ht
        have sT : Same H' (upd H' T (.tup [.ref t, .int ((cs.getD i 0 : Nat) : Int)])) := same_new nT
        obtain ⟨a, ea, la, _⟩ := RR.last
        have hCT := sT _ _ RR.at_
        refine ⟨T, _, rfl, SqT.of upd_same, rfl, _, _, rfl, _, _, rfl, rfl, ?_⟩
        refine ⟨.ref C, rfl, .inl ⟨rfl, _, SqL.of hCT⟩, ?_⟩
        refine ⟨.ref C, rfl, 1, rfl, C, _, -1, _, rfl, rfl, SqL.of hCT, ea, .ref t, rfl, .int ((cs.getD i 0 : Nat) : Int), rfl, ?_⟩
        refine ⟨a, t, ctn ns ks cs i, (ks.getD i (1, 2)).1, (ks.getD i (1, 2)).2, cs.getD i 0, rfl, sT _ _ la, ctn_con R i hi, sT _ _ (e _ _ htup), R.kep _ (getD_mem (by omega)), by rw [ctn_len]; exact R.liq _ (getD_mem hic), ?_, fun p H2 s3 np lp => ?_⟩
        · exact Int.lt_of_lt_of_le (ctn_small R i hi hz) (pow_le_of (by decide))
        · refine ⟨C, _, _, rfl, rfl, s3 _ _ hCT, ?_, ?_⟩
          · rw [List.length_map, RR.len]
            show i + 1 < 16777216
            omega
          · exact ⟨some (.ref t), some (.int ((cs.getD i 0 : Nat) : Int)), ps ++ [p], rfl, hic, same_upd_new (e.trans (sT.trans s3)) RR.pnew, RR.grow e (sT.trans s3) (sT.free np) lp⟩
    · obtain ⟨y4, y5, ps, rfl, hi, e, RR⟩ := hP
      have el : (ts.map V.ref).length = cs.length := by rw [List.length_map, hk.len]; exact hlen
      rw [el] at RR
      exact ⟨.ref C, rfl, q C ps H' e RR⟩

end
end K29
end

section
set_option Elab.async false
set_option linter.all false
set_option maxRecDepth 100000
set_option maxHeartbeats 4000000
namespace K29
open PySem PySem.Spec PyProof.Rows L2 GxR Gx Ma
section
variable {P : Program} {w : World} {K : PySem.W.Frag} {mg : Str → Option Value} {base : Heap}

def ctn1 (ns : List Int) (a b : Int) (cs : List Nat) : Nat → List Int := ctn ns (List.replicate cs.length (a, b)) cs
structure Row1 (ns : List Int) (a b : Int) (cs : List Nat) : Prop where
  con : Con ns
  c60 : cs.length ≤ 60
  kep : Kep a b
  liq : ∀ c ∈ cs, c < ns.length
theorem Row1.y {ns : List Int} {a b : Int} {cs : List Nat} (R : Row1 ns a b cs) : Rowy ns (List.replicate cs.length (a, b)) cs :=
  ⟨R.con, List.length_replicate, R.c60, fun q hq => by rw [(List.mem_replicate.mp hq).2]; exact R.kep, R.liq⟩
theorem keeps_rep {H : Hp} {l t : Addr} {a b : Int} {n : Nat} (h : H l = some (.lst ((List.replicate n t).map V.ref))) (ht : H t = some (.tup [.int a, .int b])) : Keeps H l (List.replicate n t) (List.replicate n (a, b)) := by
  refine ⟨h, by rw [List.length_replicate, List.length_replicate], fun i u hu => ?_⟩
  have hi := (List.getElem?_eq_some_iff.mp hu).1
  rw [List.length_replicate] at hi
  have e : t = u := by
    rw [List.getElem?_replicate, if_pos hi] at hu
    exact Option.some.inj hu
  rw [← e, List.getD_eq_getElem?_getD, List.getElem?_replicate, if_pos hi]
  exact ht
theorem rowI_le {cs : List Nat} {k : Nat} (h : ∀ c ∈ cs, c < k) : ∀ c ∈ rowI cs, 0 ≤ c ∧ c ≤ (k : Int) - 1 := fun c hc => by
  obtain ⟨m, hm, e⟩ := List.mem_map.mp hc
  have := h m hm
  have e2 : (m : Int) = c := e
  omega
def sp_contents_along (Tc Tr : Addr) : Sp := fun vs H Q _ => ∃ l t r ns a b cs, vs = [V.ref l, V.ref t, V.ref r] ∧ LI H l ns ∧ H t = some (.tup [.int a, .int b]) ∧ LI H r (rowI cs) ∧ Row1 ns a b cs ∧ ns.sum < 2 ^ 7000 ∧ H Tc = some (TabO Tc) ∧ H Tr = some (TabO Tr) ∧
  ∀ p ps H', Same H H' → Rows H H' p ps (cs.length + 1) (ctn1 ns a b cs) → Q (.ref p) H'
def sp_topped_row (Tc Tr : Addr) : Sp := fun vs H Q _ => ∃ l t r ns a b cs, vs = [V.ref l, V.ref t, V.ref r] ∧ LI H l ns ∧ H t = some (.tup [.int a, .int b]) ∧ LI H r (rowI cs) ∧ Row1 ns a b cs ∧ ns.sum < 2 ^ 7000 ∧ H Tc = some (TabO Tc) ∧ H Tr = some (TabO Tr) ∧
  ∀ p H', Same H H' → H p = none → LI H' p (ctn1 ns a b cs cs.length) → Q (.ref p) H'
theorem Rows.back {H0 H H' : Hp} {p : Addr} {ps : List Addr} {n : Nat} {v : Nat → List Int} (R : Rows H H' p ps n v) (s : Same H0 H) : Rows H0 H' p ps n v := ⟨R.at_, R.len, R.row, fun a h => s.free (R.new a h), R.nd, R.out, s.free R.pnew⟩

theorem ok_contents_along {f : Addr} {fd : FuncData}  (F : Fun K "contents_along" "contents_along" s_contents_along f fd) (B : Bl mg) {Tc : Addr} (C_check_content : Cal P w K mg base 7 "check_content" ["content"] (sp_check_content Tc)) (C_check_kept : Cal P w K mg base 4 "check_kept" ["kept"] sp_check_kept) {Tr : Addr} (C_check_row : Cal P w K mg base 8 "check_row" ["row", "liquids"] (sp_check_row Tr)) (C_contents_by : Cal P w K mg base 4 "contents_by" ["content", "keeps", "row"] sp_contents_by) : FnOk P w K mg base CX0 9 f fd ["content", "kept", "row"] (sp_contents_along Tc Tr) := by
  refine F.ok sc_contents_along (fun vs H Q E h => ?_) (fun cdv A outer s H vs Q E hr h => ?_)
  · obtain ⟨l, t, r, ns, a, b, cs, rfl, _⟩ := h; rfl
  · obtain ⟨l, t, r, ns, a, b, cs, rfl, hl, ht, hr2, R, hz, hTc, hTr, q⟩ := h
    have h60 := R.c60
    have hlen : (rowI cs).length = cs.length := by unfold rowI; rw [List.length_map]
    have nd := sc_contents_along.nd
    refine ⟨_, (pss_cons (ps_expr (pe_cal C_check_content (hr.mono (by decide)) (pa_cons (pv 0) pa_nil)))
      (pss_cons (ps_expr (pe_cal C_check_kept (hr.mono (by decide)) (pa_cons (pv 1) pa_nil)))
      (pss_cons (ps_expr (pe_cal C_check_row (hr.mono (by decide)) (pa_cons (pv 2) (pa_cons (pe_callB call_len_seq (by rfl) B.len PySem.boot_len (pa_cons (pv 0) pa_nil)) pa_nil))))
      (pss_one (ps_ret (pe_cal C_contents_by (hr.mono (by decide)) (pa_cons (pv 0) (pa_cons (pe_op op_rep (pe_lst (pa_cons (pv 1) pa_nil)) (pe_callB call_len_seq (by rfl) B.len PySem.boot_len (pa_cons (pv 2) pa_nil))) (pa_cons (pv 2) pa_nil))))))))), ?_⟩
    refine ⟨.ref l, rfl, l, ns, rfl, hl, R.con, hTc, ?_⟩
    refine ⟨.ref t, rfl, t, a, b, rfl, ht, R.kep, ?_⟩
    refine ⟨.ref r, rfl, .ref l, rfl, l, _, rfl, .inl (SqL.of hl), r, rowI cs, _, rfl, hr2, by omega, ?_, hTr, ?_⟩
    · rw [List.length_map]
      exact rowI_le R.liq
    · refine ⟨.ref l, rfl, .ref t, rfl, by show 1 ≤ 16777216; decide, fun o no => ?_⟩
      have s1 : Same H (upd H o (.lst [.ref t])) := same_new no
      refine ⟨.ref r, rfl, r, _, rfl, .inl (SqL.of (s1 _ _ hr2)), o, (((rowI cs).map V.int).length : Int), [.ref t], rfl, rfl, upd_same, ?_, ?_, ?_, fun p hp => ?_⟩
      · omega
      · rw [List.length_map, hlen]; omega
      · rw [List.length_map, hlen, Int.toNat_natCast]
        show 1 * cs.length ≤ 16777216
        omega
      · rw [List.length_map, hlen, Int.toNat_natCast, rep_flat]
        have s2 : Same (upd H o (.lst [.ref t])) (upd (upd H o (.lst [.ref t])) p (.lst (List.replicate cs.length (V.ref t)))) := same_new hp
        have s3 := s1.trans s2
        refine ⟨.ref r, rfl, l, p, r, ns, List.replicate cs.length t, List.replicate cs.length (a, b), cs, rfl, s3 _ _ hl, keeps_rep (by rw [upd_same, List.map_replicate]) (s3 _ _ ht), s3 _ _ hr2, R.y, hz, fun p2 ps H' s4 RR => ?_⟩
        exact q p2 ps H' (s3.trans s4) (RR.back s3)

theorem ok_topped_row {f : Addr} {fd : FuncData}  (F : Fun K "topped_row" "topped_row" s_topped_row f fd) (B : Bl mg) {Tc Tr : Addr} (C_contents_along : Cal P w K mg base 9 "contents_along" ["content", "kept", "row"] (sp_contents_along Tc Tr)) : FnOk P w K mg base CX0 10 f fd ["content", "kept", "row"] (sp_topped_row Tc Tr) := by
  refine F.ok sc_topped_row (fun vs H Q E h => ?_) (fun cdv A outer s H vs Q E hr h => ?_)
  · obtain ⟨l, t, r, ns, a, b, cs, rfl, _⟩ := h; rfl
  · obtain ⟨l, t, r, ns, a, b, cs, rfl, hl, ht, hr2, R, hz, hTc, hTr, q⟩ := h
    have nd := sc_topped_row.nd
    refine ⟨_, (pss_one (ps_ret (pe_ix ix_list (pe_cal C_contents_along (hr.mono (by decide)) (pa_cons (pv 0) (pa_cons (pv 1) (pa_cons (pv 2) pa_nil)))) (pe_un un_neg pe_int) (fun _ _ => rfl)))), ?_⟩
    refine ⟨.ref l, rfl, .ref t, rfl, .ref r, rfl, l, t, r, ns, a, b, cs, rfl, hl, ht, hr2, R, hz, hTc, hTr, fun p ps H' s1 RR => ?_⟩
    obtain ⟨x, e1, e2, e3⟩ := RR.last
    exact ⟨1, rfl, p, _, -1, _, rfl, rfl, SqL.of RR.at_, e1, q x H' s1 (RR.new x (List.mem_of_getElem? e3)) e2⟩

end
end K29
end

section
set_option Elab.async false
set_option linter.all false
set_option maxRecDepth 100000
set_option maxHeartbeats 4000000
namespace K29
open PySem PySem.Spec PyProof.Rows L2 GxR Gx Ma
section
variable {P : Program} {w : World} {K : PySem.W.Frag} {mg : Str → Option Value} {base : Heap}

/-- all that is tracked but what stands at j is as it was -/
def But (j : Addr) (H H' : Hp) : Prop := ∀ b o, b ≠ j → H b = some o → H' b = some o
theorem But.refl (j : Addr) (H : Hp) : But j H H := fun _ _ _ h => h
theorem But.trans {j : Addr} {H H1 H2 : Hp} (a : But j H H1) (b : But j H1 H2) : But j H H2 := fun x o n h => b x o n (a x o n h)
theorem But.of {j : Addr} {H H' : Hp} (e : Same H H') : But j H H' := fun x o _ h => e x o h
theorem But.upd {j : Addr} {H H' : Hp} {o : HO} (e : But j H H') : But j H (upd H' j o) := fun x u n h => by
  rw [upd_ne n]
  exact e x u n h
theorem But.same {j : Addr} {H H' : Hp} (e : But j H H') (h : H j = none) : Same H H' := fun x o q => e x o (ne_of_none q h) q
theorem But.same2 {j : Addr} {H0 H H' : Hp} (e : But j H H') (s : Same H0 H) (h : H0 j = none) : Same H0 H' := fun x o q => e x o (ne_of_none q h) (s x o q)
/-- a jar that was asked at most n times -/
def Jar (H : Hp) (j : Addr) (n : Nat) : Prop := ∃ x y z : Int, H j = some (.lst [.int x, .int y, .int z]) ∧ 0 ≤ x ∧ 0 ≤ y ∧ y < 2 ^ 160 ∧ 0 ≤ z ∧ z ≤ n
theorem Jar.le {H : Hp} {j : Addr} {n m : Nat} (h : Jar H j n) (hn : n ≤ m) : Jar H j m := let ⟨x, y, z, e, a, b, c, d, f⟩ := h; ⟨x, y, z, e, a, b, c, d, by omega⟩
theorem Jar.free {H H' : Hp} {j p : Addr} {n : Nat} (h : Jar H j n) (e : But j H H') (h' : Jar H' j m) (hp : H' p = none) : H p = none := by
  have hpj : p ≠ j := fun z => by
    obtain ⟨_, _, _, q, _⟩ := h'
    rw [z, q] at hp
    cases hp
  cases q : H p with
  | none => rfl
  | some o => rw [e p o hpj q] at hp; cases hp
theorem Jar.keep {H H' : Hp} {j : Addr} {n : Nat} (h : Jar H j n) (e : Same H H') : Jar H' j n := let ⟨x, y, z, q, r⟩ := h; ⟨x, y, z, e _ _ q, r⟩
theorem Jar.ne {H : Hp} {j p : Addr} {n : Nat} (h : Jar H j n) (hp : H p = none) : p ≠ j := fun z => by
  obtain ⟨_, _, _, q, _⟩ := h
  rw [z, q] at hp
  cases hp
def sp_dip : Sp := fun vs H Q _ => ∃ j m n, vs = [V.ref j, V.int m] ∧ Jar H j n ∧ n ≤ 1000000 ∧ 1 ≤ m ∧ m < 2 ^ 8000 ∧ ∀ d H', But j H H' → (∀ b, H' b = none → H b = none) → Jar H' j (n + 1) → 0 ≤ d → d < m → Q (.int d) H'
theorem pw {i j : Int} (b : Nat) (h0 : 0 ≤ j) (h : i.natAbs < 2 ^ b) (hb : 0 < b) (hm : (b : Int) * j ≤ 134217728) : CPowW i j := ⟨h0, b, h, hb, hm⟩
theorem upd_none {H : Hp} {j : Addr} {o : HO} : ∀ b, upd H j o b = none → H b = none := fun b h => by
  by_cases e : b = j
  · rw [e, upd_same] at h; cases h
  · rw [upd_ne e] at h; exact h

theorem ok__law_dip {f : Addr} {fd : FuncData}  (F : Fun K "_law_dip" "_law_dip" s__law_dip f fd) (B : Bl mg)  : FnOk P w K mg base CX0 1 f fd ["jar", "many"] (sp_dip) := by
  refine F.ok sc__law_dip (fun vs H Q E h => ?_) (fun cdv A outer s H vs Q E hr h => ?_)
  · obtain ⟨j, m, n, rfl, _⟩ := h; rfl
  · obtain ⟨j, m, n, rfl, ⟨x, y, z, hj, hx, hy, hy2, hz, hz2⟩, hn, hm, hm2, q⟩ := h
    have hmd : CDivW x m := wide_div (by omega) (abs_lt (by omega) hm2) (by decide) (by decide)
    have nd := sc__law_dip.nd
    refine ⟨_, (pss_cons (ps_if (pt_cmpR op_gt (pe_ix ix_list (pv 0) pe_int (fun _ _ => rfl)) pe_int (nomark _))
      (pss_cons (ps_set (i := 2) nd rfl (Or.inl rfl) (pe_op op_mod (pe_callTy call_int1 (by rfl) B.int (by decide +kernel) (pa_cons (pe_ix ix_list (pv 0) pe_int (fun _ _ => rfl)) pa_nil)) (pv 1)))
      (pss_cons (ps_asg (pe_op op_fdivW (pe_ix ix_list (pv 0) pe_int (fun _ _ => rfl)) (pv 1)) (pg_sub (pv 0) pe_int set_list))
      (pss_one (ps_ret (pv 2))))) pss_nil)
      (pss_cons (ps_asg (pe_op op_add (pe_ix ix_list (pv 0) pe_int (fun _ _ => rfl)) pe_int) (pg_sub (pv 0) pe_int set_list))
      (pss_cons (ps_set (i := 3) nd rfl (Or.inl rfl) (pe_op op_mod (pe_callTy call_int1 (by rfl) B.int (by decide +kernel) (pa_cons (pe_op op_powW (pe_op op_add (pe_ix ix_list (pv 0) pe_int (fun _ _ => rfl)) (pe_op op_mulW pe_int (pe_ix ix_list (pv 0) pe_int (fun _ _ => rfl)))) pe_int) pa_nil)) (pe_op op_add (pe_op op_powW pe_int pe_int) pe_int)))
      (pss_cons (ps_set (i := 3) nd rfl (Or.inl rfl) (pe_op op_mod (pe_callTy call_int1 (by rfl) B.int (by decide +kernel) (pa_cons (pe_op op_powW (pe_op op_add (pv 3) (pe_op op_mulW pe_int (pe_ix ix_list (pv 0) pe_int (fun _ _ => rfl)))) pe_int) pa_nil)) (pe_op op_add (pe_op op_powW pe_int pe_int) pe_int)))
      (pss_one (ps_ret (pe_op op_mod (pe_callTy call_int1 (by rfl) B.int (by decide +kernel) (pa_cons (pe_op op_fdivW (pv 3) pe_int) pa_nil)) (pv 1)))))))), ?_⟩
    refine ⟨.ref j, rfl, j, _, 0, .int x, rfl, rfl, SqL.of hj, rfl, x, 0, rfl, rfl, _, rfl, ite2 (fun _ => ?_) (fun _ => ?_)⟩
    · refine ⟨.ref j, rfl, j, _, 0, .int x, rfl, rfl, SqL.of hj, rfl, .inl ⟨x, rfl, .int m, rfl, x, m, rfl, rfl, by show (0 : Int) < m; omega, ?_⟩⟩
      refine ⟨.ref j, rfl, j, _, 0, .int x, rfl, rfl, SqL.of hj, rfl, .int m, rfl, x, m, rfl, rfl, hmd, .ref j, rfl, j, _, 0, 0, rfl, rfl, hj, rfl, ?_⟩
      refine ⟨.int (x % m), rfl, q _ _ (But.refl j H).upd upd_none ⟨x / m, y, z, upd_same, Int.ediv_nonneg hx (by omega), hy, hy2, hz, by omega⟩ (Int.emod_nonneg _ (by omega)) (Int.emod_lt_of_pos _ (by omega))⟩
    · refine ⟨.ref j, rfl, j, _, 2, .int z, rfl, rfl, SqL.of hj, rfl, z, 1, rfl, rfl, .ref j, rfl, j, _, 2, 2, rfl, rfl, hj, rfl, ?_⟩
      have hj2 : upd H j (.lst ([V.int x, V.int y, V.int z].set 2 (.int (z + 1)))) j = some (.lst [.int x, .int y, .int (z + 1)]) := upd_same
      have hz3 : (z + 1).natAbs < 2 ^ 21 := abs_lt (by omega) (by omega)
      have hb1 : (y + 60000049 * (z + 1)).natAbs < 2 ^ 161 := abs_lt (by omega) (by omega)
      refine ⟨.ref j, rfl, j, _, 1, .int y, rfl, rfl, SqL.of hj2, rfl, .ref j, rfl, j, _, 2, .int (z + 1), rfl, rfl, SqL.of hj2, rfl, 60000049, z + 1, rfl, rfl, wide_mul (a := 26) (b := 21) (by decide) hz3 (by decide) (by decide) (by decide), y, _, rfl, rfl, _, 3, rfl, rfl, pw 161 (by decide) hb1 (by decide) (by decide), .inl ⟨_, rfl, 10, 47, rfl, rfl, pw 4 (by decide) (by decide) (by decide) (by decide), _, 91, rfl, rfl, _, _, rfl, rfl, by show (0 : Int) < 10 ^ (47 : Int).toNat + 91; decide +kernel, ?_⟩⟩
      dsimp only
      generalize hm1 : (y + 60000049 * (z + 1)) ^ (3 : Int).toNat % (10 ^ (47 : Int).toNat + 91) = m1
      have p47 : (10 : Int) ^ (47 : Int).toNat + 91 < 2 ^ 160 := by decide +kernel
      have n47 : (0 : Int) < (10 : Int) ^ (47 : Int).toNat + 91 := by decide +kernel
      have m10 : 0 ≤ m1 := by rw [← hm1]; exact Int.emod_nonneg _ (by omega)
      have m11 : m1 < 2 ^ 160 := Int.lt_trans (by rw [← hm1]; exact Int.emod_lt_of_pos _ n47) p47
      have hb2 : (m1 + 35000021 * (z + 1)).natAbs < 2 ^ 161 := abs_lt (by omega) (by omega)
      refine ⟨.int m1, rfl, .ref j, rfl, j, _, 2, .int (z + 1), rfl, rfl, SqL.of hj2, rfl, 35000021, z + 1, rfl, rfl, wide_mul (a := 26) (b := 21) (by decide) hz3 (by decide) (by decide) (by decide), m1, _, rfl, rfl, _, 3, rfl, rfl, pw 161 (by decide) hb2 (by decide) (by decide), .inl ⟨_, rfl, 10, 46, rfl, rfl, pw 4 (by decide) (by decide) (by decide) (by decide), _, 79, rfl, rfl, _, _, rfl, rfl, by show (0 : Int) < 10 ^ (46 : Int).toNat + 79; decide +kernel, ?_⟩⟩
      refine ⟨_, rfl, _, 1073741827, rfl, rfl, wide_div (by decide) (b := 31) (by decide) (by decide) (by decide), .inl ⟨_, rfl, .int m, rfl, _, m, rfl, rfl, by show (0 : Int) < m; omega, ?_⟩⟩
      exact q _ _ (But.refl j H).upd upd_none ⟨x, y, z + 1, hj2, hx, hy, hy2, by omega, by omega⟩ (Int.emod_nonneg _ (by omega)) (Int.emod_lt_of_pos _ (by omega))

def sp_jar (K : PySem.W.Frag) : Sp := fun vs H Q _ => ∃ (s : Addr) (ns : List Int) (k : Nat), vs = [V.ref s, V.int k] ∧ SqL K H s (ns.map V.int) ∧ k ≤ 100 ∧ ∀ p H', Same H H' → H p = none → Jar H' p 0 → Q (.ref p) H'

end
end K29
end

section
set_option Elab.async false
set_option linter.all false
set_option maxRecDepth 100000
set_option maxHeartbeats 4000000
namespace K29
open PySem PySem.Spec PyProof.Rows L2 GxR Gx Ma
section
variable {P : Program} {w : World} {K : PySem.W.Frag} {mg : Str → Option Value} {base : Heap}

theorem n18 : (0 : Int) < 10 ^ (43 : Int).toNat + 57 := by decide +kernel
theorem jar_at {H : Hp} {p : Addr} (c : Int) (k : Nat) (hk : k ≤ 100) (x : Int) (hx : 0 ≤ x) : Jar (upd H p (.lst [.int x, .int (c % (10 ^ (43 : Int).toNat + 57) * 101 + 70001 * (k : Int)), .int 0])) p 0 := by
  have h1 : 0 ≤ c % (10 ^ (43 : Int).toNat + 57) := Int.emod_nonneg _ (by have := n18; omega)
  have h2 : c % (10 ^ (43 : Int).toNat + 57) < 10 ^ (43 : Int).toNat + 57 := Int.emod_lt_of_pos _ n18
  have h3 : ((10 : Int) ^ (43 : Int).toNat + 57) * 101 + 7000100 < 2 ^ 160 := by decide +kernel
  exact ⟨_, _, _, upd_same, hx, by omega, by omega, by omega, by omega⟩
theorem mod_small (c : Int) : (c % (10 ^ (43 : Int).toNat + 57)).natAbs < 2 ^ 150 := by
  have h1 : 0 ≤ c % (10 ^ (43 : Int).toNat + 57) := Int.emod_nonneg _ (by have := n18; omega)
  have h2 : c % (10 ^ (43 : Int).toNat + 57) < 10 ^ (43 : Int).toNat + 57 := Int.emod_lt_of_pos _ n18
  have h3 : (10 : Int) ^ (43 : Int).toNat + 57 < 2 ^ 150 := by decide +kernel
  exact abs_lt h1 (by omega)
theorem max_nn (x : Int) : (0 : Int) ≤ (if x > 0 then x else 0) := by split <;> omega

theorem ok__law_jar {f : Addr} {fd : FuncData}  (F : Fun K "_law_jar" "_law_jar" s__law_jar f fd) (B : Bl mg)  : FnOk P w K mg base CX0 1 f fd ["script", "k"] (sp_jar K) := by
  refine F.ok sc__law_jar (fun vs H Q E h => ?_) (fun cdv A outer s H vs Q E hr h => ?_)
  · obtain ⟨s0, ns, k, rfl, _⟩ := h; rfl
  · obtain ⟨s0, ns, k, rfl, hs, hk, q⟩ := h
    have nd := sc__law_jar.nd
    refine ⟨_, (pss_cons (ps_set (i := 2) nd rfl (Or.inl rfl) (pe_ifExp (pt_cmpR op_lt (pv 1) (pe_callB call_len_seq (by rfl) B.len PySem.boot_len (pa_cons (pv 0) pa_nil)) (nomark _)) (pe_callB call_abs (by rfl) B.abs (by decide +kernel) (pa_cons (pe_ix ix_list (pv 0) (pv 1) (fun _ _ => rfl)) pa_nil)) pe_int))
      (pss_one (ps_ret (pe_lst (pa_cons (pe_callB (call_max2 rfl) (by rfl) B.max (by decide +kernel) (pa_cons pe_int (pa_cons (pe_op op_sub (pv 2) (pe_op op_powW pe_int pe_int)) pa_nil))) (pa_cons (pe_op op_add (pe_op op_mulW (pe_op op_mod (pe_callTy call_int1 (by rfl) B.int (by decide +kernel) (pa_cons (pv 2) pa_nil)) (pe_op op_add (pe_op op_powW pe_int pe_int) pe_int)) pe_int) (pe_op op_mulW pe_int (pv 1))) (pa_cons pe_int pa_nil))))))), ?_⟩
    refine ⟨.int k, rfl, .ref s0, rfl, s0, _, rfl, .inl hs, k, _, rfl, rfl, _, rfl, ite2 (fun hlt => ?_) (fun _ => ?_)⟩
    · have hlt : k < ns.length := by
        have := of_decide_eq_true hlt
        rw [List.length_map] at this
        omega
      have hg := get_map (List.getElem?_eq_getElem hlt)
      refine ⟨.ref s0, rfl, .int k, rfl, s0, _, k, _, rfl, rfl, hs, atI_nat hg, _, rfl, ?_⟩
      refine ⟨_, rfl, 10, 18, rfl, rfl, pw 4 (by decide) (by decide) (by decide) (by decide), _, _, rfl, rfl, 0, _, rfl, ?_⟩
      refine ⟨_, rfl, .inl ⟨_, rfl, 10, 43, rfl, rfl, pw 4 (by decide) (by decide) (by decide) (by decide), _, 57, rfl, rfl, _, _, rfl, rfl, by show (0 : Int) < 10 ^ (43 : Int).toNat + 57; decide +kernel, _, 101, rfl, rfl, wide_mul (a := 150) (b := 7) (mod_small _) (by decide) (by decide) (by decide) (by decide), .int k, rfl, 70001, k, rfl, rfl, wide_mul (a := 17) (b := 7) (by decide) (by rw [Int.natAbs_natCast]; omega) (by decide) (by decide) (by decide), _, _, rfl, rfl, by show 3 ≤ 16777216; decide, fun p hp => ?_⟩⟩
      exact q p _ (same_new hp) hp (jar_at _ k hk _ (max_nn _))
    · refine ⟨_, rfl, 10, 18, rfl, rfl, pw 4 (by decide) (by decide) (by decide) (by decide), _, _, rfl, rfl, 0, _, rfl, ?_⟩
      refine ⟨_, rfl, .inl ⟨_, rfl, 10, 43, rfl, rfl, pw 4 (by decide) (by decide) (by decide) (by decide), _, 57, rfl, rfl, _, _, rfl, rfl, by show (0 : Int) < 10 ^ (43 : Int).toNat + 57; decide +kernel, _, 101, rfl, rfl, wide_mul (a := 150) (b := 7) (mod_small _) (by decide) (by decide) (by decide) (by decide), .int k, rfl, 70001, k, rfl, rfl, wide_mul (a := 17) (b := 7) (by decide) (by rw [Int.natAbs_natCast]; omega) (by decide) (by decide) (by decide), _, _, rfl, rfl, by show 3 ≤ 16777216; decide, fun p hp => ?_⟩⟩
      exact q p _ (same_new hp) hp (jar_at _ k hk _ (max_nn _))

def sp_lgcd : Sp := fun vs H Q _ => ∃ (a : Int) (b : Nat), vs = [V.int a, V.int b] ∧ Q (.int ((Nat.gcd a.natAbs b : Nat) : Int)) H

theorem ok__law_gcd {f : Addr} {fd : FuncData}  (F : Fun K "_law_gcd" "_law_gcd" s__law_gcd f fd) (B : Bl mg)  : FnOk P w K mg base CX0 1 f fd ["one", "two"] (sp_lgcd) := by
  refine F.ok sc__law_gcd (fun vs H Q E h => ?_) (fun cdv A outer s H vs Q E hr h => ?_)
  · obtain ⟨a, b, rfl, _⟩ := h; rfl
  · obtain ⟨a, b, rfl, q⟩ := h
    have nd := sc__law_gcd.nd
    refine ⟨_, (pss_cons (ps_while PassesOwn.never (pt_cmpR op_ne (pv 1) pe_int (nomark _)) (pss_one (ps_par (i := 0) (j := 1) (by rfl) nd rfl rfl (by decide) rfl rfl (pa_cons (pv 1) (pa_cons (pe_op op_mod (pe_callTy call_int1 (by rfl) B.int (by decide +kernel) (pa_cons (pv 0) pa_nil)) (pv 1)) pa_nil)) (by rfl))))
      (pss_one (ps_ret (pe_callB call_abs (by rfl) B.abs (by decide +kernel) (pa_cons (pv 0) pa_nil))))), ?_⟩
    refine ⟨fun m σ H' => ∃ (x : Int) (y : Nat), σ = [some (.int x), some (.int y)] ∧ H' = H ∧ Nat.gcd x.natAbs y = Nat.gcd a.natAbs b ∧ m = y, ⟨b, a, b, rfl, rfl, rfl, rfl⟩, fun m σ H' hW => ?_⟩
    obtain ⟨x, y, rfl, rfl, e, rfl⟩ := hW
    refine ⟨.int (m : Int), rfl, rfl, _, rfl, ?_⟩
    by_cases hm : m = 0
    · subst hm
      refine iteNS rfl ⟨.int x, rfl, x, rfl, ?_⟩
      rw [Nat.gcd_zero_right] at e
      have ex : (if x < 0 then -x else x) = ((x.natAbs : Nat) : Int) := by split <;> omega
      rw [ex, e]
      exact q
    · rw [decide_eq_false (show ¬ V.int (m : Int) = V.int 0 from fun z => hm (by have := V.int.inj z; omega))]
      refine iteT ⟨fun σ' H2 => ∃ m', m' < m ∧ ∃ (x : Int) (y : Nat), σ' = [some (.int x), some (.int y)] ∧ H2 = H' ∧ Nat.gcd x.natAbs y = Nat.gcd a.natAbs b ∧ m' = y, fun σ' H2 h => h, ?_⟩
      have hlt := Int.emod_lt_of_pos x (show (0 : Int) < m by omega)
      have hnn := Int.emod_nonneg x (show (m : Int) ≠ 0 by omega)
      refine ⟨.int (m : Int), rfl, .int x, rfl, .inl ⟨x, rfl, .int (m : Int), rfl, x, (m : Int), rfl, rfl, by show (0 : Int) < m; omega, _, _, rfl, (x % (m : Int)).natAbs, by omega, (m : Int), (x % (m : Int)).natAbs, ?_, rfl, ?_, rfl⟩⟩
      · show [some (V.int (m : Int)), some (V.int (x % (m : Int)))] = _
        rw [Int.natAbs_of_nonneg hnn]
      · rw [Int.natAbs_natCast, Ma.gcd_emodZ]
        exact e

theorem ok__law_plain {f : Addr} {fd : FuncData}  (F : Fun K "_law_plain" "_law_plain" s__law_plain f fd) (B : Bl mg) (C__law_gcd : Cal P w K mg base 1 "_law_gcd" ["one", "two"] sp_lgcd) : FnOk P w K mg base CX0 2 f fd ["numbers_here"] (sp_without_divisor) := by
  refine F.ok sc__law_plain (fun vs H Q E h => ?_) (fun cdv A outer s H vs Q E hr h => ?_)
  · obtain ⟨l, ns, rfl, _⟩ := h; rfl
  · obtain ⟨l, ns, rfl, hl, ha, hz, hg, q⟩ := h
    have nd := sc__law_plain.nd
    refine ⟨_, (pss_cons (ps_set (i := 1) nd rfl (Or.inr rfl) pe_int)
      (pss_cons (ps_for PassesOwn.never rfl (pi_list (pv 0)) (pg_name (i := 2) nd rfl (Or.inl rfl)) (pss_one (ps_set (i := 1) nd rfl (Or.inr rfl) (pe_cal C__law_gcd (hr.mono (by decide)) (pa_cons (pv 1) (pa_cons (pv 2) pa_nil))))))
      (pss_one (ps_ret (pe_lc (own := [("number_here", 2)]) (g := gName 2) rfl nd (pi_list (pv 0)) (blkOk_by (own := [("number_here", 2)]) (N := ["numbers_here", "divisor", "number_here"]) (sc := defScope s__law_plain) (by decide +kernel)) (fun _ _ _ _ _ => (pg_name (i := 2) nd rfl (Or.inl rfl))) (fun _ _ _ _ _ => pts_nil) (fun _ _ _ _ _ => (pe_op op_fdivW (pv 2) (pv 1)))))))), ?_⟩
    refine ⟨.ref l, rfl, l, rfl, ⟨_, SqL.of hl⟩, for_list (xs := ns.map V.int) (fun i σ H' => ∃ y, σ = [some (.ref l), some (.int ((gcdN (ns.take i) : Nat) : Int)), y] ∧ H' = H) ⟨none, rfl, rfl⟩ (fun i σ H' _ ⟨_, _, e⟩ => by rw [e]; exact SqL.of hl) (fun i x σ H' hx ⟨y, e1, e2⟩ => ?_) (fun σ H' ⟨y, e1, e2⟩ => ?_)⟩
    · subst e1 e2
      obtain ⟨n, hn, rfl⟩ := map_get hx
      have hn0 := ha.nn n (List.mem_of_getElem? hn)
      refine ⟨.int ((gcdN (ns.take i) : Nat) : Int), rfl, .int n, rfl, gcdN (ns.take i), n.natAbs, ?_, some (.int n), ?_, rfl⟩
      · rw [Int.natAbs_of_nonneg hn0]
        rfl
      · rw [gcdN_take hn]
        rfl
    · subst e1 e2
      rw [List.length_map, List.take_length]
      refine ⟨.ref l, rfl, l, rfl, ⟨_, SqL.of hl⟩, fun D hD => lc_list (xs := ns.map V.int) (fun i H2 => Same H' H2 ∧ H2 D = some (.lst (((Ma.plain ns).take i).map V.int))) ⟨same_new hD, upd_same⟩ (fun i H2 _ ⟨e, _⟩ => SqL.of (e l _ hl)) (fun i x H2 hx ⟨e1, e2⟩ => ?_) (fun H2 ⟨e1, e2⟩ => ?_)⟩
      · obtain ⟨n, hn, rfl⟩ := map_get hx
        have hpos := gcdN_pos ha
        refine ⟨rfl, .int n, rfl, .int ((gcdN ns : Nat) : Int), rfl, n, _, rfl, rfl, wide_div (by omega) (b := 8000) (by rw [Int.natAbs_natCast]; exact hg) (by decide) (by decide), _, e2, ?_, fun b x hb => ?_, ?_⟩
        · rw [List.length_map, List.length_take]
          have := plain_len ns
          show min i (Ma.plain ns).length < 16777216
          omega
        · rw [upd_ne (ne_of_none hb hD)]
          exact e1 b x hb
        · have hp : (Ma.plain ns)[i]? = some (n / ((gcdN ns : Nat) : Int)) := by
            unfold Ma.plain
            rw [List.getElem?_map, hn]
            rfl
          rw [upd_same, List.take_add_one, hp, List.map_append]
          rfl
      · rw [List.length_map, ← plain_len ns, List.take_length] at e2
        exact q D H2 e1 hD e2

def sp_lpart : Sp := fun vs H Q _ => ∃ a b : Int, vs = [V.int a, V.int b] ∧ 0 < b ∧ b < 2 ^ 8000 ∧ ∀ p H', Same H H' → H p = none → H' p = some (.tup [.int (fr a b).1, .int (fr a b).2]) → Q (.ref p) H'

theorem ok__law_part {f : Addr} {fd : FuncData}  (F : Fun K "_law_part" "_law_part" s__law_part f fd) (B : Bl mg) (C__law_gcd : Cal P w K mg base 1 "_law_gcd" ["one", "two"] sp_lgcd) : FnOk P w K mg base CX0 2 f fd ["top", "bottom"] (sp_lpart) := by
  refine F.ok sc__law_part (fun vs H Q E h => ?_) (fun cdv A outer s H vs Q E hr h => ?_)
  · obtain ⟨a, b, rfl, _⟩ := h; rfl
  · obtain ⟨a, b, rfl, hb, hz, q⟩ := h
    obtain ⟨g1, g2⟩ := fr_gcd (n := a) hb hz
    have nd := sc__law_part.nd
    refine ⟨_, (pss_cons (ps_set (i := 2) nd rfl (Or.inl rfl) (pe_cal C__law_gcd (hr.mono (by decide)) (pa_cons (pv 0) (pa_cons (pv 1) pa_nil))))
      (pss_one (ps_ret (pe_tup (pa_cons (pe_op op_fdivW (pv 0) (pv 2)) (pa_cons (pe_op op_fdivW (pv 1) (pv 2)) pa_nil)))))), ?_⟩
    refine ⟨.int a, rfl, .int b, rfl, a, b.natAbs, ?_, ?_⟩
    · rw [Int.natAbs_of_nonneg (show 0 ≤ b by omega)]
      rfl
    · refine ⟨.int a, rfl, _, rfl, a, _, rfl, rfl, wide_div g1 g2 (by decide) (by decide), .int b, rfl, _, rfl, b, _, rfl, rfl, wide_div g1 g2 (by decide) (by decide), by show 2 ≤ 16777216; decide, fun p hp => ?_⟩
      exact q p _ (same_new hp) hp upd_same

end
end K29
end

section
set_option Elab.async false
set_option linter.all false
set_option maxRecDepth 100000
set_option maxHeartbeats 4000000
namespace K29
open PySem PySem.Spec PyProof.Rows L2 GxR Gx Ma
section
variable {P : Program} {w : World} {K : PySem.W.Frag} {mg : Str → Option Value} {base : Heap}

theorem step_small {ns : List Int} {a b : Int} {c : Nat} (hc : Con ns) (k : Kep a b) (hcl : c < ns.length) (hz : ns.sum < 2 ^ 7900) : gcdN (pre ns a b c) < 2 ^ 8000 := by
  have ha := pre_amt hc k hcl
  have hs := hc.amt.pos
  have h1 := gcd_le_sum ha
  rw [pre_sum hcl] at h1
  have h2 : b * ns.sum ≤ 100 * ns.sum := Int.mul_le_mul_of_nonneg_right k.b100 (by omega)
  have h3 : (100 : Int) * ns.sum < 2 ^ 8000 := by
    have e : (2 : Int) ^ 8000 = 2 ^ 100 * 2 ^ 7900 := by rw [← Int.pow_add]
    have h4 : (2 : Int) ^ 7 * 2 ^ 7900 ≤ 2 ^ 100 * 2 ^ 7900 := Int.mul_le_mul_of_nonneg_right (pow_le_of (by decide)) (Int.le_of_lt (Int.pow_pos (by decide)))
    have h5 : (128 : Int) * ns.sum ≤ 2 ^ 7 * 2 ^ 7900 := Int.mul_le_mul_of_nonneg_left (Int.le_of_lt hz) (by decide)
    omega
  have h6 := abs_lt (n := ((gcdN (pre ns a b c) : Nat) : Int)) (by omega) (Int.lt_of_le_of_lt (Int.le_trans h1 h2) h3)
  rw [Int.natAbs_natCast] at h6
  exact h6
def sp_lstep : Sp := fun vs H Q _ => ∃ (l : Addr) (ns : List Int) (a b : Int) (c : Nat), vs = [V.ref l, V.int a, V.int b, V.int c] ∧ LI H l ns ∧ Con ns ∧ Kep a b ∧ c < ns.length ∧ ns.sum < 2 ^ 7900 ∧ ∀ p H', Same H H' → H p = none → LI H' p (step ns a b c) → Q (.ref p) H'

theorem ok__law_step {f : Addr} {fd : FuncData}  (F : Fun K "_law_step" "_law_step" s__law_step f fd) (B : Bl mg) (C__law_plain : Cal P w K mg base 2 "_law_plain" ["numbers_here"] sp_without_divisor) : FnOk P w K mg base CX0 3 f fd ["numbers_here", "stays", "whole", "spot"] (sp_lstep) := by
  refine F.ok sc__law_step (fun vs H Q E h => ?_) (fun cdv A outer s H vs Q E hr h => ?_)
  · obtain ⟨l, ns, a, b, c, rfl, _⟩ := h; rfl
  · obtain ⟨l, ns, a, b, c, rfl, hl, hc, k, hcl, hz, q⟩ := h
    have hs := hc.amt.pos
    have k1 := k.a1
    have k2 := k.ab
    have k3 := k.b100
    have nd := sc__law_step.nd
    refine ⟨_, (pss_cons (ps_set (i := 4) nd rfl (Or.inl rfl) (pe_op op_mulW (pe_op op_sub (pv 2) (pv 1)) (pe_callB (cr_sum rfl) (by rfl) B.sum (by decide +kernel) (pa_cons (pv 0) pa_nil))))
      (pss_cons (ps_setLc (i := 5) (own := [("part", 6)]) (g := gName 6) rfl nd rfl rfl (sw_true rfl rfl rfl (by decide +kernel)) (pi_list (pv 0)) (blkOk_by (own := [("part", 6)]) (N := ["numbers_here", "stays", "whole", "spot", "poured", "found", "part"]) (sc := defScope s__law_step) (by decide +kernel)) (fun _ _ _ _ _ => (pg_name (i := 6) nd rfl (Or.inl rfl))) (fun _ _ _ _ _ => pts_nil) (fun _ _ _ _ _ => (pe_op op_mulW (pv 1) (pv 6))))
      (pss_cons (ps_asg (pe_op op_add (pe_ix ix_list (pv 5) (pv 3) (fun _ _ => rfl)) (pv 4)) (pg_sub (pv 5) (pv 3) set_list))
      (pss_one (ps_ret (pe_cal C__law_plain (hr.mono (by decide)) (pa_cons (pv 5) pa_nil))))))), ?_⟩
    have hba : (b - a).natAbs < 2 ^ 7 := abs_lt (by omega) (by omega)
    refine ⟨.int b, rfl, .int a, rfl, b, a, rfl, rfl, .ref l, rfl, l, ns, rfl, SqL.of hl, b - a, ns.sum, rfl, rfl, wide_mul (a := 7) (b := 7900) hba (abs_lt (by omega) hz) (by decide) (by decide) (by decide), ?_⟩
    refine ⟨.ref l, rfl, l, rfl, ⟨_, SqL.of hl⟩, fun D hD => lc_list (xs := ns.map V.int) (fun i H' => Same H H' ∧ H' D = some (.lst (((ns.map fun n => n * a).take i).map V.int))) ⟨same_new hD, upd_same⟩ (fun i H' _ ⟨e, _⟩ => SqL.of (e l _ hl)) (fun i x H' hx ⟨e1, e2⟩ => ?_) (fun H' ⟨e1, e2⟩ => ?_)⟩
    · obtain ⟨n, hn, rfl⟩ := map_get hx
      have hm := List.mem_of_getElem? hn
      have hn0 := hc.nn n hm
      have hn1 := le_sum hc.nn hm
      refine ⟨rfl, .int a, rfl, .int n, rfl, a, n, rfl, rfl, wide_mul (a := 7) (b := 7900) (abs_lt (by omega) (by omega)) (abs_lt hn0 (Int.lt_of_le_of_lt hn1 hz)) (by decide) (by decide) (by decide), _, e2, ?_, fun b x hb => ?_, ?_⟩
      · have := hc.le8
        rw [List.length_map, List.length_take, List.length_map]
        show min i ns.length < 16777216
        omega
      · rw [upd_ne (ne_of_none hb hD)]
        exact e1 b x hb
      · have hp : (ns.map fun n => n * a)[i]? = some (n * a) := by
          rw [List.getElem?_map, hn]
          rfl
        rw [upd_same, List.take_add_one, hp, List.map_append, Int.mul_comm n a]
        rfl
    · have e2 : LI H' D (ns.map fun n => n * a) := by
        show H' D = _
        rw [e2, List.length_map, List.take_of_length_le (by rw [List.length_map]; exact Nat.le_refl _)]
      have hcm : (ns.map fun n => n * a)[c]? = some (ns.getD c 0 * a) := by
        rw [List.getElem?_map, List.getD_eq_getElem?_getD, List.getElem?_eq_getElem hcl]
        rfl
      refine ⟨.ref D, rfl, .int c, rfl, D, _, c, .int (ns.getD c 0 * a), rfl, rfl, SqL.of e2, atI_nat (get_map hcm), .int ((b - a) * ns.sum), rfl, _, _, rfl, rfl, .ref D, rfl, .int c, rfl, D, _, c, c, rfl, rfl, e2, ixN_of (by rw [List.length_map, List.length_map]; exact hcl), ?_⟩
      have e3 : upd H' D (.lst (((ns.map fun n => n * a).map V.int).set c (.int (ns.getD c 0 * a + (b - a) * ns.sum)))) D = some (.lst ((pre ns a b c).map V.int)) := by
        rw [upd_same]
        unfold pre
        rw [List.map_set]
      refine ⟨.ref D, rfl, D, pre ns a b c, rfl, e3, pre_amt hc k hcl, ?_, step_small hc k hcl hz, fun p H2 s2 np e4 => ?_⟩
      · rw [pre_len]
        have := hc.le8
        omega
      · refine q p H2 (fun x u hx => s2 x u ?_) (Same.free (fun x u hx => ?_) np) e4
        · rw [upd_ne (ne_of_none hx hD)]
          exact e1 x u hx
        · rw [upd_ne (ne_of_none hx hD)]
          exact e1 x u hx

def sp_lwalk : Sp := fun vs H Q _ => ∃ l t r ns a b cs, vs = [V.ref l, V.ref t, V.ref r] ∧ LI H l ns ∧ H t = some (.tup [.int a, .int b]) ∧ LI H r (rowI cs) ∧ Row1 ns a b cs ∧ ns.sum < 2 ^ 7000 ∧ ∀ p ps H', Same H H' → Rows H H' p ps (cs.length + 1) (ctn1 ns a b cs) → Q (.ref p) H'
theorem rep_getD {a b : Int} {n i : Nat} (h : i < n) : (List.replicate n (a, b)).getD i (1, 2) = (a, b) := by
  rw [List.getD_eq_getElem?_getD, List.getElem?_replicate, if_pos h]
  rfl

theorem ok__law_walk {f : Addr} {fd : FuncData}  (F : Fun K "_law_walk" "_law_walk" s__law_walk f fd) (B : Bl mg) (C__law_step : Cal P w K mg base 3 "_law_step" ["numbers_here", "stays", "whole", "spot"] sp_lstep) : FnOk P w K mg base CX0 4 f fd ["numbers_here", "share_here", "spots"] (sp_lwalk) := by
  refine F.ok sc__law_walk (fun vs H Q E h => ?_) (fun cdv A outer s H vs Q E hr h => ?_)
  · obtain ⟨l, t, r, ns, a, b, cs, rfl, _⟩ := h; rfl
  · obtain ⟨l, t, r, ns, a, b, cs, rfl, hl, ht, hr2, R, hz, q⟩ := h
    have h60 := R.c60
    have RY := R.y
    have nd := sc__law_walk.nd
    refine ⟨_, (pss_cons (ps_set (i := 3) nd rfl (Or.inl rfl) (pe_lst (pa_cons (pe_callTy call_list_of (by rfl) B.list (by decide +kernel) (pa_cons (pv 0) pa_nil)) pa_nil)))
      (pss_cons (ps_for PassesOwn.never rfl (pi_list (pv 2)) (pg_name (i := 4) nd rfl (Or.inl rfl)) (pss_one (ps_expr (pe_bm PySem.F.plainAttrs_list PySem.F.slot_list_append PySem.F.type_list_append mt_append (pv 3) (pa_cons (pe_cal C__law_step (hr.mono (by decide)) (pa_cons (pe_ix ix_list (pv 3) (pe_un un_neg pe_int) (fun _ _ => rfl)) (pa_cons (pe_ix ix_tup (pv 1) pe_int (fun _ _ => rfl)) (pa_cons (pe_ix ix_tup (pv 1) pe_int (fun _ _ => rfl)) (pa_cons (pv 4) pa_nil))))) pa_nil)))))
      (pss_one (ps_ret (pv 3))))), ?_⟩
    refine ⟨.ref l, rfl, l, _, rfl, .inl (SqL.of hl), fun o no => ?_⟩
    have s1 : Same H (upd H o (.lst (ns.map V.int))) := same_new no
    refine ⟨by show 1 ≤ 16777216; decide, fun C nC => ?_⟩
    have s2 : Same (upd H o (.lst (ns.map V.int))) (upd (upd H o (.lst (ns.map V.int))) C (.lst [.ref o])) := same_new nC
    have noC : o ≠ C := fun e => by rw [← e, upd_same] at nC; cases nC
    have h0 : Rows H (upd (upd H o (.lst (ns.map V.int))) C (.lst [.ref o])) C [o] 1 (ctn1 ns a b cs) := by
      refine ⟨upd_same, rfl, fun i a ha => ?_, fun a ha => ?_, by simp, fun z => noC (List.mem_singleton.mp z).symm, s1.free nC⟩
      · cases i with
        | zero =>
          have e : o = a := Option.some.inj ha
          rw [← e]
          show upd _ C _ o = _
          rw [upd_ne noC, upd_same]
          rfl
        | succ i => simp at ha
      · rw [List.mem_singleton.mp ha]
        exact no
    refine ⟨.ref r, rfl, r, rfl, ⟨_, SqL.of (s2 _ _ (s1 _ _ hr2))⟩, for_list (xs := (rowI cs).map V.int) (fun i σ H' => ∃ y4 ps, σ = [some (.ref l), some (.ref t), some (.ref r), some (.ref C), y4] ∧ i ≤ cs.length ∧ Same H H' ∧ Rows H H' C ps (i + 1) (ctn1 ns a b cs))
      ⟨none, [o], rfl, Nat.zero_le _, s1.trans s2, h0⟩ (fun i σ H' _ ⟨_, _, _, _, e, _⟩ => SqL.of (e _ _ hr2)) (fun i y σ H' hy hP => ?_) (fun σ H' hP => ?_)⟩
    · obtain ⟨y4, ps, rfl, hi, e, RR⟩ := hP
      obtain ⟨hic, rfl⟩ := rowI_get hy
      obtain ⟨x, ea, la, _⟩ := RR.last
      have ht' := e _ _ ht
      refine ⟨.ref C, rfl, .inl ⟨rfl, _, SqL.of RR.at_⟩, ?_⟩
      refine ⟨.ref C, rfl, 1, rfl, C, _, -1, _, rfl, rfl, SqL.of RR.at_, ea, .ref t, rfl, t, _, 0, .int a, rfl, rfl, SqT.of ht', rfl, .ref t, rfl, t, _, 1, .int b, rfl, rfl, SqT.of ht', rfl, .int ((cs.getD i 0 : Nat) : Int), rfl, ?_⟩
      have e1 : ctn1 ns a b cs (i + 1) = step (ctn1 ns a b cs i) a b (cs.getD i 0) := by
        show Ma.step _ _ _ _ = _
        rw [rep_getD hic]
        rfl
      refine ⟨x, ctn1 ns a b cs i, a, b, cs.getD i 0, rfl, la, ctn_con RY i hi, R.kep, ?_, ?_, fun p H2 s3 np lp => ?_⟩
      · show _ < (ctn ns _ cs i).length
        rw [ctn_len]
        exact R.liq _ (getD_mem hic)
      · exact Int.lt_of_lt_of_le (ctn_small RY i hi hz) (pow_le_of (by decide))
      · rw [← e1] at lp
        refine ⟨C, _, _, rfl, rfl, s3 _ _ RR.at_, ?_, ?_⟩
        · rw [List.length_map, RR.len]
          show i + 1 < 16777216
          omega
        · exact ⟨some (.int ((cs.getD i 0 : Nat) : Int)), ps ++ [p], rfl, hic, same_upd_new (e.trans s3) RR.pnew, RR.grow e s3 np lp⟩
    · obtain ⟨y4, ps, rfl, hi, e, RR⟩ := hP
      have el : ((rowI cs).map V.int).length = cs.length := by unfold rowI; rw [List.length_map, List.length_map]
      rw [el] at RR
      exact ⟨.ref C, rfl, q C ps H' e RR⟩

theorem pur_get (k s i : Nat) (h : i < k) : (pur k s)[i]? = some (if i = s then 1 else 0) := by
  unfold pur
  rw [List.getElem?_set]
  by_cases e : s = i
  · rw [if_pos e, if_pos (by rw [List.length_replicate]; omega), if_pos e.symm]
  · rw [if_neg e, if_neg (fun z => e z.symm), List.getElem?_replicate, if_pos h]
theorem pur_len (k s : Nat) : (pur k s).length = k := by unfold pur; rw [List.length_set, List.length_replicate]
def sp_lpure : Sp := fun vs H Q _ => ∃ k i : Nat, vs = [V.int k, V.int i] ∧ k ≤ 8 ∧ ∀ p H', Same H H' → H p = none → LI H' p (pur k i) → Q (.ref p) H'

theorem ok__law_pure {f : Addr} {fd : FuncData}  (F : Fun K "_law_pure" "_law_pure" s__law_pure f fd) (B : Bl mg)  : FnOk P w K mg base CX0 1 f fd ["many", "spot"] (sp_lpure) := by
  refine F.ok sc__law_pure (fun vs H Q E h => ?_) (fun cdv A outer s H vs Q E hr h => ?_)
  · obtain ⟨k, i, rfl, _⟩ := h; rfl
  · obtain ⟨k, i, rfl, hk, q⟩ := h
    have nd := sc__law_pure.nd
    refine ⟨_, (pss_one (ps_ret (pe_lc (own := [("here", 2)]) (g := gName 2) rfl nd (pi_range1 rfl B.range (pa_cons (pv 0) pa_nil)) (blkOk_by (own := [("here", 2)]) (N := ["many", "spot", "here"]) (sc := defScope s__law_pure) (by decide +kernel)) (fun _ _ _ _ _ => (pg_name (i := 2) nd rfl (Or.inl rfl))) (fun _ _ _ _ _ => pts_nil) (fun _ _ _ _ _ => (pe_callTy call_int1 (by rfl) B.int (by decide +kernel) (pa_cons (pe_cmpR op_eq (pv 2) (pv 1) (nomark _)) pa_nil)))))), ?_⟩
    refine ⟨.int k, rfl, k, rfl, by omega, by omega, fun D hD => lc_range (lo := 0) (n := (k : Int).toNat) (fun j H' => Same H H' ∧ H' D = some (.lst (((pur k i).take j).map V.int))) ⟨same_new hD, upd_same⟩ (fun j H' hj ⟨e1, e2⟩ => ?_) (fun H' ⟨e1, e2⟩ => ?_)⟩
    · have hj : j < k := by omega
      refine ⟨rfl, .int (0 + (j : Int)), rfl, .int i, rfl, rfl, .inr ⟨_, rfl, _, e2, ?_, fun b x hb => ?_, ?_⟩⟩
      · rw [List.length_map, List.length_take, pur_len]
        show min j k < 16777216
        omega
      · rw [upd_ne (ne_of_none hb hD)]
        exact e1 b x hb
      · rw [upd_same, List.take_add_one, pur_get k i j hj, List.map_append]
        have e : (if decide (V.int (0 + (j : Int)) = V.int i) = true then (1 : Int) else 0) = if j = i then 1 else 0 := by
          by_cases z : j = i
          · rw [if_pos z, z, Int.zero_add, decide_eq_true rfl]
            rfl
          · rw [if_neg z, decide_eq_false (fun y => z (by have := V.int.inj y; omega))]
            rfl
        rw [e]
        rfl
    · have e3 : (k : Int).toNat = (pur k i).length := by rw [pur_len, Int.toNat_natCast]
      rw [e3, List.take_length] at e2
      exact q D H' e1 hD e2

end
end K29
end

section
set_option Elab.async false
set_option linter.all false
set_option maxRecDepth 100000
set_option maxHeartbeats 4000000
namespace K29
open PySem PySem.Spec PyProof.Rows L2 GxR Gx Ma
section
variable {P : Program} {w : World} {K : PySem.W.Frag} {mg : Str → Option Value} {base : Heap}

def sp_lspots : Sp := fun vs H Q _ => ∃ (j : Addr) (n k z : Nat), vs = [V.ref j, V.int k, V.int z] ∧ Jar H j n ∧ n + z ≤ 900000 ∧ 1 ≤ k ∧ k ≤ 8 ∧ z ≤ 60 ∧ ∀ p cs H', But j H H' → (∀ b, H' b = none → H b = none) → H p = none → Jar H' j (n + z) → LI H' p (rowI cs) → cs.length = z → (∀ c ∈ cs, c < k) → Q (.ref p) H'
theorem But.fresh {j D : Addr} {H H' : Hp} {o : HO} (e : But j H H') (h : H D = none) : But j H (L2.upd H' D o) := fun b x n hb => by
  rw [L2.upd_ne (ne_of_none hb h)]
  exact e b x n hb
theorem two_le {n k : Nat} (h : n ≤ k) : (2 : Int) ^ n ≤ 2 ^ k := pow_le_of h
theorem small8000 {m : Int} (h : m < 2 ^ 200) : m < 2 ^ 8000 := Int.lt_of_lt_of_le h (two_le (by decide))
theorem rowI_app (cs : List Nat) (c : Nat) : (rowI (cs ++ [c])).map V.int = (rowI cs).map V.int ++ [.int (c : Int)] := by
  unfold rowI
  rw [List.map_append, List.map_append]
  rfl

theorem ok__law_spots {f : Addr} {fd : FuncData}  (F : Fun K "_law_spots" "_law_spots" s__law_spots f fd) (B : Bl mg) (C__law_dip : Cal P w K mg base 1 "_law_dip" ["jar", "many"] sp_dip) : FnOk P w K mg base CX0 2 f fd ["jar", "many", "size"] (sp_lspots) := by
  refine F.ok sc__law_spots (fun vs H Q E h => ?_) (fun cdv A outer s H vs Q E hr h => ?_)
  · obtain ⟨j, n, k, z, rfl, _⟩ := h; rfl
  · obtain ⟨j, n, k, z, rfl, hj, hn, hk, hk8, hz, q⟩ := h
    have nd := sc__law_spots.nd
    refine ⟨_, (pss_one (ps_ret (pe_lc (own := [("turn", 3)]) (g := gName 3) rfl nd (pi_range1 rfl B.range (pa_cons (pv 2) pa_nil)) (blkOk_by (own := [("turn", 3)]) (N := ["jar", "many", "size", "turn"]) (sc := defScope s__law_spots) (by decide +kernel)) (fun _ _ _ _ _ => (pg_name (i := 3) nd rfl (Or.inl rfl))) (fun _ _ _ _ _ => pts_nil) (fun _ _ _ _ _ => (pe_cal C__law_dip (hr.mono (by decide)) (pa_cons (pv 0) (pa_cons (pv 1) pa_nil))))))), ?_⟩
    refine ⟨.int z, rfl, z, rfl, by omega, by omega, fun D hD => ?_⟩
    have hDj : D ≠ j := hj.ne hD
    refine lc_range (lo := 0) (n := (z : Int).toNat) (fun i H' => ∃ cs : List Nat, cs.length = i ∧ (∀ c ∈ cs, c < k) ∧ But j H H' ∧ (∀ b, H' b = none → H b = none) ∧ Jar H' j (n + i) ∧ H' D = some (.lst ((rowI cs).map V.int)))
      ⟨[], rfl, fun c hc => (by cases hc), But.of (same_new hD), upd_none, hj.keep (same_new hD), upd_same⟩ (fun i H' hi ⟨cs, e1, e2, e3, e4, e5, e6⟩ => ?_) (fun H' ⟨cs, e1, e2, e3, e4, e5, e6⟩ => ?_)
    · refine ⟨rfl, .ref j, rfl, .int k, rfl, j, k, n + i, rfl, e5, by omega, by omega, small8000 (by omega), fun d H2 b1 b2 j2 d0 d1 => ⟨_, b1 D _ hDj e6, ?_, cs ++ [d.toNat], ?_, fun c hc => ?_, (e3.trans b1).fresh hD, fun b hb => ?_, ?_, ?_⟩⟩
      · unfold rowI
        rw [List.length_map, List.length_map, e1]
        show i < 16777216
        omega
      · rw [List.length_append, e1]
        rfl
      · rcases List.mem_append.mp hc with y | y
        · exact e2 c y
        · rw [List.mem_singleton.mp y]
          omega
      · exact e4 b (b2 b (upd_none b hb))
      · obtain ⟨x1, x2, x3, y1, y2⟩ := j2
        exact ⟨x1, x2, x3, by rw [upd_ne (fun e => hDj e.symm)]; exact y1, y2⟩
      · rw [upd_same, rowI_app, Int.toNat_of_nonneg d0]
    · have e : (z : Int).toNat = z := Int.toNat_natCast z
      rw [e] at e1 e5
      exact q D cs H' e3 e4 hD e5 e6 e1 e2

theorem fr_kep {s w : Int} (h1 : 1 ≤ s) (h2 : s < w) (h3 : w ≤ 100) : Kep (fr s w).1 (fr s w).2 := by
  obtain ⟨a, rfl⟩ := Int.eq_ofNat_of_zero_le (show 0 ≤ s by omega)
  obtain ⟨b, rfl⟩ := Int.eq_ofNat_of_zero_le (show 0 ≤ w by omega)
  have hg : 0 < Nat.gcd a b := Nat.gcd_pos_of_pos_left b (by omega)
  have e1 : (fr (a : Int) (b : Int)).1 = ((a / Nat.gcd a b : Nat) : Int) := by
    show (a : Int) / ((Nat.gcd (a : Int).natAbs (b : Int).natAbs : Nat) : Int) = _
    rw [Int.natAbs_natCast, Int.natAbs_natCast, Int.natCast_ediv]
  have e2 : (fr (a : Int) (b : Int)).2 = ((b / Nat.gcd a b : Nat) : Int) := by
    show (b : Int) / ((Nat.gcd (a : Int).natAbs (b : Int).natAbs : Nat) : Int) = _
    rw [Int.natAbs_natCast, Int.natAbs_natCast, Int.natCast_ediv]
  rw [e1, e2]
  have q1 := Nat.div_mul_cancel (Nat.gcd_dvd_left a b)
  have q2 := Nat.div_mul_cancel (Nat.gcd_dvd_right a b)
  have q3 : Nat.gcd (a / Nat.gcd a b) (b / Nat.gcd a b) = 1 := by rw [Nat.gcd_div (Nat.gcd_dvd_left a b) (Nat.gcd_dvd_right a b), Nat.div_self hg]
  have p3 : b / Nat.gcd a b ≤ b := Nat.div_le_self _ _
  generalize a / Nat.gcd a b = x at *
  generalize b / Nat.gcd a b = y at *
  generalize Nat.gcd a b = g at *
  have p1 : x ≠ 0 := fun z => by rw [z, Nat.zero_mul] at q1; omega
  have p2 : x < y := Nat.lt_of_not_le fun z => by
    have := Nat.mul_le_mul_right g z
    omega
  refine ⟨by omega, by omega, by omega, ?_⟩
  rw [Int.natAbs_natCast, Int.natAbs_natCast]
  exact q3
def sp_lshare : Sp := fun vs H Q _ => ∃ (j : Addr) (n : Nat), vs = [V.ref j] ∧ Jar H j n ∧ n ≤ 900000 ∧ ∀ t a b H', But j H H' → (∀ x, H' x = none → H x = none) → H t = none → Jar H' j (n + 4) → H' t = some (.tup [.int a, .int b]) → Kep a b → Q (.ref t) H'
theorem Jar.put {H : Hp} {j p : Addr} {n : Nat} {o : HO} (h : Jar H j n) (hp : H p = none) : Jar (L2.upd H p o) j n := h.keep (same_new hp)

theorem ok__law_share {f : Addr} {fd : FuncData}  (F : Fun K "_law_share" "_law_share" s__law_share f fd) (B : Bl mg) (C__law_dip : Cal P w K mg base 1 "_law_dip" ["jar", "many"] sp_dip) (C__law_part : Cal P w K mg base 2 "_law_part" ["top", "bottom"] sp_lpart) : FnOk P w K mg base CX0 3 f fd ["jar"] (sp_lshare) := by
  refine F.ok sc__law_share (fun vs H Q E h => ?_) (fun cdv A outer s H vs Q E hr h => ?_)
  · obtain ⟨j, n, rfl, _⟩ := h; rfl
  · obtain ⟨j, n, rfl, hj, hn, q⟩ := h
    have nd := sc__law_share.nd
    refine ⟨_, (pss_cons (ps_set (i := 1) nd rfl (Or.inl rfl) (pe_cal C__law_dip (hr.mono (by decide)) (pa_cons (pv 0) (pa_cons pe_int pa_nil))))
      (pss_cons (ps_if (pt_cmpR op_eq (pv 1) pe_int (nomark _))
      (pss_one (ps_ret (pe_ix ix_list (pe_lst (pa_cons (pe_tup (pa_cons pe_int (pa_cons pe_int pa_nil))) (pa_cons (pe_tup (pa_cons pe_int (pa_cons pe_int pa_nil))) (pa_cons (pe_tup (pa_cons pe_int (pa_cons pe_int pa_nil))) (pa_cons (pe_tup (pa_cons pe_int (pa_cons pe_int pa_nil))) (pa_cons (pe_tup (pa_cons pe_int (pa_cons pe_int pa_nil))) (pa_cons (pe_tup (pa_cons pe_int (pa_cons pe_int pa_nil))) pa_nil))))))) (pe_cal C__law_dip (hr.mono (by decide)) (pa_cons (pv 0) (pa_cons pe_int pa_nil))) (fun _ _ => rfl)))) pss_nil)
      (pss_cons (ps_set (i := 2) nd rfl (Or.inl rfl) (pe_ix ix_list (pe_lst (pa_cons (pe_op op_add pe_int (pe_cal C__law_dip (hr.mono (by decide)) (pa_cons (pv 0) (pa_cons pe_int pa_nil)))) (pa_cons (pe_op op_add pe_int (pe_cal C__law_dip (hr.mono (by decide)) (pa_cons (pv 0) (pa_cons pe_int pa_nil)))) (pa_cons pe_int pa_nil)))) (pe_callB (call_max2 rfl) (by rfl) B.max (by decide +kernel) (pa_cons pe_int (pa_cons (pe_op op_sub (pv 1) pe_int) pa_nil))) (fun _ _ => rfl)))
      (pss_cons (ps_set (i := 3) nd rfl (Or.inl rfl) (pe_op op_add pe_int (pe_cal C__law_dip (hr.mono (by decide)) (pa_cons (pv 0) (pa_cons (pe_op op_sub (pv 2) pe_int) pa_nil)))))
      (pss_one (ps_ret (pe_cal C__law_part (hr.mono (by decide)) (pa_cons (pv 3) (pa_cons (pv 2) pa_nil))))))))), ?_⟩
    refine ⟨.ref j, rfl, j, 4, n, rfl, hj, by omega, by decide, by decide +kernel, fun d0 H1 b1 f1 j1 x0 x1 => ?_⟩
    refine ⟨.int d0, rfl, rfl, _, rfl, ite2 (fun hz => ?_) (fun hz => ?_)⟩
    · refine ⟨by show 2 ≤ 16777216; decide, fun t1 n1 => ⟨by show 2 ≤ 16777216; decide, fun t2 n2 => ⟨by show 2 ≤ 16777216; decide, fun t3 n3 => ⟨by show 2 ≤ 16777216; decide, fun t4 n4 => ⟨by show 2 ≤ 16777216; decide, fun t5 n5 => ⟨by show 2 ≤ 16777216; decide, fun t6 n6 => ⟨by show 6 ≤ 16777216; decide, fun l nl => ?_⟩⟩⟩⟩⟩⟩⟩
      have s1 : Same H1 (L2.upd H1 t1 (.tup [.int 1, .int 2])) := same_new n1
      have s2 : Same (L2.upd H1 t1 (.tup [.int 1, .int 2])) (L2.upd (L2.upd H1 t1 (.tup [.int 1, .int 2])) t2 (.tup [.int 1, .int 3])) := same_new n2
      have s3 : Same (L2.upd (L2.upd H1 t1 (.tup [.int 1, .int 2])) t2 (.tup [.int 1, .int 3])) (L2.upd (L2.upd (L2.upd H1 t1 (.tup [.int 1, .int 2])) t2 (.tup [.int 1, .int 3])) t3 (.tup [.int 2, .int 3])) := same_new n3
      have s4 : Same (L2.upd (L2.upd (L2.upd H1 t1 (.tup [.int 1, .int 2])) t2 (.tup [.int 1, .int 3])) t3 (.tup [.int 2, .int 3])) (L2.upd (L2.upd (L2.upd (L2.upd H1 t1 (.tup [.int 1, .int 2])) t2 (.tup [.int 1, .int 3])) t3 (.tup [.int 2, .int 3])) t4 (.tup [.int 3, .int 4])) := same_new n4
      have s5 : Same (L2.upd (L2.upd (L2.upd (L2.upd H1 t1 (.tup [.int 1, .int 2])) t2 (.tup [.int 1, .int 3])) t3 (.tup [.int 2, .int 3])) t4 (.tup [.int 3, .int 4])) (L2.upd (L2.upd (L2.upd (L2.upd (L2.upd H1 t1 (.tup [.int 1, .int 2])) t2 (.tup [.int 1, .int 3])) t3 (.tup [.int 2, .int 3])) t4 (.tup [.int 3, .int 4])) t5 (.tup [.int 2, .int 5])) := same_new n5
      have s6 : Same (L2.upd (L2.upd (L2.upd (L2.upd (L2.upd H1 t1 (.tup [.int 1, .int 2])) t2 (.tup [.int 1, .int 3])) t3 (.tup [.int 2, .int 3])) t4 (.tup [.int 3, .int 4])) t5 (.tup [.int 2, .int 5])) (L2.upd (L2.upd (L2.upd (L2.upd (L2.upd (L2.upd H1 t1 (.tup [.int 1, .int 2])) t2 (.tup [.int 1, .int 3])) t3 (.tup [.int 2, .int 3])) t4 (.tup [.int 3, .int 4])) t5 (.tup [.int 2, .int 5])) t6 (.tup [.int 9, .int 10])) := same_new n6
      have s7 : Same (L2.upd (L2.upd (L2.upd (L2.upd (L2.upd (L2.upd H1 t1 (.tup [.int 1, .int 2])) t2 (.tup [.int 1, .int 3])) t3 (.tup [.int 2, .int 3])) t4 (.tup [.int 3, .int 4])) t5 (.tup [.int 2, .int 5])) t6 (.tup [.int 9, .int 10])) (L2.upd (L2.upd (L2.upd (L2.upd (L2.upd (L2.upd (L2.upd H1 t1 (.tup [.int 1, .int 2])) t2 (.tup [.int 1, .int 3])) t3 (.tup [.int 2, .int 3])) t4 (.tup [.int 3, .int 4])) t5 (.tup [.int 2, .int 5])) t6 (.tup [.int 9, .int 10])) l (.lst [.ref t1, .ref t2, .ref t3, .ref t4, .ref t5, .ref t6])) := same_new nl
      have jl := j1.keep (s1.trans (s2.trans (s3.trans (s4.trans (s5.trans (s6.trans s7))))))
      have bl := b1.trans (But.of (s1.trans (s2.trans (s3.trans (s4.trans (s5.trans (s6.trans s7)))))))
      have fl := fun x h => f1 x ((s1.trans (s2.trans (s3.trans (s4.trans (s5.trans (s6.trans s7)))))).free (l := x) h)
      refine ⟨.ref j, rfl, j, 6, n + 1, rfl, jl, by omega, by decide, by decide +kernel, fun d H2 b2 f2 j2 y0 y1 => ?_⟩
      have hl2 : H2 l = some (.lst [.ref t1, .ref t2, .ref t3, .ref t4, .ref t5, .ref t6]) := b2 l _ (j1.ne (s1.free (s2.free (s3.free (s4.free (s5.free (s6.free nl))))))) upd_same
      have u1 : H1 t1 = none := n1
      have v1 : H2 t1 = some (.tup [.int 1, .int 2]) := b2 t1 _ (j1.ne u1) (s7 _ _ (s6 _ _ (s5 _ _ (s4 _ _ (s3 _ _ (s2 _ _ upd_same))))))
      have u2 : H1 t2 = none := (s1.free n2)
      have v2 : H2 t2 = some (.tup [.int 1, .int 3]) := b2 t2 _ (j1.ne u2) (s7 _ _ (s6 _ _ (s5 _ _ (s4 _ _ (s3 _ _ upd_same)))))
      have u3 : H1 t3 = none := (s1.free (s2.free n3))
      have v3 : H2 t3 = some (.tup [.int 2, .int 3]) := b2 t3 _ (j1.ne u3) (s7 _ _ (s6 _ _ (s5 _ _ (s4 _ _ upd_same))))
      have u4 : H1 t4 = none := (s1.free (s2.free (s3.free n4)))
      have v4 : H2 t4 = some (.tup [.int 3, .int 4]) := b2 t4 _ (j1.ne u4) (s7 _ _ (s6 _ _ (s5 _ _ upd_same)))
      have u5 : H1 t5 = none := (s1.free (s2.free (s3.free (s4.free n5))))
      have v5 : H2 t5 = some (.tup [.int 2, .int 5]) := b2 t5 _ (j1.ne u5) (s7 _ _ (s6 _ _ upd_same))
      have u6 : H1 t6 = none := (s1.free (s2.free (s3.free (s4.free (s5.free n6)))))
      have v6 : H2 t6 = some (.tup [.int 9, .int 10]) := b2 t6 _ (j1.ne u6) (s7 _ _ upd_same)
      have hd : d = 0 ∨ d = 1 ∨ d = 2 ∨ d = 3 ∨ d = 4 ∨ d = 5 := by omega
      have bb := bl.trans b2
      have ff : ∀ x, H2 x = none → H x = none := fun x h => fl x (f2 x h)
      have jj : Jar H2 j (n + 4) := j2.le (by omega)
      rcases hd with rfl | rfl | rfl | rfl | rfl | rfl
      · exact ⟨l, _, 0, _, rfl, rfl, SqL.of hl2, rfl, q t1 1 2 H2 bb ff (f1 _ u1) jj v1 ⟨by decide, by decide, by decide, by decide⟩⟩
      · exact ⟨l, _, 1, _, rfl, rfl, SqL.of hl2, rfl, q t2 1 3 H2 bb ff (f1 _ u2) jj v2 ⟨by decide, by decide, by decide, by decide⟩⟩
      · exact ⟨l, _, 2, _, rfl, rfl, SqL.of hl2, rfl, q t3 2 3 H2 bb ff (f1 _ u3) jj v3 ⟨by decide, by decide, by decide, by decide⟩⟩
      · exact ⟨l, _, 3, _, rfl, rfl, SqL.of hl2, rfl, q t4 3 4 H2 bb ff (f1 _ u4) jj v4 ⟨by decide, by decide, by decide, by decide⟩⟩
      · exact ⟨l, _, 4, _, rfl, rfl, SqL.of hl2, rfl, q t5 2 5 H2 bb ff (f1 _ u5) jj v5 ⟨by decide, by decide, by decide, by decide⟩⟩
      · exact ⟨l, _, 5, _, rfl, rfl, SqL.of hl2, rfl, q t6 9 10 H2 bb ff (f1 _ u6) jj v6 ⟨by decide, by decide, by decide, by decide⟩⟩
    · have hz : d0 ≠ 0 := fun e => hz (by rw [e]; rfl)
      refine ⟨.ref j, rfl, j, 11, n + 1, rfl, j1, by omega, by decide, by decide +kernel, fun d1 H2 b2 f2 j2 y0 y1 => ⟨2, d1, rfl, rfl, .ref j, rfl, j, 99, n + 1 + 1, rfl, j2, by omega, by decide, by decide +kernel, fun d2 H3 b3 f3 j3 z0 z1 => ⟨2, d2, rfl, rfl, by show 3 ≤ 16777216; decide, fun l nl => ?_⟩⟩⟩
      obtain ⟨wv, hw, w2, w100⟩ : ∃ wv : Int, atI [V.int (2 + d1), V.int (2 + d2), V.int 100] (if d0 - 1 > 0 then d0 - 1 else 0) = some (.int wv) ∧ 2 ≤ wv ∧ wv ≤ 100 := by
        have hd : d0 = 1 ∨ d0 = 2 ∨ d0 = 3 := by omega
        rcases hd with rfl | rfl | rfl
        · exact ⟨2 + d1, rfl, by omega, by omega⟩
        · exact ⟨2 + d2, rfl, by omega, by omega⟩
        · exact ⟨100, rfl, by omega, by omega⟩
      refine ⟨.int d0, rfl, d0, 1, rfl, rfl, 0, d0 - 1, rfl, l, _, _, _, rfl, rfl, SqL.of upd_same, hw, ?_⟩
      have jl := j3.put (o := .lst [V.int (2 + d1), V.int (2 + d2), V.int 100]) nl
      refine ⟨.ref j, rfl, .int wv, rfl, wv, 1, rfl, rfl, j, wv - 1, n + 1 + 1 + 1, rfl, jl, by omega, by omega, small8000 (by omega), fun d3 H4 b4 f4 j4 v0 v1 => ⟨1, d3, rfl, rfl, ?_⟩⟩
      refine ⟨.int (1 + d3), rfl, .int wv, rfl, 1 + d3, wv, rfl, by omega, small8000 (by omega), fun p H5 s5 np e5 => ?_⟩
      have ff : ∀ x, H4 x = none → H x = none := fun x h => f1 x (f2 x (f3 x ((same_new nl).free (f4 x h))))
      exact q p _ _ H5 (((((b1.trans b2).trans b3).trans (But.of (same_new nl))).trans b4).trans (But.of s5)) (fun x h => ff x (s5.free h)) (ff p np) ((j4.keep s5).le (by omega)) e5 (fr_kep (by omega) (by omega) w100)

end
end K29
end

section
set_option Elab.async false
set_option linter.all false
set_option maxRecDepth 100000
set_option maxHeartbeats 4000000
namespace K29
open PySem PySem.Spec PyProof.Rows L2 GxR Gx Ma
section
variable {P : Program} {w : World} {K : PySem.W.Frag} {mg : Str → Option Value} {base : Heap}

theorem ix_listK {X : Cx} {K : PySem.W.Frag} (e : X.K = K) : IxR X (rIxL K) := e ▸ ix_list
theorem sum_rep0 : ∀ k : Nat, (List.replicate k (0 : Int)).sum = 0
  | 0 => rfl
  | k + 1 => by rw [List.replicate_succ, List.sum_cons, sum_rep0 k]; rfl
theorem pur_sum {k i : Nat} (h : i < k) : (pur k i).sum = 1 := by
  unfold pur
  rw [sum_set _ _ _ (by rw [List.length_replicate]; exact h), sum_rep0]
  have e : (List.replicate k (0 : Int)).getD i 0 = 0 := by
    rw [List.getD_eq_getElem?_getD, List.getElem?_replicate]
    split <;> rfl
  rw [e]
  rfl
theorem pur_con {k i : Nat} (h : i < k) (h8 : k ≤ 8) : Con (pur k i) := by
  refine ⟨by rw [pur_len]; omega, by rw [pur_len]; exact h8, fun n hn => ?_, ?_⟩
  · obtain ⟨j, hj⟩ := List.getElem?_of_mem hn
    have hj2 := (List.getElem?_eq_some_iff.mp hj).1
    rw [pur_len] at hj2
    rw [pur_get k i j hj2] at hj
    have e := Option.some.inj hj
    rw [← e]
    split <;> decide
  · have h1 : (1 : Int) ∈ pur k i := by
      have := pur_get k i i h
      rw [if_pos rfl] at this
      exact List.mem_of_getElem? this
    have h2 := dvd_gcdN.mp (Nat.dvd_refl (gcdN (pur k i))) 1 h1
    exact Nat.dvd_one.mp h2
theorem sum_lt {b : Int} : ∀ {ns : List Int}, (∀ n ∈ ns, 0 ≤ n ∧ n < b) → ns.sum ≤ ns.length * b
  | [], _ => by simp
  | n :: r, h => by
    have h1 := h n List.mem_cons_self
    have h2 := sum_lt (ns := r) fun m hm => h m (List.mem_cons_of_mem _ hm)
    rw [List.sum_cons, List.length_cons, Int.natCast_succ, Int.add_mul, Int.one_mul]
    omega
theorem gcd_lt {ns : List Int} {k : Nat} (h : Amt ns) (hz : ns.sum < 2 ^ k) : gcdN ns < 2 ^ k := by
  have h1 := gcd_le_sum h
  have h2 := abs_lt (n := ((gcdN ns : Nat) : Int)) (by omega) (Int.lt_of_le_of_lt h1 hz)
  rw [Int.natAbs_natCast] at h2
  exact h2
def sp_lfilled : Sp := fun vs H Q _ => ∃ (j : Addr) (n k m : Nat), vs = [V.ref j, V.int k, V.int m] ∧ Jar H j n ∧ n ≤ 500000 ∧ 1 ≤ k ∧ k ≤ 8 ∧ m ≤ 59 ∧ ∀ p ns H', But j H H' → (∀ b, H' b = none → H b = none) → H p = none → Jar H' j (n + 100) → LI H' p ns → Con ns → ns.length = k → (m ≤ 8 → ns.sum < 2 ^ 102) → Q (.ref p) H'

theorem ok__law_filled {f : Addr} {fd : FuncData}  (F : Fun K "_law_filled" "_law_filled" s__law_filled f fd) (B : Bl mg) (C__law_dip : Cal P w K mg base 1 "_law_dip" ["jar", "many"] sp_dip) (C__law_plain : Cal P w K mg base 2 "_law_plain" ["numbers_here"] sp_without_divisor) (C__law_pure : Cal P w K mg base 1 "_law_pure" ["many", "spot"] sp_lpure) (C__law_walk : Cal P w K mg base 4 "_law_walk" ["numbers_here", "share_here", "spots"] sp_lwalk) (C__law_share : Cal P w K mg base 3 "_law_share" ["jar"] sp_lshare) (C__law_spots : Cal P w K mg base 2 "_law_spots" ["jar", "many", "size"] sp_lspots) : FnOk P w K mg base CX0 5 f fd ["jar", "many", "most"] (sp_lfilled) := by
  refine F.ok sc__law_filled (fun vs H Q E h => ?_) (fun cdv A outer s H vs Q E hr h => ?_)
  · obtain ⟨j, n, k, m, rfl, _⟩ := h; rfl
  · obtain ⟨j, n, k, m, rfl, hj, hn, hk, hk8, hm, q⟩ := h
    have nd := sc__law_filled.nd
    refine ⟨_, (pss_cons (ps_if (pt_cmpR op_eq (pe_cal C__law_dip (hr.mono (by decide)) (pa_cons (pv 0) (pa_cons pe_int pa_nil))) pe_int (nomark _))
      (pss_cons (ps_setLc (i := 3) (own := [("turn", 5)]) (g := gName 5) rfl nd rfl rfl (sw_true rfl rfl rfl (by decide +kernel)) (pi_range1 rfl B.range (pa_cons (pv 1) pa_nil)) (blkOk_by (own := [("turn", 5)]) (N := ["jar", "many", "most", "found", "pot", "turn"]) (sc := defScope s__law_filled) (by decide +kernel)) (fun _ _ _ _ _ => (pg_name (i := 5) nd rfl (Or.inl rfl))) (fun _ _ _ _ _ => pts_nil) (fun _ _ _ _ _ => (pe_cal C__law_dip (hr.mono (by decide)) (pa_cons (pv 0) (pa_cons (pe_ix (ix_listK (K := K) rfl) (pe_lst (pa_cons pe_int (pa_cons pe_int (pa_cons (pe_op op_mulW pe_int (pe_op op_powW pe_int pe_int)) pa_nil)))) (pe_cal C__law_dip (hr.mono (by decide)) (pa_cons (pv 0) (pa_cons pe_int pa_nil))) (fun _ _ => rfl)) pa_nil)))))
      (pss_one (ps_ret (pe_ifExp (pt_cmpR op_gt (pe_callB (cr_sum rfl) (by rfl) B.sum (by decide +kernel) (pa_cons (pv 3) pa_nil)) pe_int (nomark _)) (pe_cal C__law_plain (hr.mono (by decide)) (pa_cons (pv 3) pa_nil)) (pe_cal C__law_pure (hr.mono (by decide)) (pa_cons (pv 1) (pa_cons pe_int pa_nil))))))) pss_nil)
      (pss_cons (ps_set (i := 4) nd rfl (Or.inl rfl) (pe_cal C__law_pure (hr.mono (by decide)) (pa_cons (pv 1) (pa_cons (pe_cal C__law_dip (hr.mono (by decide)) (pa_cons (pv 0) (pa_cons (pv 1) pa_nil))) pa_nil))))
      (pss_one (ps_ret (pe_ix ix_list (pe_cal C__law_walk (hr.mono (by decide)) (pa_cons (pv 4) (pa_cons (pe_cal C__law_share (hr.mono (by decide)) (pa_cons (pv 0) pa_nil)) (pa_cons (pe_cal C__law_spots (hr.mono (by decide)) (pa_cons (pv 0) (pa_cons (pv 1) (pa_cons (pe_cal C__law_dip (hr.mono (by decide)) (pa_cons (pv 0) (pa_cons (pe_op op_add (pv 2) pe_int) pa_nil))) pa_nil)))) pa_nil)))) (pe_un un_neg pe_int) (fun _ _ => rfl)))))), ?_⟩
    refine ⟨.ref j, rfl, j, 2, n, rfl, hj, by omega, by decide, by decide +kernel, fun d0 H1 b1 f1 j1 x0 x1 => ?_⟩
    refine ⟨rfl, _, rfl, ite2 (fun _ => ?_) (fun _ => ?_)⟩
    · refine ⟨.int k, rfl, k, rfl, by omega, by omega, fun D hD => ?_⟩
      have hDj : D ≠ j := j1.ne hD
      refine lc_range (lo := 0) (n := (k : Int).toNat) (fun i H' => ∃ ns : List Int, ns.length = i ∧ (∀ x ∈ ns, 0 ≤ x ∧ x < 2 ^ 98) ∧ But j H H' ∧ (∀ b, H' b = none → H b = none) ∧ Jar H' j (n + 1 + 2 * i) ∧ LI H' D ns)
        ⟨[], rfl, fun c hc => (by cases hc), b1.trans (But.of (same_new hD)), fun b h => f1 b (upd_none b h), j1.keep (same_new hD), upd_same⟩ (fun i H' hi ⟨ns, e1, e2, e3, e4, e5, e6⟩ => ?_) (fun H' ⟨ns, e1, e2, e3, e4, e5, e6⟩ => ?_)
      · refine ⟨rfl, .ref j, rfl, 10, 29, rfl, rfl, pw 4 (by decide) (by decide) (by decide) (by decide), 2, _, rfl, rfl, wide_mul (a := 2) (b := 97) (by decide) (by decide +kernel) (by decide) (by decide) (by decide), by show 3 ≤ 16777216; decide, fun l nl => ?_⟩
        have sl := same_new (o := .lst [V.int 2, V.int 9, V.int (2 * 10 ^ (29 : Int).toNat)]) nl
        refine ⟨.ref j, rfl, j, 3, n + 1 + 2 * i, rfl, e5.keep sl, by omega, by decide, by decide +kernel, fun d H2 b2 f2 j2 y0 y1 => ?_⟩
        have hlj : l ≠ j := e5.ne nl
        have hl2 := b2 l _ hlj upd_same
        obtain ⟨wv, hw, w1, w98⟩ : ∃ wv : Int, atI [V.int 2, V.int 9, V.int (2 * 10 ^ (29 : Int).toNat)] d = some (.int wv) ∧ 1 ≤ wv ∧ wv ≤ 2 ^ 98 := by
          have hd : d = 0 ∨ d = 1 ∨ d = 2 := by omega
          rcases hd with rfl | rfl | rfl
          · exact ⟨2, rfl, by decide, by decide +kernel⟩
          · exact ⟨9, rfl, by decide, by decide +kernel⟩
          · exact ⟨2 * 10 ^ (29 : Int).toNat, rfl, by decide +kernel, by decide +kernel⟩
        have hDl : D ≠ l := fun e => by rw [← e] at nl; have e6' : H' D = _ := e6; rw [nl] at e6'; cases e6'
        have e62 : LI H2 D ns := b2 D _ hDj (sl _ _ e6)
        refine ⟨l, _, d, _, rfl, rfl, SqL.of hl2, hw, j, wv, n + 1 + 2 * i + 1, rfl, j2, by omega, w1, small8000 (Int.lt_of_le_of_lt w98 (by decide +kernel)), fun d2 H3 b3 f3 j3 z0 z1 => ⟨_, b3 D _ hDj e62, ?_, ns ++ [d2], ?_, fun c hc => ?_, ((((e3.trans (But.of sl)).trans b2).trans b3)).fresh (f1 D hD), fun b hb => ?_, ?_, ?_⟩⟩
        · rw [List.length_map, e1]
          show i < 16777216
          omega
        · rw [List.length_append, e1]
          rfl
        · rcases List.mem_append.mp hc with y | y
          · exact e2 c y
          · rw [List.mem_singleton.mp y]
            omega
        · exact e4 b (sl.free (f2 b (f3 b (upd_none b hb))))
        · obtain ⟨x1, x2, x3, y1, y2, y3, y4, y5, y6⟩ := j3
          exact ⟨x1, x2, x3, by rw [upd_ne (fun e => hDj e.symm)]; exact y1, y2, y3, y4, y5, by omega⟩
        · show upd H3 D _ D = _
          rw [upd_same, List.map_append]
          rfl
      · have ek : (k : Int).toNat = k := Int.toNat_natCast k
        rw [ek] at e1 e5
        have nn : ∀ x ∈ ns, 0 ≤ x := fun x hx => (e2 x hx).1
        have s1 := sum_lt e2
        have s2 : (ns.length : Int) * 2 ^ 98 ≤ 8 * 2 ^ 98 := Int.mul_le_mul_of_nonneg_right (by omega) (by decide +kernel)
        have s3 : (8 : Int) * 2 ^ 98 < 2 ^ 200 := by decide +kernel
        have s4 : (2 : Int) ^ 200 ≤ 2 ^ 600 := two_le (by decide)
        refine ⟨.ref D, rfl, D, ns, rfl, SqL.of e6, ns.sum, 0, rfl, rfl, _, rfl, ite2 (fun hs => ?_) (fun _ => ?_)⟩
        · have ha : Amt ns := ⟨nn, of_decide_eq_true hs⟩
          refine ⟨.ref D, rfl, D, ns, rfl, e6, ha, by omega, gcd_lt ha (small8000 (by omega)), fun p H2 sp np e7 => ?_⟩
          have hps := plain_sum_le ha
          exact q p _ H2 (e3.trans (But.of sp)) (fun b h => e4 b (sp.free h)) (e4 p np) ((e5.keep sp).le (by omega)) e7 (plain_con ha (by omega) (by omega)) (by rw [Ma.plain_len, e1]) (fun _ => by have s5 : (8 : Int) * 2 ^ 98 < 2 ^ 102 := (by decide +kernel); omega)
        · refine ⟨.int k, rfl, k, 0, rfl, hk8, fun p H2 sp np e7 => ?_⟩
          have hps := pur_sum (k := k) (i := 0) (by omega)
          exact q p _ H2 (e3.trans (But.of sp)) (fun b h => e4 b (sp.free h)) (e4 p np) ((e5.keep sp).le (by omega)) e7 (pur_con (by omega) hk8) (pur_len k 0) (fun _ => by rw [hps]; decide +kernel)
    · refine ⟨.int k, rfl, .ref j, rfl, .int k, rfl, j, k, n + 1, rfl, j1, by omega, by omega, small8000 (Int.lt_of_le_of_lt (show (k : Int) ≤ 8 by omega) (by decide +kernel)), fun d H2 b2 f2 j2 y0 y1 => ?_⟩
      obtain ⟨dn, rfl⟩ := Int.eq_ofNat_of_zero_le y0
      refine ⟨k, dn, rfl, hk8, fun pot H3 s3 np e3 => ?_⟩
      refine ⟨.ref pot, rfl, .ref j, rfl, j, n + 1 + 1, rfl, j2.keep s3, by omega, fun t a b H4 b4 f4 nt j4 ht kp => ?_⟩
      refine ⟨.ref j, rfl, .int k, rfl, .ref j, rfl, .int m, rfl, m, 1, rfl, rfl, j, m + 1, n + 1 + 1 + 4, rfl, j4, by omega, by omega, small8000 (Int.lt_of_le_of_lt (show (m : Int) + 1 ≤ 60 by omega) (by decide +kernel)), fun z H5 b5 f5 j5 z0 z1 => ?_⟩
      obtain ⟨zn, rfl⟩ := Int.eq_ofNat_of_zero_le z0
      refine ⟨j, n + 1 + 1 + 4 + 1, k, zn, rfl, j5, by omega, hk, hk8, by omega, fun r cs H6 b6 f6 nr j6 er lr cr => ?_⟩
      have hpj : pot ≠ j := (j2.ne np)
      have htj : t ≠ j := (j2.keep s3).ne nt
      have e36 : LI H6 pot (pur k dn) := b6 _ _ hpj (b5 _ _ hpj (b4 _ _ hpj e3))
      have ht6 := b6 _ _ htj (b5 _ _ htj ht)
      have hdk : dn < k := by omega
      have hR : Row1 (pur k dn) a b cs := ⟨pur_con hdk hk8, by omega, kp, fun c hc => by rw [pur_len]; exact cr c hc⟩
      have hps := pur_sum hdk
      refine ⟨pot, t, r, pur k dn, a, b, cs, rfl, e36, ht6, er, hR, by rw [hps]; exact Int.lt_of_lt_of_le (show (1 : Int) < 2 ^ 1 by decide) (two_le (by decide)), fun p ps H7 s7 RR => ?_⟩
      obtain ⟨x, ex, lx, xm⟩ := RR.last
      have ff : ∀ y, H6 y = none → H y = none := fun y h => f1 y (f2 y (s3.free (f4 y (f5 y (f6 y h)))))
      refine ⟨1, rfl, p, _, -1, _, rfl, rfl, SqL.of RR.at_, ex, ?_⟩
      refine q x _ H7 (((((((b1.trans b2).trans (But.of s3)).trans b4).trans b5).trans b6)).trans (But.of s7)) (fun y h => ff y (s7.free h)) (ff x (RR.new x (List.mem_of_getElem? xm))) ((j6.keep s7).le (by omega)) lx (ctn_con hR.y _ (Nat.le_refl _)) ((ctn_len _ _ _ _).trans (pur_len k dn)) ?_
      intro hm8
      have g1 := ctn_sum hR.y cs.length (Nat.le_refl _)
      rw [hps, Int.mul_one] at g1
      have g2 : (100 : Int) ^ cs.length ≤ 100 ^ 8 := by
        have hx : cs.length ≤ 8 := by omega
        generalize cs.length = x at hx
        have : x = 0 ∨ x = 1 ∨ x = 2 ∨ x = 3 ∨ x = 4 ∨ x = 5 ∨ x = 6 ∨ x = 7 ∨ x = 8 := by omega
        rcases this with rfl | rfl | rfl | rfl | rfl | rfl | rfl | rfl | rfl <;> decide
      have g3 : (100 : Int) ^ 8 < 2 ^ 102 := by decide +kernel
      exact Int.lt_of_le_of_lt g1 (Int.lt_of_le_of_lt g2 g3)

end
end K29
end

section
set_option Elab.async false
set_option linter.all false
set_option maxRecDepth 100000
set_option maxHeartbeats 4000000
namespace K29
open PySem PySem.Spec PyProof.Rows L2 GxR Gx Ma
section
variable {P : Program} {w : World} {K : PySem.W.Frag} {mg : Str → Option Value} {base : Heap}

def sp_is_strs (T : Addr) : Sp := fun vs H Q _ => ∃ l ns, vs = [V.ref l] ∧ LI H l ns ∧ 0 < ns.length ∧ ns.length ≤ 8 ∧ H T = some (TabO T) ∧ Q (.bl true) H
def sp_check_strs (T : Addr) : Sp := fun vs H Q _ => ∃ l ns, vs = [V.ref l] ∧ LI H l ns ∧ 0 < ns.length ∧ ns.length ≤ 8 ∧ H T = some (TabO T) ∧ Q .non H
theorem op_inK {X : Cx} {K : PySem.W.Frag} (e : X.K = K) : OpR X (compareOp .In) (rIn K false) := e ▸ op_in_seq
/-- the strengths of the amounts, added up -/
def dotF (ns ss : List Int) (i : Nat) : Int := ns.getD i 0 * ss.getD i 0
def dotZ (ns ss : List Int) : Int := preSum (dotF ns ss) ns.length

theorem ok_is_list_of_strengths {f : Addr} {fd : FuncData} {c : Addr} (F : FunC K "is_list_of_strengths" "is_list_of_strengths" s_is_list_of_strengths f fd c) (B : Bl mg) (C_is_integer : Cal P w K mg base 1 "is_integer" ["thing"] sp_is_integer) {T : Addr} (TB_is_list_of_strengths : TabB base mg c T) : FnOk P w K mg base CX0 5 f fd ["thing"] (sp_is_strs T) := by
  refine F.ok sc_is_list_of_strengths (fun vs H Q E h => ?_) (fun A outer s H vs Q E hr h => ?_)
  · obtain ⟨l, ns, rfl, _⟩ := h; rfl
  · obtain ⟨l, ns, rfl, hl, h1, h8, hT, q⟩ := h
    have hcode : (cxOf CX0 P w K mg base ["thing"] "is_list_of_strengths" (defScope s_is_list_of_strengths) f (.ref c) A outer s H E).nox.env.code = .ref c := rfl
    have nd := sc_is_list_of_strengths.nd
    refine ⟨_, (pss_cons (ps_if (PW.pt (pw_or (pt_cmpR op_neTy (pe_typeOf (by rfl) B.type (pv 0)) (pe_bltn (v := .ty "list") (by rfl) B.list (by decide +kernel) rfl) (nomark _)) (pw_or1 (pt_not (pt_chain op_le op_le pe_int (pe_callB call_len_seq (by rfl) B.len PySem.boot_len (pa_cons (pv 0) pa_nil)) (pe_gi B.MOST_LIQUIDS))))))
      (pss_one (ps_ret pe_bl)) pss_nil)
      (pss_one (ps_ret (pe_allG (ns := []) (k' := 1) (hr.mono (by decide)) (by rfl) B.all TB_is_list_of_strengths hcode (gok_by (N := ["thing"]) (sc := defScope s_is_list_of_strengths) (by decide +kernel)) (by decide) (pi_list (pv 0)) (fun s H C code fp A hq => (pe_cal C_is_integer (hq.mono (by decide)) (pa_cons (pv 0) pa_nil))))))), ?_⟩
    refine ⟨.ref l, rfl, "list", by simp only [zTyV, hl], "list", rfl, rfl, TypeEq.meta_list, false, rfl, iteF ?_⟩
    refine ⟨.ref l, rfl, l, _, rfl, .inl (SqL.of hl), 1, _, rfl, rfl, _, rfl, ?_⟩
    rw [decide_eq_true (by rw [List.length_map]; omega)]
    refine iteT ⟨_, 8, rfl, rfl, _, rfl, ?_⟩
    rw [decide_eq_true (by rw [List.length_map]; omega)]
    refine iteF ⟨.ref l, rfl, l, rfl, ⟨_, SqL.of hl⟩, hT, all_list hl (fun i y hy R r => ?_) q⟩
    obtain ⟨n, e, rfl⟩ := map_get hy
    exact ⟨.int n, rfl, n, rfl, r⟩

theorem ok_check_strengths {f : Addr} {fd : FuncData}  (F : Fun K "check_strengths" "check_strengths" s_check_strengths f fd) (B : Bl mg) {T : Addr} (C_is_list_of_strengths : Cal P w K mg base 5 "is_list_of_strengths" ["thing"] (sp_is_strs T)) : FnOk P w K mg base CX0 6 f fd ["strengths"] (sp_check_strs T) := by
  refine F.ok sc_check_strengths (fun vs H Q E h => ?_) (fun cdv A outer s H vs Q E hr h => ?_)
  · obtain ⟨l, ns, rfl, _⟩ := h; rfl
  · obtain ⟨l, ns, rfl, hl, h1, h8, hT, q⟩ := h
    have nd := sc_check_strengths.nd
    refine ⟨_, (pss_one (ps_if (pt_not (pt_val (pe_cal C_is_list_of_strengths (hr.mono (by decide)) (pa_cons (pv 0) pa_nil))))
      (pss_one ps_never) pss_nil)), ?_⟩
    exact ⟨.ref l, rfl, l, ns, rfl, hl, h1, h8, hT, true, rfl, iteF q⟩

def sp_strength (Tc Ts Tg : Addr) : Sp := fun vs H Q _ => ∃ (l b : Addr) (ns ss : List Int), vs = [V.ref l, V.ref b] ∧ LI H l ns ∧ Con ns ∧ ns.sum < 2 ^ 7000 ∧ LI H b ss ∧ ss.length = ns.length ∧ (∀ x ∈ ss, x.natAbs < 2 ^ 100) ∧ H Tc = some (TabO Tc) ∧ H Ts = some (TabO Ts) ∧ H Tg = some (TabO Tg) ∧
  ∀ p H', Same H H' → H p = none → H' p = some (.tup [.int (fr (dotZ ns ss) ns.sum).1, .int (fr (dotZ ns ss) ns.sum).2]) → Q (.ref p) H'
theorem getD_atS {ns : List Int} {i : Nat} (h : i < ns.length) : ns[i]? = some (ns.getD i 0) := by
  rw [List.getD_eq_getElem?_getD, List.getElem?_eq_getElem h]
  rfl
theorem getD_memS {ns : List Int} {i : Nat} (h : i < ns.length) : ns.getD i 0 ∈ ns := List.mem_of_getElem? (getD_atS h)

theorem ok_strength_of {f : Addr} {fd : FuncData} {c : Addr} (F : FunC K "strength_of" "strength_of" s_strength_of f fd c) (B : Bl mg) {Tc : Addr} (C_check_content : Cal P w K mg base 7 "check_content" ["content"] (sp_check_content Tc)) {Ts : Addr} (C_check_strengths : Cal P w K mg base 6 "check_strengths" ["strengths"] (sp_check_strs Ts)) (C_lowest_terms : Cal P w K mg base 1 "lowest_terms" ["top", "bottom"] sp_low) {Tg : Addr} (TB_strength_of : TabB base mg c Tg) : FnOk P w K mg base CX0 8 f fd ["content", "strengths"] (sp_strength Tc Ts Tg) := by
  refine F.ok sc_strength_of (fun vs H Q E h => ?_) (fun A outer s H vs Q E hr h => ?_)
  · obtain ⟨l, b, ns, ss, rfl, _⟩ := h; rfl
  · obtain ⟨l, b, ns, ss, rfl, hl, hc, hz, hb, hlen, hs, h1, h2, h3, q⟩ := h
    have hcode : (cxOf CX0 P w K mg base ["content", "strengths", "top"] "strength_of" (defScope s_strength_of) f (.ref c) A outer s H E).nox.env.code = .ref c := rfl
    have c1 := hc.len
    have c8 := hc.le8
    have nd := sc_strength_of.nd
    refine ⟨_, (pss_cons (ps_expr (pe_cal C_check_content (hr.mono (by decide)) (pa_cons (pv 0) pa_nil)))
      (pss_cons (ps_expr (pe_cal C_check_strengths (hr.mono (by decide)) (pa_cons (pv 1) pa_nil)))
      (pss_cons (ps_if (pt_cmpR op_ne (pe_callB call_len_seq (by rfl) B.len PySem.boot_len (pa_cons (pv 1) pa_nil)) (pe_callB call_len_seq (by rfl) B.len PySem.boot_len (pa_cons (pv 0) pa_nil)) (nomark _))
      (pss_one ps_never) pss_nil)
      (pss_cons (ps_set (i := 2) nd rfl (Or.inl rfl) (pe_sumG (ns := []) (xs := ["amount", "strength"]) (g := gTup K 2 (gCons (gName 0) (gCons (gName 1) gNil))) (k' := 0) (hr.mono (by decide)) (by rfl) B.sum TB_strength_of hcode (gokV_by (N := ["content", "strengths", "top"]) (sc := defScope s_strength_of) (by decide +kernel)) (pi_zip (by rfl) B.zip (pa_cons (pv 0) (pa_cons (pv 1) pa_nil))) (fun s H C code fp A => (pg_tup (by rfl) (pgs_cons (pg_name (i := 0) (show (["amount", "strength"] : List Str).Nodup by decide) rfl (Or.inl rfl)) (pgs_cons (pg_name (i := 1) (show (["amount", "strength"] : List Str).Nodup by decide) rfl (Or.inl rfl)) pgs_nil)))) (fun s H C code fp A hq => (pe_op op_mulW (pv 0) (pv 1)))))
      (pss_one (ps_ret (pe_cal C_lowest_terms (hr.mono (by decide)) (pa_cons (pv 2) (pa_cons (pe_callB (cr_sum rfl) (by rfl) B.sum (by decide +kernel) (pa_cons (pv 0) pa_nil)) pa_nil))))))))), ?_⟩
    refine ⟨.ref l, rfl, l, ns, rfl, hl, hc, h1, ?_⟩
    refine ⟨.ref b, rfl, b, ss, rfl, hb, by omega, by omega, h2, ?_⟩
    refine ⟨.ref b, rfl, b, _, rfl, .inl (SqL.of hb), .ref l, rfl, l, _, rfl, .inl (SqL.of hl), rfl, _, rfl, ?_⟩
    refine iteNS (by rw [List.length_map, List.length_map, hlen]) ?_
    refine ⟨.ref l, rfl, .ref b, rfl, l, b, _, _, rfl, SqL.of hl, SqL.of hb, h3, ns.length, dotF ns ss, fun S hS => ⟨fun i H' => Same H H' ∧ H' S = some (.lst [.int (preSum (dotF ns ss) i)]), ⟨same_new hS, upd_same⟩, fun H' ⟨e1, e2⟩ => ⟨⟨_, _, SqL.of (e1 _ _ hl), SqL.of (e1 _ _ hb), .inl (by rw [List.length_map]; exact Nat.le_refl _)⟩, ?_⟩, fun i H' hi ⟨e1, e2⟩ => ⟨⟨_, _, _, _, SqL.of (e1 _ _ hl), SqL.of (e1 _ _ hb), get_map (getD_atS hi), get_map (getD_atS (by omega))⟩, fun y H2 hy => ?_⟩⟩⟩
    · have hsp := hc.amt.pos
      refine ⟨.int (dotZ ns ss), rfl, .ref l, rfl, l, ns, rfl, SqL.of (e1 _ _ hl), _, _, rfl, hsp, ?_, fun p H3 s3 np e3 => ?_⟩
      · exact Int.lt_of_lt_of_le hz (pow_le_of (by decide))
      · exact q p H3 (e1.trans s3) (e1.free np) e3
    · obtain ⟨T29, x1, x2, rfl, nT2, rfl, hx1, hx2⟩ := hy
      obtain rfl := Option.some.inj ((hx1 _ (SqL.of (e1 _ _ hl))).symm.trans (get_map (getD_atS hi)))
      obtain rfl := Option.some.inj ((hx2 _ (SqL.of (e1 _ _ hb))).symm.trans (get_map (getD_atS (by omega))))
      have hm := getD_memS hi
      have n0 := hc.nn _ hm
      have n1 := le_sum hc.nn hm
      have s1 := hs _ (getD_memS (ns := ss) (i := i) (by omega))
      have sT := same_new (o := .tup [V.int (ns.getD i 0), V.int (ss.getD i 0)]) nT2
      refine ⟨T29, _, rfl, SqT.of upd_same, rfl, _, _, rfl, _, _, rfl, rfl, keep2_2 (c := []), ?_⟩
      refine ⟨.int (ns.getD i 0), rfl, .int (ss.getD i 0), rfl, _, _, rfl, rfl, wide_mul (a := 7000) (b := 100) (abs_lt n0 (Int.lt_of_le_of_lt n1 hz)) s1 (by decide) (by decide) (by decide), rfl, sT _ _ e2, fun x u hx => ?_, upd_same⟩
      rw [upd_ne (ne_of_none hx hS)]
      exact sT _ _ (e1 x u hx)

end
end K29
end

section
set_option Elab.async false
set_option linter.all false
set_option maxRecDepth 100000
set_option maxHeartbeats 4000000
namespace K29
open PySem PySem.Spec PyProof.Rows L2 GxR Gx Ma
section
variable {P : Program} {w : World} {K : PySem.W.Frag} {mg : Str → Option Value} {base : Heap}

theorem dp_ints {K : PySem.W.Frag} {H : Hp} : ∀ ns : List Int, DpAll K H (ns.map V.int) (ns.map PyData.int)
  | [] => .nil
  | n :: r => .cons (.int n) (dp_ints r)
theorem canLay_ints : ∀ ns : List Int, PyData.canLayAll0 (ns.map PyData.int) = true
  | [] => rfl
  | n :: r => by rw [List.map_cons, PyData.canLayAll0, canLay_ints r]; rfl
theorem depth_ints : ∀ ns : List Int, PyData.depthAll (ns.map PyData.int) ≤ 1
  | [] => by decide
  | n :: r => by
    have := depth_ints r
    simp only [List.map_cons, PyData.depthAll, PyData.depth]
    omega
theorem shaped_ints (ns : List Int) : SeqAt.shaped (.list (ns.map PyData.int)) = true := by
  have h1 := depth_ints ns
  unfold SeqAt.shaped
  rw [Bool.and_eq_true]
  refine ⟨canLay_ints ns, decide_eq_true ?_⟩
  rw [PyData.depth]
  omega
theorem dp_li {K : PySem.W.Frag} {H : Hp} {l : Addr} {ns : List Int} (h : LI H l ns) : Dp K H (.ref l) (.list (ns.map PyData.int)) := .lst (SqL.of h) (dp_ints ns)
theorem eqv_ints (ns : List Int) : PyData.eqv (.list (ns.map PyData.int)) (.list (ns.map PyData.int)) = true := SeqAt.eqv_refl _ (canLay_ints ns)

theorem sql_same {H H' : Hp} {a : Addr} {xs : List V} (h : SqL K H a xs) (e : Same H H') : SqL K H' a xs :=
  h.elim (fun h => .inl (h.elim (fun h => .inl (e _ _ h)) fun ⟨o, h⟩ => .inr ⟨o, e _ _ h⟩)) fun h => .inr h
theorem intsAll_of {B : Nat} : ∀ ns : List Int, (∀ n ∈ ns, n.natAbs < 2 ^ B) → intsAll B (ns.map PyData.int)
  | [], _ => trivial
  | n :: r, h => ⟨h n List.mem_cons_self, intsAll_of r fun m hm => h m (List.mem_cons_of_mem _ hm)⟩
theorem nodAll_ints : ∀ ns : List Int, nodAll (ns.map PyData.int) = 3 * ns.length
  | [] => rfl
  | n :: r => by
    have h1 : nod (PyData.int n) = 1 := by simp [nod]
    rw [List.map_cons, nodAll, nodAll_ints r, List.length_cons, h1]
    omega
theorem depth_li (ns : List Int) : (PyData.list (ns.map PyData.int)).depth ≤ 30 := by
  have := depth_ints ns
  rw [PyData.depth]
  omega
theorem nod_li {ns : List Int} {B : Nat} (h : ns.length ≤ 1000) (hB : B ≤ 1900) : (B + 1) * nod (.list (ns.map PyData.int)) ≤ 16777216 := by
  have e : nod (.list (ns.map PyData.int)) = 3 * ns.length + 3 := by rw [nod, nodAll_ints]
  rw [e]
  have h1 : (B + 1) * (3 * ns.length + 3) ≤ 1901 * 3003 := Nat.mul_le_mul (by omega) (by omega)
  omega

theorem cut_last (xs : List V) (y : V) : cutV (xs ++ [y]) none (some (-1)) = xs := by
  unfold cutV
  have e : (xs ++ [y]).length = xs.length + 1 := by rw [List.length_append]; rfl
  have e1 : HT.sIx (xs ++ [y]).length 0 none = 0 := rfl
  have e2 : HT.sIx (xs ++ [y]).length (xs ++ [y]).length (some (-1)) = xs.length := by
    unfold HT.sIx
    dsimp only
    rw [if_pos (by decide), e]
    omega
  rw [e1, e2, List.drop_zero, Nat.sub_zero, List.take_left']
  rfl

theorem sl_listK {X : Cx} {K : PySem.W.Frag} (e : X.K = K) : SlR X (rSlL K) := e ▸ sl_list
theorem dp_rows {K : PySem.W.Frag} {H : Hp} {v : Nat → List Int} : ∀ (ps : List Addr) (k : Nat), (∀ (i : Nat) (a : Addr), ps[i]? = some a → LI H a (v (k + i))) → DpAll K H (ps.map V.ref) ((List.range' k ps.length).map fun i => PyData.list ((v i).map PyData.int))
  | [], _, _ => .nil
  | a :: r, k, h => by
    rw [List.length_cons, List.range'_succ]
    refine .cons (dp_li (h 0 a rfl)) (dp_rows r (k + 1) fun i b hb => ?_)
    have := h (i + 1) b hb
    rw [show k + 1 + i = k + (i + 1) by omega]
    exact this
def datR (v : Nat → List Int) (n : Nat) : PyData := .list ((List.range' 0 n).map fun i => PyData.list ((v i).map PyData.int))
theorem Rows.dp {K : PySem.W.Frag} {H H' : Hp} {p : Addr} {ps : List Addr} {n : Nat} {v : Nat → List Int} (R : Rows H H' p ps n v) {H2 : Hp} (s : Same H' H2) : Dp K H2 (.ref p) (datR v n) := by
  unfold datR
  rw [← R.len]
  exact .lst (SqL.of (s _ _ R.at_)) (dp_rows ps 0 fun i a h => by rw [Nat.zero_add]; exact s _ _ (R.row i a h))
theorem canLay_rows (v : Nat → List Int) : ∀ l : List Nat, PyData.canLayAll0 (l.map fun i => PyData.list ((v i).map PyData.int)) = true
  | [] => rfl
  | i :: r => by
    have h1 : (PyData.list ((v i).map PyData.int)).canLay0 = true := canLay_ints (v i)
    rw [List.map_cons, PyData.canLayAll0, canLay_rows v r, h1]
    rfl
theorem depth_rows (v : Nat → List Int) : ∀ l : List Nat, PyData.depthAll (l.map fun i => PyData.list ((v i).map PyData.int)) ≤ 2
  | [] => by rw [List.map_nil, PyData.depthAll]; decide
  | i :: r => by
    have h1 := depth_rows v r
    have h2 := depth_ints (v i)
    simp only [List.map_cons, PyData.depthAll, PyData.depth]
    omega
theorem depth_dat (v : Nat → List Int) (n : Nat) : (datR v n).depth ≤ 30 := by
  have := depth_rows v (List.range' 0 n)
  unfold datR
  rw [PyData.depth]
  omega
theorem lay_dat (v : Nat → List Int) (n : Nat) : (datR v n).canLay0 = true := canLay_rows v _
theorem shaped_dat (v : Nat → List Int) (n : Nat) : SeqAt.shaped (datR v n) = true := by
  have h1 := depth_dat v n
  unfold SeqAt.shaped
  rw [Bool.and_eq_true]
  exact ⟨lay_dat v n, decide_eq_true (by omega)⟩
theorem eqv_dat (v : Nat → List Int) (n : Nat) : PyData.eqv (datR v n) (datR v n) = true := SeqAt.eqv_refl _ (lay_dat v n)
theorem ints_rows {B : Nat} {v : Nat → List Int} : ∀ l : List Nat, (∀ i ∈ l, ∀ n ∈ v i, n.natAbs < 2 ^ B) → intsAll B (l.map fun i => PyData.list ((v i).map PyData.int))
  | [], _ => trivial
  | i :: r, h => ⟨intsAll_of _ (h i List.mem_cons_self), ints_rows r fun j hj => h j (List.mem_cons_of_mem _ hj)⟩
theorem nod_ints (ns : List Int) : nod (.list (ns.map PyData.int)) = 3 * ns.length + 3 := by rw [nod, nodAll_ints]
theorem nodAll_rows {M : Nat} {v : Nat → List Int} : ∀ l : List Nat, (∀ i ∈ l, (v i).length ≤ M) → nodAll (l.map fun i => PyData.list ((v i).map PyData.int)) ≤ l.length * (3 * M + 5)
  | [], _ => Nat.zero_le _
  | i :: r, h => by
    have h1 := nodAll_rows r fun j hj => h j (List.mem_cons_of_mem _ hj)
    have h2 := h i List.mem_cons_self
    rw [List.map_cons, nodAll, nod_ints, List.length_cons, Nat.add_mul, Nat.one_mul]
    omega
theorem nod_dat {M n : Nat} {v : Nat → List Int} (h : ∀ i, i < n → (v i).length ≤ M) : nod (datR v n) ≤ n * (3 * M + 5) + 3 := by
  have := nodAll_rows (M := M) (v := v) (List.range' 0 n) fun i hi => h i (by rw [List.mem_range'_1] at hi; omega)
  rw [List.length_range'] at this
  unfold datR
  rw [nod]
  omega
/-- what repr asks of the rows of a walk -/
theorem ctn_bits {ns : List Int} {ks : List (Int × Int)} {cs : List Nat} (R : Rowy ns ks cs) (hz : ns.sum < 2 ^ 600) {i : Nat} (hi : i ≤ cs.length) : ∀ n ∈ ctn ns ks cs i, n.natAbs < 2 ^ 1020 := fun n hn => by
  have hc := ctn_con R i hi
  have h1 := hc.nn n hn
  have h2 := le_sum hc.nn hn
  have h3 := ctn_small R i hi hz
  exact abs_lt h1 (Int.lt_of_le_of_lt h2 h3)
theorem dat_ok {ns : List Int} {ks : List (Int × Int)} {cs : List Nat} (R : Rowy ns ks cs) (hz : ns.sum < 2 ^ 600) (h60 : cs.length ≤ 60) : intsP 1020 (datR (ctn ns ks cs) (cs.length + 1)) ∧ (1020 + 1) * nod (datR (ctn ns ks cs) (cs.length + 1)) ≤ 16777216 := by
  refine ⟨ints_rows _ fun i hi => ctn_bits R hz (by rw [List.mem_range'_1] at hi; omega), ?_⟩
  have h1 := nod_dat (M := 8) (n := cs.length + 1) (v := ctn ns ks cs) fun i hi => by rw [ctn_len]; exact R.con.le8
  have h2 : (cs.length + 1) * (3 * 8 + 5) ≤ 61 * 29 := Nat.mul_le_mul (by omega) (by omega)
  have h3 : nod (datR (ctn ns ks cs) (cs.length + 1)) ≤ 1772 := by omega
  exact Nat.le_trans (Nat.mul_le_mul_left _ h3) (by decide)
theorem con_bits {ns : List Int} (hc : Con ns) (hz : ns.sum < 2 ^ 1020) : intsP 1020 (.list (ns.map PyData.int)) ∧ (1020 + 1) * nod (.list (ns.map PyData.int)) ≤ 16777216 := by
  refine ⟨intsAll_of _ fun n hn => abs_lt (hc.nn n hn) (Int.lt_of_le_of_lt (le_sum hc.nn hn) hz), ?_⟩
  have h8 := hc.le8
  have h3 : nod (.list (ns.map PyData.int)) ≤ 27 := by rw [nod_ints]; omega
  exact Nat.le_trans (Nat.mul_le_mul_left _ h3) (by decide)
def two (ns ms : List Int) : PyData := .list [.list (ns.map PyData.int), .list (ms.map PyData.int)]
theorem rowI_len (cs : List Nat) : (rowI cs).length = cs.length := by unfold rowI; rw [List.length_map]
theorem two_ok {ns : List Int} {cs : List Nat} {k : Nat} (hc : Con ns) (hz : ns.sum < 2 ^ 1020) (h60 : cs.length ≤ 60) (hk : k ≤ 8) (hcs : ∀ c ∈ cs, c < k) : intsP 1020 (two ns (rowI cs)) ∧ (1020 + 1) * nod (two ns (rowI cs)) ≤ 16777216 ∧ (two ns (rowI cs)).depth ≤ 30 := by
  refine ⟨⟨(con_bits hc hz).1, intsAll_of _ fun n hn => ?_, trivial⟩, ?_, ?_⟩
  · obtain ⟨m, hm, e⟩ := List.mem_map.mp hn
    have e2 : (m : Int) = n := e
    have := hcs m hm
    rw [← e2, Int.natAbs_natCast]
    exact Nat.lt_of_lt_of_le (show m < 2 ^ 3 by omega) (Nat.pow_le_pow_right (by decide) (by decide))
  · have h8 := hc.le8
    have e : nod (two ns (rowI cs)) = (3 * ns.length + 3) + 2 + ((3 * cs.length + 3) + 2 + 0) + 3 := by
      unfold two
      rw [nod, nodAll, nodAll, nodAll, nod_ints, nod_ints, rowI_len]
    have h3 : nod (two ns (rowI cs)) ≤ 300 := by omega
    exact Nat.le_trans (Nat.mul_le_mul_left _ h3) (by decide)
  · have h1 := depth_ints ns
    have h2 := depth_ints (rowI cs)
    unfold two
    simp only [PyData.depth, PyData.depthAll]
    omega
theorem dp_two {K : PySem.W.Frag} {H : Hp} {o l r : Addr} {ns ms : List Int} (ho : H o = some (.lst [.ref l, .ref r])) (hl : LI H l ns) (hr2 : LI H r ms) : Dp K H (.ref o) (two ns ms) := .lst (SqL.of ho) (.cons (dp_li hl) (.cons (dp_li hr2) .nil))
def sp_topped (T : Addr) : Sp := fun vs H Q _ => ∃ (l t : Addr) (ns : List Int) (a b : Int) (c : Nat), vs = [V.ref l, V.ref t, V.int c] ∧ LI H l ns ∧ Con ns ∧ H t = some (.tup [.int a, .int b]) ∧ Kep a b ∧ c < ns.length ∧ ns.sum < 2 ^ 7900 ∧ H T = some (TabO T) ∧ ∀ p H', Same H H' → H p = none → LI H' p (step ns a b c) → Q (.ref p) H'


theorem map_ref {ps : List Addr} {i : Nat} {x : V} (h : (ps.map V.ref)[i]? = some x) : ∃ a, ps[i]? = some a ∧ x = .ref a := by
  rw [List.getElem?_map] at h
  cases e : ps[i]? with
  | none => rw [e] at h; cases h
  | some a => rw [e] at h; exact ⟨a, rfl, (Option.some.inj h).symm⟩

def pairD (q : Int × Int) : PyData := .tuple [.int q.1, .int q.2]
theorem dp_pairs {K : PySem.W.Frag} {H : Hp} : ∀ (ts : List Addr) (ks : List (Int × Int)), ts.length = ks.length → (∀ i t, ts[i]? = some t → H t = some (.tup [.int (ks.getD i (1, 2)).1, .int (ks.getD i (1, 2)).2])) → DpAll K H (ts.map V.ref) (ks.map pairD)
  | [], [], _, _ => .nil
  | [], _ :: _, h, _ => by cases h
  | _ :: _, [], h, _ => by cases h
  | t :: ts, q :: ks, h, f => .cons (.tup (SqT.of (f 0 t rfl)) (.cons (.int _) (.cons (.int _) .nil))) (dp_pairs ts ks (Nat.succ.inj h) fun i u hu => f (i + 1) u hu)
theorem dp_keeps {K : PySem.W.Frag} {H : Hp} {l : Addr} {ts : List Addr} {ks : List (Int × Int)} (h : Keeps H l ts ks) : Dp K H (.ref l) (.list (ks.map pairD)) := .lst (SqL.of h.at_) (dp_pairs ts ks h.len h.tup)
theorem ints_pairs {B : Nat} : ∀ ks : List (Int × Int), (∀ q ∈ ks, q.1.natAbs < 2 ^ B ∧ q.2.natAbs < 2 ^ B) → intsAll B (ks.map pairD)
  | [], _ => trivial
  | q :: r, h => ⟨⟨(h q List.mem_cons_self).1, (h q List.mem_cons_self).2, trivial⟩, ints_pairs r fun m hm => h m (List.mem_cons_of_mem _ hm)⟩
theorem nod_pairs : ∀ ks : List (Int × Int), nodAll (ks.map pairD) = 11 * ks.length
  | [] => rfl
  | q :: r => by
    have h1 : nod (pairD q) = 9 := by simp [pairD, nod, nodAll]
    rw [List.map_cons, nodAll, nod_pairs r, List.length_cons, h1]
    omega
theorem depth_pairs : ∀ ks : List (Int × Int), PyData.depthAll (ks.map pairD) ≤ 3
  | [] => by rw [List.map_nil, PyData.depthAll]; decide
  | q :: r => by
    have h1 := depth_pairs r
    simp only [List.map_cons, PyData.depthAll, pairD, PyData.depth]
    omega
def threeD (ns : List Int) (ks : List (Int × Int)) (ms : List Int) : PyData := .list [.list (ns.map PyData.int), .list (ks.map pairD), .list (ms.map PyData.int)]
theorem dp_three {K : PySem.W.Frag} {H : Hp} {o l d r : Addr} {ns ms : List Int} {ts : List Addr} {ks : List (Int × Int)} (ho : H o = some (.lst [.ref l, .ref d, .ref r])) (hl : LI H l ns) (hk : Keeps H d ts ks) (hr2 : LI H r ms) : Dp K H (.ref o) (threeD ns ks ms) :=
  .lst (SqL.of ho) (.cons (dp_li hl) (.cons (dp_keeps hk) (.cons (dp_li hr2) .nil)))
theorem three_ok {ns : List Int} {ks : List (Int × Int)} {cs : List Nat} {k : Nat} (hc : Con ns) (hz : ns.sum < 2 ^ 1020) (hk60 : ks.length ≤ 60) (hkp : ∀ q ∈ ks, Kep q.1 q.2) (h60 : cs.length ≤ 60) (hk : k ≤ 8) (hcs : ∀ c ∈ cs, c < k) :
    intsP 1020 (threeD ns ks (rowI cs)) ∧ (1020 + 1) * nod (threeD ns ks (rowI cs)) ≤ 16777216 ∧ (threeD ns ks (rowI cs)).depth ≤ 30 := by
  refine ⟨⟨(con_bits hc hz).1, ints_pairs _ fun q hq => ?_, intsAll_of _ fun n hn => ?_, trivial⟩, ?_, ?_⟩
  · have h := hkp q hq
    have h1 := h.a1
    have h2 := h.ab
    have h3 := h.b100
    have h4 : (100 : Int) < 2 ^ 1020 := by decide +kernel
    exact ⟨abs_lt (by omega) (by omega), abs_lt (by omega) (by omega)⟩
  · obtain ⟨m, hm, e⟩ := List.mem_map.mp hn
    have e2 : (m : Int) = n := e
    have := hcs m hm
    rw [← e2, Int.natAbs_natCast]
    exact Nat.lt_of_lt_of_le (show m < 2 ^ 3 by omega) (Nat.pow_le_pow_right (by decide) (by decide))
  · have h8 := hc.le8
    have e1 : nod (.list (ks.map pairD)) = 11 * ks.length + 3 := by rw [nod, nod_pairs]
    have e : nod (threeD ns ks (rowI cs)) = (3 * ns.length + 3) + 2 + ((11 * ks.length + 3) + 2 + ((3 * cs.length + 3) + 2 + 0)) + 3 := by
      unfold threeD
      rw [nod, nodAll, nodAll, nodAll, nodAll, nod_ints, nod_ints, rowI_len, e1]
    have h3 : nod (threeD ns ks (rowI cs)) ≤ 1000 := by omega
    exact Nat.le_trans (Nat.mul_le_mul_left _ h3) (by decide)
  · have h1 := depth_ints ns
    have h2 := depth_ints (rowI cs)
    have h3 := depth_pairs ks
    unfold threeD
    simp only [PyData.depth, PyData.depthAll]
    omega
theorem Jar.tab {H : Hp} {j T : Addr} {n : Nat} (h : Jar H j n) (e : H T = some (TabO T)) : T ≠ j := fun z => by
  obtain ⟨_, _, _, q, _⟩ := h
  rw [z, q] at e
  cases e
theorem Jar.tupne {H : Hp} {j T : Addr} {n : Nat} {xs : List V} (h : Jar H j n) (e : H T = some (.tup xs)) : T ≠ j := fun z => by
  obtain ⟨_, _, _, q, _⟩ := h
  rw [z, q] at e
  cases e
def sp_is_list_of_keeps (T : Addr) : Sp := fun vs H Q _ => ∃ (l : Addr) (ts : List Addr) (ks : List (Int × Int)), vs = [V.ref l] ∧ Keeps H l ts ks ∧ ts.length ≤ 60 ∧ (∀ q ∈ ks, Kep q.1 q.2) ∧ H T = some (TabO T) ∧ Q (.bl true) H
def sp_check_keeps (T : Addr) : Sp := fun vs H Q _ => ∃ (l : Addr) (ts : List Addr) (ks : List (Int × Int)), vs = [V.ref l] ∧ Keeps H l ts ks ∧ ts.length ≤ 60 ∧ (∀ q ∈ ks, Kep q.1 q.2) ∧ H T = some (TabO T) ∧ Q .non H
def sp_topped_by (Tc Tk Tr : Addr) : Sp := fun vs H Q _ => ∃ (l kl r : Addr) (ns : List Int) (ts : List Addr) (ks : List (Int × Int)) (cs : List Nat), vs = [V.ref l, V.ref kl, V.ref r] ∧ LI H l ns ∧ Keeps H kl ts ks ∧ LI H r (rowI cs) ∧ Rowy ns ks cs ∧ ns.sum < 2 ^ 7000 ∧ H Tc = some (TabO Tc) ∧ H Tk = some (TabO Tk) ∧ H Tr = some (TabO Tr) ∧
  ∀ p H', Same H H' → H p = none → LI H' p (ctn ns ks cs cs.length) → Q (.ref p) H'

theorem ok_is_list_of_keeps {f : Addr} {fd : FuncData} {c : Addr} (F : FunC K "is_list_of_keeps" "is_list_of_keeps" s_is_list_of_keeps f fd c) (B : Bl mg) (C_is_kept : Cal P w K mg base 3 "is_kept" ["thing"] sp_is_kept) {T : Addr} (TB_is_list_of_keeps : TabB base mg c T) : FnOk P w K mg base CX0 7 f fd ["thing"] (sp_is_list_of_keeps T) := by
  refine F.ok sc_is_list_of_keeps (fun vs H Q E h => ?_) (fun A outer s H vs Q E hr h => ?_)
  · obtain ⟨l, ts, ks, rfl, _⟩ := h; rfl
  · obtain ⟨l, ts, ks, rfl, hk, h60, hkp, hT, q⟩ := h
    have hcode : (cxOf CX0 P w K mg base ["thing"] "is_list_of_keeps" (defScope s_is_list_of_keeps) f (.ref c) A outer s H E).nox.env.code = .ref c := rfl
    have nd := sc_is_list_of_keeps.nd
    refine ⟨_, (pss_cons (ps_if (PW.pt (pw_or (pt_cmpR op_neTy (pe_typeOf (by rfl) B.type (pv 0)) (pe_bltn (v := .ty "list") (by rfl) B.list (by decide +kernel) rfl) (nomark _)) (pw_or1 (pt_cmpR op_gt (pe_callB call_len_seq (by rfl) B.len PySem.boot_len (pa_cons (pv 0) pa_nil)) (pe_gi B.MOST_TOP_UPS) (nomark _)))))
      (pss_one (ps_ret pe_bl)) pss_nil)
      (pss_one (ps_ret (pe_allG (ns := []) (k' := 3) (hr.mono (by decide)) (by rfl) B.all TB_is_list_of_keeps hcode (gok_by (N := ["thing"]) (sc := defScope s_is_list_of_keeps) (by decide +kernel)) (by decide) (pi_list (pv 0)) (fun s H C code fp A hq => (pe_cal C_is_kept (hq.mono (by decide)) (pa_cons (pv 0) pa_nil))))))), ?_⟩
    refine ⟨.ref l, rfl, "list", by simp only [zTyV, hk.at_], "list", rfl, rfl, TypeEq.meta_list, false, rfl, iteF ?_⟩
    refine ⟨.ref l, rfl, l, _, rfl, .inl (SqL.of hk.at_), _, _, rfl, rfl, _, rfl, ?_⟩
    rw [decide_eq_false (by rw [List.length_map]; omega)]
    refine iteF ⟨.ref l, rfl, l, rfl, ⟨_, SqL.of hk.at_⟩, hT, all_list hk.at_ (fun i y hy R r => ?_) q⟩
    obtain ⟨t, ht, rfl⟩ := map_ref hy
    have hi := (List.getElem?_eq_some_iff.mp ht).1
    rw [hk.len] at hi
    exact ⟨.ref t, rfl, t, _, _, rfl, hk.tup i t ht, hkp _ (getD_mem hi), r⟩

theorem ok_check_keeps {f : Addr} {fd : FuncData}  (F : Fun K "check_keeps" "check_keeps" s_check_keeps f fd) (B : Bl mg) {T : Addr} (C_is_list_of_keeps : Cal P w K mg base 7 "is_list_of_keeps" ["thing"] (sp_is_list_of_keeps T)) : FnOk P w K mg base CX0 8 f fd ["keeps"] (sp_check_keeps T) := by
  refine F.ok sc_check_keeps (fun vs H Q E h => ?_) (fun cdv A outer s H vs Q E hr h => ?_)
  · obtain ⟨l, ts, ks, rfl, _⟩ := h; rfl
  · obtain ⟨l, ts, ks, rfl, hk, h60, hkp, hT, q⟩ := h
    have nd := sc_check_keeps.nd
    refine ⟨_, (pss_one (ps_if (pt_not (pt_val (pe_cal C_is_list_of_keeps (hr.mono (by decide)) (pa_cons (pv 0) pa_nil))))
      (pss_one ps_never) pss_nil)), ?_⟩
    exact ⟨.ref l, rfl, l, ts, ks, rfl, hk, h60, hkp, hT, true, rfl, iteF q⟩

theorem ok_topped {f : Addr} {fd : FuncData}  (F : Fun K "topped" "topped" s_topped f fd) (B : Bl mg) {T : Addr} (C_check_content : Cal P w K mg base 7 "check_content" ["content"] (sp_check_content T)) (C_check_kept : Cal P w K mg base 4 "check_kept" ["kept"] sp_check_kept) (C_check_liquid : Cal P w K mg base 3 "check_liquid" ["liquid", "liquids"] sp_check_liquid) (C_content_behind : Cal P w K mg base 3 "content_behind" ["content", "kept", "liquid"] sp_content_behind) : FnOk P w K mg base CX0 8 f fd ["content", "kept", "liquid"] (sp_topped T) := by
  refine F.ok sc_topped (fun vs H Q E h => ?_) (fun cdv A outer s H vs Q E hr h => ?_)
  · obtain ⟨l, t, ns, a, b, c, rfl, _⟩ := h; rfl
  · obtain ⟨l, t, ns, a, b, c, rfl, hl, hc, ht, hk, hlt, hz, hT, q⟩ := h
    have nd := sc_topped.nd
    refine ⟨_, (pss_cons (ps_expr (pe_cal C_check_content (hr.mono (by decide)) (pa_cons (pv 0) pa_nil)))
      (pss_cons (ps_expr (pe_cal C_check_kept (hr.mono (by decide)) (pa_cons (pv 1) pa_nil)))
      (pss_cons (ps_expr (pe_cal C_check_liquid (hr.mono (by decide)) (pa_cons (pv 2) (pa_cons (pe_callB call_len_seq (by rfl) B.len PySem.boot_len (pa_cons (pv 0) pa_nil)) pa_nil))))
      (pss_one (ps_ret (pe_cal C_content_behind (hr.mono (by decide)) (pa_cons (pv 0) (pa_cons (pv 1) (pa_cons (pv 2) pa_nil))))))))), ?_⟩
    refine ⟨.ref l, rfl, l, ns, rfl, hl, hc, hT, .ref t, rfl, t, a, b, rfl, ht, hk, .int c, rfl, .ref l, rfl, l, _, rfl, .inl (SqL.of hl), c, _, rfl, by omega, by rw [List.length_map]; omega, ?_⟩
    exact ⟨.ref l, rfl, .ref t, rfl, .int c, rfl, l, t, ns, a, b, c, rfl, hl, hc, ht, hk, hlt, hz, q⟩

theorem ok_topped_by {f : Addr} {fd : FuncData}  (F : Fun K "topped_by" "topped_by" s_topped_by f fd) (B : Bl mg) {Tc : Addr} (C_check_content : Cal P w K mg base 7 "check_content" ["content"] (sp_check_content Tc)) {Tk : Addr} (C_check_keeps : Cal P w K mg base 8 "check_keeps" ["keeps"] (sp_check_keeps Tk)) {Tr : Addr} (C_check_row : Cal P w K mg base 8 "check_row" ["row", "liquids"] (sp_check_row Tr)) (C_contents_by : Cal P w K mg base 4 "contents_by" ["content", "keeps", "row"] sp_contents_by) : FnOk P w K mg base CX0 9 f fd ["content", "keeps", "row"] (sp_topped_by Tc Tk Tr) := by
  refine F.ok sc_topped_by (fun vs H Q E h => ?_) (fun cdv A outer s H vs Q E hr h => ?_)
  · obtain ⟨l, kl, r, ns, ts, ks, cs, rfl, _⟩ := h; rfl
  · obtain ⟨l, kl, r, ns, ts, ks, cs, rfl, hl, hk, hr2, R, hz, hTc, hTk, hTr, q⟩ := h
    have h60 := R.c60
    have hkl := hk.len
    have hl2 := R.len
    have hrl := rowI_len cs
    have nd := sc_topped_by.nd
    refine ⟨_, (pss_cons (ps_expr (pe_cal C_check_content (hr.mono (by decide)) (pa_cons (pv 0) pa_nil)))
      (pss_cons (ps_expr (pe_cal C_check_keeps (hr.mono (by decide)) (pa_cons (pv 1) pa_nil)))
      (pss_cons (ps_expr (pe_cal C_check_row (hr.mono (by decide)) (pa_cons (pv 2) (pa_cons (pe_callB call_len_seq (by rfl) B.len PySem.boot_len (pa_cons (pv 0) pa_nil)) pa_nil))))
      (pss_cons (ps_if (pt_cmpR op_ne (pe_callB call_len_seq (by rfl) B.len PySem.boot_len (pa_cons (pv 2) pa_nil)) (pe_callB call_len_seq (by rfl) B.len PySem.boot_len (pa_cons (pv 1) pa_nil)) (nomark _))
      (pss_one ps_never) pss_nil)
      (pss_one (ps_ret (pe_ix ix_list (pe_cal C_contents_by (hr.mono (by decide)) (pa_cons (pv 0) (pa_cons (pv 1) (pa_cons (pv 2) pa_nil)))) (pe_un un_neg pe_int) (fun _ _ => rfl)))))))), ?_⟩
    refine ⟨.ref l, rfl, l, ns, rfl, hl, R.con, hTc, ?_⟩
    refine ⟨.ref kl, rfl, kl, ts, ks, rfl, hk, by omega, R.kep, hTk, ?_⟩
    refine ⟨.ref r, rfl, .ref l, rfl, l, _, rfl, .inl (SqL.of hl), r, rowI cs, _, rfl, hr2, by omega, ?_, hTr, ?_⟩
    · rw [List.length_map]
      exact rowI_le R.liq
    refine ⟨.ref r, rfl, r, _, rfl, .inl (SqL.of hr2), .ref kl, rfl, kl, _, rfl, .inl (SqL.of hk.at_), rfl, _, rfl, iteNS ?_ ?_⟩
    · rw [List.length_map, List.length_map, hrl, hkl, hl2]
    refine ⟨.ref l, rfl, .ref kl, rfl, .ref r, rfl, l, kl, r, ns, ts, ks, cs, rfl, hl, hk, hr2, R, hz, fun p ps H' s RR => ?_⟩
    obtain ⟨x, ex, lx, xm⟩ := RR.last
    exact ⟨1, rfl, p, _, -1, _, rfl, rfl, SqL.of RR.at_, ex, q x H' s (RR.new x (List.mem_of_getElem? xm)) lx⟩

end
end K29
end

section
set_option linter.all false
set_option maxHeartbeats 1000000
/-! Mixtures (greater bounds): weighted sums of contents over a bottom, and that a common factor goes away. -/
namespace Ma
def mixN (cs : List (List Int)) (ws : List Int) (W : Int) (s : Nat) : Nat → Int
  | 0 => 0
  | i + 1 => mixN cs ws W s i + ws.getD i 0 * (W / (cs.getD i []).sum) * (cs.getD i []).getD s 0
def mixL (cs : List (List Int)) (ws : List Int) (W : Int) (n m : Nat) : List Int := (List.range n).map fun s => mixN cs ws W s m
def lcmZ (cs : List (List Int)) : Nat → Int
  | 0 => 1
  | i + 1 => ((Nat.lcm (lcmZ cs i).natAbs (cs.getD i []).sum.natAbs : Nat) : Int)
def prodZ (cs : List (List Int)) : Nat → Int
  | 0 => 1
  | i + 1 => prodZ cs i * (cs.getD i []).sum
def wsum (ws : List Int) : Nat → Int
  | 0 => 0
  | i + 1 => wsum ws i + ws.getD i 0
/-- contents of one length with weights -/
structure Mix (cs : List (List Int)) (ws : List Int) (n : Nat) : Prop where
  c0 : 0 < cs.length
  c8 : cs.length ≤ 8
  wl : ws.length = cs.length
  con : ∀ c ∈ cs, Con c
  len : ∀ c ∈ cs, c.length = n
  small : ∀ c ∈ cs, c.sum < 2 ^ 530
  w0 : ∀ w ∈ ws, 0 ≤ w ∧ w < 2 ^ 98
  wp : 0 < ws.sum
theorem Mix.at {cs : List (List Int)} {ws : List Int} {n : Nat} (M : Mix cs ws n) {i : Nat} (h : i < cs.length) : cs.getD i [] ∈ cs := by
  rw [List.getD_eq_getElem?_getD, List.getElem?_eq_getElem h]
  exact List.getElem_mem h
theorem Mix.wat {cs : List (List Int)} {ws : List Int} {n : Nat} (M : Mix cs ws n) {i : Nat} (h : i < cs.length) : ws.getD i 0 ∈ ws := by
  rw [List.getD_eq_getElem?_getD, List.getElem?_eq_getElem (by rw [M.wl]; exact h)]
  exact List.getElem_mem _
theorem Mix.sp {cs : List (List Int)} {ws : List Int} {n : Nat} (M : Mix cs ws n) {i : Nat} (h : i < cs.length) : 0 < (cs.getD i []).sum := (M.con _ (M.at h)).amt.pos
theorem lcm_pos {cs : List (List Int)} {ws : List Int} {n : Nat} (M : Mix cs ws n) : ∀ i, i ≤ cs.length → 0 < lcmZ cs i
  | 0, _ => by first | (show (0 : Int) < 1; decide) | (show (1 : Int) ≤ 2 ^ 0; decide)
  | i + 1, h => by
    have h1 := lcm_pos M i (by omega)
    have h2 := M.sp (i := i) (by omega)
    have := Nat.lcm_pos (m := (lcmZ cs i).natAbs) (n := (cs.getD i []).sum.natAbs) (by omega) (by omega)
    show 0 < ((Nat.lcm _ _ : Nat) : Int)
    omega
theorem prod_pos {cs : List (List Int)} {ws : List Int} {n : Nat} (M : Mix cs ws n) : ∀ i, i ≤ cs.length → 0 < prodZ cs i
  | 0, _ => by first | (show (0 : Int) < 1; decide) | (show (1 : Int) ≤ 2 ^ 0; decide)
  | i + 1, h => Int.mul_pos (prod_pos M i (by omega)) (M.sp (by omega))
theorem two_mul' {x y : Int} {a b : Nat} (hx : x ≤ 2 ^ a) (hy : y ≤ 2 ^ b) (h0 : 0 ≤ y) : x * y ≤ 2 ^ (a + b) := by
  rw [Int.pow_add]
  exact Int.mul_le_mul hx hy h0 (Int.le_of_lt (Int.pow_pos (by decide)))
theorem prod_le {cs : List (List Int)} {ws : List Int} {n : Nat} (M : Mix cs ws n) : ∀ i, i ≤ cs.length → prodZ cs i ≤ 2 ^ (530 * i)
  | 0, _ => by first | (show (0 : Int) < 1; decide) | (show (1 : Int) ≤ 2 ^ 0; decide)
  | i + 1, h => by
    have h1 := prod_le M i (by omega)
    exact two_mul' (a := 530 * i) (b := 530) h1 (Int.le_of_lt (M.small _ (M.at (by omega)))) (Int.le_of_lt (M.sp (by omega)))
theorem dvd_nat_of {a : Int} {n : Nat} (h : a.natAbs ∣ n) : a ∣ (n : Int) := Int.natAbs_dvd_natAbs.mp (by rw [Int.natAbs_natCast]; exact h)
theorem nat_dvd_of {n : Nat} {a : Int} (h : n ∣ a.natAbs) : (n : Int) ∣ a := Int.natAbs_dvd_natAbs.mp (by rw [Int.natAbs_natCast]; exact h)
theorem dvd_lcm {cs : List (List Int)} : ∀ (i k : Nat), k < i → (cs.getD k []).sum ∣ lcmZ cs i
  | 0, _, h => by omega
  | i + 1, k, h => by
    show _ ∣ ((Nat.lcm _ _ : Nat) : Int)
    by_cases e : k = i
    · subst e
      exact dvd_nat_of (Nat.dvd_lcm_right _ _)
    · have h1 := dvd_lcm (cs := cs) i k (by omega)
      exact Int.dvd_trans h1 (dvd_nat_of (Nat.dvd_lcm_left _ _))
theorem lcm_dvd {cs : List (List Int)} : ∀ i, lcmZ cs i ∣ prodZ cs i
  | 0 => Int.dvd_refl _
  | i + 1 => by
    have h1 := lcm_dvd (cs := cs) i
    show ((Nat.lcm _ _ : Nat) : Int) ∣ prodZ cs i * _
    refine nat_dvd_of (Nat.lcm_dvd ?_ ?_)
    · exact Int.natAbs_dvd_natAbs.mpr (Int.dvd_trans h1 (Int.dvd_mul_right _ _))
    · exact Int.natAbs_dvd_natAbs.mpr (Int.dvd_mul_left _ _)
theorem lcm_le {cs : List (List Int)} {ws : List Int} {n : Nat} (M : Mix cs ws n) (i : Nat) (h : i ≤ cs.length) : lcmZ cs i ≤ 2 ^ (530 * i) :=
  Int.le_trans (Int.le_of_dvd (prod_pos M i h) (lcm_dvd i)) (prod_le M i h)
/-! sums -/
def sumN (f : Nat → Int) : Nat → Int
  | 0 => 0
  | n + 1 => sumN f n + f n
theorem sum_range (f : Nat → Int) : ∀ n, ((List.range n).map f).sum = sumN f n
  | 0 => rfl
  | n + 1 => by
    rw [List.range_succ, List.map_append, List.sum_append, sum_range f n]
    show _ + (f n + 0) = _
    rw [Int.add_zero]
    rfl
theorem sumN_add (f g : Nat → Int) (a : Int) : ∀ n, sumN (fun s => f s + a * g s) n = sumN f n + a * sumN g n
  | 0 => by simp [sumN]
  | n + 1 => by
    show sumN _ n + (f n + a * g n) = (sumN f n + f n) + a * (sumN g n + g n)
    rw [sumN_add f g a n, Int.mul_add]
    omega
theorem sumN_take (c : List Int) : ∀ i, i ≤ c.length → sumN (fun s => c.getD s 0) i = (c.take i).sum
  | 0, _ => by rw [List.take_zero]; rfl
  | i + 1, h => by
    show sumN _ i + c.getD i 0 = _
    rw [sumN_take c i (by omega), List.take_add_one, List.getElem?_eq_getElem (by omega), List.sum_append, List.getD_eq_getElem?_getD, List.getElem?_eq_getElem (by omega)]
    show _ + c[i] = _ + (c[i] + 0)
    rw [Int.add_zero]
theorem sumN_list (c : List Int) : sumN (fun s => c.getD s 0) c.length = c.sum := by rw [sumN_take c _ (Nat.le_refl _), List.take_length]
theorem mix_sum {cs : List (List Int)} {ws : List Int} {n : Nat} (M : Mix cs ws n) {W : Int} : ∀ m, m ≤ cs.length → (∀ k, k < m → (cs.getD k []).sum ∣ W) → (mixL cs ws W n m).sum = W * wsum ws m
  | 0, _, _ => by
    unfold mixL
    rw [sum_range]
    have : ∀ n, sumN (fun s => mixN cs ws W s 0) n = 0 := fun n => by
      induction n with
      | zero => rfl
      | succ n ih => show _ + 0 = _; rw [ih]; rfl
    rw [this]
    show 0 = W * 0
    rw [Int.mul_zero]
  | m + 1, h, hd => by
    have ih := mix_sum M m (by omega) fun k hk => hd k (by omega)
    unfold mixL at ih ⊢
    rw [sum_range] at ih ⊢
    show sumN (fun s => mixN cs ws W s m + ws.getD m 0 * (W / (cs.getD m []).sum) * (cs.getD m []).getD s 0) n = _
    rw [sumN_add, ih]
    have hl := M.len _ (M.at (i := m) (by omega))
    rw [← hl, sumN_list, Int.mul_assoc, Int.ediv_mul_cancel (hd m (by omega))]
    show _ = W * (wsum ws m + ws.getD m 0)
    rw [Int.mul_add, Int.mul_comm (ws.getD m 0)]
theorem wsum_take (ws : List Int) : ∀ i, i ≤ ws.length → wsum ws i = (ws.take i).sum
  | 0, _ => by rw [List.take_zero]; rfl
  | i + 1, h => by
    show wsum ws i + ws.getD i 0 = _
    rw [wsum_take ws i (by omega), List.take_add_one, List.getElem?_eq_getElem (by omega), List.sum_append, List.getD_eq_getElem?_getD, List.getElem?_eq_getElem (by omega)]
    show _ + ws[i] = _ + (ws[i] + 0)
    rw [Int.add_zero]
theorem Mix.ws {cs : List (List Int)} {ws : List Int} {n : Nat} (M : Mix cs ws n) : wsum ws cs.length = ws.sum := by
  rw [wsum_take ws _ (by rw [M.wl]; exact Nat.le_refl _), ← M.wl, List.take_length]
theorem mix_nn {cs : List (List Int)} {ws : List Int} {n : Nat} (M : Mix cs ws n) {W : Int} (hW : 0 ≤ W) (s : Nat) : ∀ m, m ≤ cs.length → 0 ≤ mixN cs ws W s m
  | 0, _ => Int.le_refl _
  | m + 1, h => by
    have h1 := mix_nn M hW s m (by omega)
    have h2 := (M.w0 _ (M.wat (i := m) (by omega))).1
    have h3 : 0 ≤ W / (cs.getD m []).sum := Int.ediv_nonneg hW (Int.le_of_lt (M.sp (by omega)))
    have h4 : 0 ≤ (cs.getD m []).getD s 0 := by
      rw [List.getD_eq_getElem?_getD]
      cases e : (cs.getD m [])[s]? with
      | none => exact Int.le_refl _
      | some x => exact (M.con _ (M.at (i := m) (by omega))).nn x (List.mem_of_getElem? e)
    have h5 := Int.mul_nonneg (Int.mul_nonneg h2 h3) h4
    show 0 ≤ _ + _
    omega
theorem mix_len (cs : List (List Int)) (ws : List Int) (W : Int) (n m : Nat) : (mixL cs ws W n m).length = n := by unfold mixL; rw [List.length_map, List.length_range]
theorem mix_amt {cs : List (List Int)} {ws : List Int} {n : Nat} (M : Mix cs ws n) {W : Int} (hW : 0 < W) (hd : ∀ k, k < cs.length → (cs.getD k []).sum ∣ W) : Amt (mixL cs ws W n cs.length) := by
  refine ⟨fun x hx => ?_, ?_⟩
  · obtain ⟨s, _, e⟩ := List.mem_map.mp hx
    rw [← e]
    exact mix_nn M (Int.le_of_lt hW) s _ (Nat.le_refl _)
  · rw [mix_sum M _ (Nat.le_refl _) hd, M.ws]
    exact Int.mul_pos hW M.wp
theorem mix_scale {cs : List (List Int)} {ws : List Int} {n : Nat} (M : Mix cs ws n) {W t : Int} (s : Nat) : ∀ m, m ≤ cs.length → (∀ k, k < m → (cs.getD k []).sum ∣ W) → mixN cs ws (W * t) s m = t * mixN cs ws W s m
  | 0, _, _ => by show 0 = t * 0; rw [Int.mul_zero]
  | m + 1, h, hd => by
    have ih := mix_scale M (t := t) s m (by omega) fun k hk => hd k (by omega)
    obtain ⟨q, hq⟩ := hd m (by omega)
    have hs := M.sp (i := m) (by omega)
    show mixN cs ws (W * t) s m + _ * (W * t / _) * _ = t * (mixN cs ws W s m + _ * (W / _) * _)
    have e1 : W * t / (cs.getD m []).sum = q * t := by rw [hq, Int.mul_assoc, Int.mul_ediv_cancel_left _ (by omega)]
    have e2 : W / (cs.getD m []).sum = q := by rw [hq, Int.mul_ediv_cancel_left _ (by omega)]
    rw [ih, e1, e2, Int.mul_add]
    congr 1
    rw [← Int.mul_assoc, Int.mul_right_comm _ t, Int.mul_comm t]
theorem gcdF_scale (t : Nat) : ∀ (ns : List Int) (d : Nat), gcdF (t * d) (ns.map fun n => (t : Int) * n) = t * gcdF d ns
  | [], d => rfl
  | n :: r, d => by
    show gcdF (Nat.gcd (t * d) ((t : Int) * n).natAbs) _ = t * gcdF (Nat.gcd d n.natAbs) r
    rw [Int.natAbs_mul, Int.natAbs_natCast, Nat.gcd_mul_left, gcdF_scale t r]
theorem plain_scale {ns : List Int} {t : Int} (ht : 0 < t) (hg : 0 < gcdN ns) : plain (ns.map fun n => t * n) = plain ns := by
  obtain ⟨k, rfl⟩ := Int.eq_ofNat_of_zero_le (Int.le_of_lt ht)
  unfold plain
  have e : gcdN (ns.map fun n => (k : Int) * n) = k * gcdN ns := by
    have := gcdF_scale k ns 0
    rw [Nat.mul_zero] at this
    exact this
  rw [e, List.map_map]
  refine List.map_congr_left fun n _ => ?_
  show (k : Int) * n / ((k * gcdN ns : Nat) : Int) = _
  rw [Int.natCast_mul, Int.mul_ediv_mul_of_pos _ _ ht]
/-- over the product or over the least common multiple: the same content -/
theorem mix_same {cs : List (List Int)} {ws : List Int} {n : Nat} (M : Mix cs ws n) : plain (mixL cs ws (prodZ cs cs.length) n cs.length) = plain (mixL cs ws (lcmZ cs cs.length) n cs.length) := by
  obtain ⟨t, ht⟩ := lcm_dvd (cs := cs) cs.length
  have h1 := lcm_pos M cs.length (Nat.le_refl _)
  have h2 := prod_pos M cs.length (Nat.le_refl _)
  have h3 : 0 < t := by
    rcases Int.lt_or_le 0 t with h | h
    · exact h
    · have := Int.mul_nonpos_of_nonneg_of_nonpos (Int.le_of_lt h1) h
      omega
  have e : mixL cs ws (prodZ cs cs.length) n cs.length = (mixL cs ws (lcmZ cs cs.length) n cs.length).map fun x => t * x := by
    unfold mixL
    rw [List.map_map]
    refine List.map_congr_left fun s _ => ?_
    rw [ht]
    exact mix_scale M s _ (Nat.le_refl _) fun k hk => dvd_lcm _ k hk
  rw [e]
  exact plain_scale h3 (gcdN_pos (mix_amt M h1 fun k hk => dvd_lcm _ k hk))
/-- one content alone -/
theorem mix_one {c : List Int} {x : Int} (M : Mix [c] [x] c.length) : plain (mixL [c] [x] (lcmZ [c] 1) c.length 1) = c := by
  have hc : Con c := M.con c List.mem_cons_self
  have hs := hc.amt.pos
  have hx : 0 < x := by
    have := M.wp
    simpa using this
  have e1 : lcmZ [c] 1 = c.sum := by
    show ((Nat.lcm 1 c.sum.natAbs : Nat) : Int) = _
    rw [Nat.lcm_one_left]
    omega
  have e : mixL [c] [x] (lcmZ [c] 1) c.length 1 = c.map fun n => x * n := by
    rw [e1]
    unfold mixL
    refine List.ext_getElem (by simp) fun i h1 h2 => ?_
    simp only [List.getElem_map, List.getElem_range]
    show 0 + x * (c.sum / c.sum) * c.getD i 0 = _
    rw [Int.ediv_self (by omega), Int.mul_one, Int.zero_add, List.getD_eq_getElem?_getD, List.getElem?_eq_getElem (by simpa using h2)]
    rfl
  rw [e, plain_scale hx (gcdN_pos hc.amt), plain_of_one hc.g]
end Ma
end

section
set_option linter.all false
set_option maxHeartbeats 1000000
/-! Topping up a mixture: the mixture of what is topped up; strengths of mixtures; gaps. -/
namespace Ma
/-- two amounts that are multiples of each other are the same content -/
theorem plain_prop {xs ys : List Int} {p q : Int} (hx : Amt xs) (hy : Amt ys) (hp : 0 < p) (hq : 0 < q) (h : (xs.map fun n => p * n) = ys.map fun n => q * n) : plain xs = plain ys := by
  rw [← plain_scale hp (gcdN_pos hx), h, plain_scale hq (gcdN_pos hy)]
theorem plain_back {xs : List Int} (h : Amt xs) : (plain xs).map (fun n => ((gcdN xs : Nat) : Int) * n) = xs := by
  unfold plain
  rw [List.map_map]
  have : ∀ n ∈ xs, ((fun n => ((gcdN xs : Nat) : Int) * n) ∘ fun n => n / ((gcdN xs : Nat) : Int)) n = n := fun n hn => by
    show ((gcdN xs : Nat) : Int) * (n / ((gcdN xs : Nat) : Int)) = n
    rw [Int.mul_comm, plain_mul hn]
  rw [List.map_congr_left this, List.map_id']
/-- one cell of what is poured upon -/
theorem pre_at {ns : List Int} {a b : Int} {c s : Nat} (hs : s < ns.length) : (pre ns a b c).getD s 0 = ns.getD s 0 * a + if s = c then (b - a) * ns.sum else 0 := by
  unfold pre
  rw [List.getD_eq_getElem?_getD, List.getElem?_set]
  by_cases h : c = s
  · subst h
    rw [if_pos rfl, if_pos rfl, if_pos (by rw [List.length_map]; exact hs)]
    rfl
  · rw [if_neg h, if_neg (fun z => h z.symm), List.getElem?_map, List.getD_eq_getElem?_getD, List.getElem?_eq_getElem hs]
    show ns[s] * a = ns[s] * a + 0
    rw [Int.add_zero]
theorem getD_map_mul {ns : List Int} (t : Int) {s : Nat} (hs : s < ns.length) : (ns.map fun n => t * n).getD s 0 = t * ns.getD s 0 := by
  rw [List.getD_eq_getElem?_getD, List.getD_eq_getElem?_getD, List.getElem?_map, List.getElem?_eq_getElem hs]
  rfl
theorem list_ext {xs ys : List Int} (h : xs.length = ys.length) (e : ∀ s, s < xs.length → xs.getD s 0 = ys.getD s 0) : xs = ys := by
  refine List.ext_getElem h fun s h1 h2 => ?_
  have := e s h1
  rw [List.getD_eq_getElem?_getD, List.getD_eq_getElem?_getD, List.getElem?_eq_getElem h1, List.getElem?_eq_getElem h2] at this
  exact this
/-- one step of plain amounts: as of the amounts themselves -/
theorem step_plain {xs : List Int} {a b : Int} {c : Nat} (h : Amt xs) (h1 : 0 < xs.length) (h8 : xs.length ≤ 8) (k : Kep a b) (hc : c < xs.length) (hpa : Amt (pre xs a b c)) : step (plain xs) a b c = plain (pre xs a b c) := by
  have hg := gcdN_pos h
  have cp := plain_con h h1 h8
  unfold step
  refine plain_prop (p := ((gcdN xs : Nat) : Int)) (q := 1) (pre_amt cp k (by rw [plain_len]; exact hc)) hpa (by omega) (by decide) ?_
  refine list_ext (by rw [List.length_map, List.length_map, pre_len, pre_len, plain_len]) fun s hs => ?_
  rw [List.length_map, pre_len, plain_len] at hs
  rw [getD_map_mul _ (by rw [pre_len, plain_len]; exact hs), getD_map_mul _ (by rw [pre_len]; exact hs), pre_at (by rw [plain_len]; exact hs), pre_at hs, Int.one_mul]
  have e1 : ((gcdN xs : Nat) : Int) * (plain xs).getD s 0 = xs.getD s 0 := by
    rw [← getD_map_mul _ (by rw [plain_len]; exact hs), plain_back h]
  have e2 : ((gcdN xs : Nat) : Int) * (plain xs).sum = xs.sum := by rw [Int.mul_comm, plain_sum h]
  rw [Int.mul_add, ← Int.mul_assoc, e1]
  congr 1
  split
  · rw [Int.mul_left_comm, e2]
  · rw [Int.mul_zero]
/-- one summand, topped up or not: u' = W' / σ', v = W / σ with g σ' = b σ and g c' = T c -/
theorem part_eq {W W' σ σ' b g x x' w : Int} (hd : σ ∣ W) (hd' : σ' ∣ W') (e1 : g * σ' = b * σ) (e2 : g * x' = x) (hg : 0 < g) (hs : 0 < σ) (hs' : 0 < σ') : b * W * (w * (W' / σ') * x') = W' * (w * (W / σ) * x) := by
  obtain ⟨v, rfl⟩ := hd
  obtain ⟨u, rfl⟩ := hd'
  rw [Int.mul_ediv_cancel_left _ (by omega), Int.mul_ediv_cancel_left _ (by omega), ← e2]
  have : b * (σ * v) * (w * u * x') = (b * σ) * (v * w * u * x') := by
    simp only [Int.mul_comm, Int.mul_left_comm, Int.mul_assoc]
  rw [this, ← e1]
  simp only [Int.mul_comm, Int.mul_left_comm, Int.mul_assoc]
theorem mix_step_cell {cs : List (List Int)} {ws : List Int} {n : Nat} {a b W W' : Int} {c s : Nat} (M : Mix cs ws n) (k : Kep a b) (hc : c < n) (hs : s < n) (hW : ∀ i, i < cs.length → (cs.getD i []).sum ∣ W) (hW' : ∀ i, i < cs.length → (step (cs.getD i []) a b c).sum ∣ W') :
    ∀ m, m ≤ cs.length → b * W * mixN (cs.map fun x => step x a b c) ws W' s m = W' * (mixN cs ws W s m * a + if s = c then (b - a) * (W * wsum ws m) else 0)
  | 0, _ => by
    show b * W * 0 = W' * (0 * a + if s = c then (b - a) * (W * 0) else 0)
    simp
  | m + 1, h => by
    have ih := mix_step_cell (W := W) (W' := W') M k hc hs hW hW' m (by omega)
    have hm : m < cs.length := h
    have hcon := M.con _ (M.at hm)
    have hl := M.len _ (M.at hm)
    have hsp := M.sp hm
    have e0 : (cs.map fun x => step x a b c).getD m [] = step (cs.getD m []) a b c := by
      rw [List.getD_eq_getElem?_getD, List.getD_eq_getElem?_getD, List.getElem?_map, List.getElem?_eq_getElem hm]
      rfl
    have hcl : c < (cs.getD m []).length := by rw [hl]; exact hc
    have ha := pre_amt hcon k hcl
    have hg := gcdN_pos ha
    have e1 : ((gcdN (pre (cs.getD m []) a b c) : Nat) : Int) * (step (cs.getD m []) a b c).sum = b * (cs.getD m []).sum := by
      unfold step
      rw [Int.mul_comm, plain_sum ha, pre_sum hcl]
    have e2 : ((gcdN (pre (cs.getD m []) a b c) : Nat) : Int) * (step (cs.getD m []) a b c).getD s 0 = (cs.getD m []).getD s 0 * a + if s = c then (b - a) * (cs.getD m []).sum else 0 := by
      unfold step
      rw [← getD_map_mul _ (by rw [plain_len, pre_len, hl]; exact hs), plain_back ha, pre_at (by rw [hl]; exact hs)]
    have hsp' : 0 < (step (cs.getD m []) a b c).sum := (step_con hcon k hcl).amt.pos
    have p := part_eq (w := ws.getD m 0) (hW m hm) (hW' m hm) e1 e2 (by omega) hsp hsp'
    show b * W * (mixN _ ws W' s m + ws.getD m 0 * (W' / ((cs.map fun x => step x a b c).getD m []).sum) * ((cs.map fun x => step x a b c).getD m []).getD s 0) = W' * ((mixN cs ws W s m + ws.getD m 0 * (W / (cs.getD m []).sum) * (cs.getD m []).getD s 0) * a + if s = c then (b - a) * (W * (wsum ws m + ws.getD m 0)) else 0)
    rw [e0, Int.mul_add, ih, p]
    have q : W / (cs.getD m []).sum * (cs.getD m []).sum = W := Int.ediv_mul_cancel (hW m hm)
    generalize W / (cs.getD m []).sum = v at *
    generalize (cs.getD m []).sum = σ at *
    generalize (cs.getD m []).getD s 0 = x at *
    generalize mixN cs ws W s m = y at *
    generalize ws.getD m 0 = w at *
    rw [← Int.mul_add]
    congr 1
    split
    · have e : (b - a) * (W * (wsum ws m + w)) = (b - a) * (W * wsum ws m) + w * v * ((b - a) * σ) := by
        rw [Int.mul_add, Int.mul_add]
        congr 1
        rw [← q]
        simp only [Int.mul_comm, Int.mul_left_comm, Int.mul_assoc]
      rw [e, Int.add_mul, Int.mul_add, Int.mul_assoc (w * v) x a]
      omega
    · rw [Int.add_mul, Int.mul_add, Int.mul_assoc (w * v) x a]
      omega
/-- topping up a mixture is mixing what is topped up -/
theorem step_mix {cs : List (List Int)} {ws : List Int} {n : Nat} {a b W W' : Int} {c : Nat} (M : Mix cs ws n) (M' : Mix (cs.map fun x => step x a b c) ws n) (k : Kep a b) (hc : c < n) (h8 : n ≤ 8) (hW0 : 0 < W) (hW0' : 0 < W')
    (hW : ∀ i, i < cs.length → (cs.getD i []).sum ∣ W) (hW' : ∀ i, i < cs.length → (step (cs.getD i []) a b c).sum ∣ W') :
    step (plain (mixL cs ws W n cs.length)) a b c = plain (mixL (cs.map fun x => step x a b c) ws W' n cs.length) := by
  have k1 := k.a1
  have k2 := k.ab
  have A := mix_amt M hW0 hW
  have hlen := mix_len cs ws W n cs.length
  have hp : Amt (pre (mixL cs ws W n cs.length) a b c) := by
    refine ⟨pre_nn A.nn (by omega) (by omega), ?_⟩
    rw [pre_sum (by rw [hlen]; exact hc)]
    exact Int.mul_pos (by omega) A.pos
  have e0 : ∀ i, i < cs.length → (cs.map fun x => step x a b c).getD i [] = step (cs.getD i []) a b c := fun i hi => by
    rw [List.getD_eq_getElem?_getD, List.getD_eq_getElem?_getD, List.getElem?_map, List.getElem?_eq_getElem hi]
    rfl
  have A' := mix_amt M' hW0' (fun i hi => by rw [List.length_map] at hi; rw [e0 i hi]; exact hW' i hi)
  rw [List.length_map] at A'
  rw [step_plain A (by rw [hlen]; omega) (by rw [hlen]; exact h8) k (by rw [hlen]; exact hc) hp]
  refine plain_prop (p := W') (q := b * W) hp A' hW0' (Int.mul_pos (by omega) hW0) ?_
  refine list_ext (by rw [List.length_map, List.length_map, pre_len, hlen, mix_len]) fun s hs => ?_
  rw [List.length_map, pre_len, hlen] at hs
  have cell : ∀ (cs : List (List Int)) (W : Int) (m : Nat), (mixL cs ws W n m).getD s 0 = mixN cs ws W s m := fun cs W m => by
    unfold mixL
    rw [List.getD_eq_getElem?_getD, List.getElem?_map, List.getElem?_range hs]
    rfl
  rw [getD_map_mul _ (by rw [pre_len, hlen]; exact hs), getD_map_mul _ (by rw [mix_len]; exact hs), pre_at (by rw [hlen]; exact hs), cell, cell, mix_sum M _ (Nat.le_refl _) hW]
  exact (mix_step_cell M k hc hs hW hW' cs.length (Nat.le_refl _)).symm
/-! fractions -/
def frM (a b : Int) : Int × Int := (a / ((Nat.gcd a.natAbs b.natAbs : Nat) : Int), b / ((Nat.gcd a.natAbs b.natAbs : Nat) : Int))
theorem gcdN_two (a b : Int) : gcdN [a, b] = Nat.gcd a.natAbs b.natAbs := by
  show Nat.gcd (Nat.gcd 0 a.natAbs) b.natAbs = _
  rw [Nat.gcd_zero_left]
theorem frM_plain (a b : Int) : plain [a, b] = [(frM a b).1, (frM a b).2] := by
  unfold plain frM
  rw [gcdN_two]
  rfl
theorem frM_eq {t m t' m' : Int} (h : 0 < m) (h' : 0 < m') (e : t * m' = t' * m) : frM t m = frM t' m' := by
  have g1 : 0 < gcdN [t, m] := by rw [gcdN_two]; exact Nat.gcd_pos_of_pos_right _ (by omega)
  have g2 : 0 < gcdN [t', m'] := by rw [gcdN_two]; exact Nat.gcd_pos_of_pos_right _ (by omega)
  have p1 := plain_scale h' g1
  have p2 := plain_scale h g2
  have e3 : [t, m].map (fun n => m' * n) = [t', m'].map fun n => m * n := by
    show [m' * t, m' * m] = [m * t', m * m']
    rw [Int.mul_comm m' t, e, Int.mul_comm t' m, Int.mul_comm m' m]
  rw [e3, p2, frM_plain, frM_plain] at p1
  injection p1 with q1 q2
  injection q2 with q2 _
  exact (Prod.ext q1 q2).symm
theorem frM_cross (t : Int) {m : Int} (h : 0 < m) : 0 < (frM t m).2 ∧ (frM t m).1 * m = t * (frM t m).2 := by
  have hg : 0 < Nat.gcd t.natAbs m.natAbs := Nat.gcd_pos_of_pos_right _ (by omega)
  have d1 : ((Nat.gcd t.natAbs m.natAbs : Nat) : Int) ∣ t := Int.natAbs_dvd_natAbs.mp (by rw [Int.natAbs_natCast]; exact Nat.gcd_dvd_left _ _)
  have d2 : ((Nat.gcd t.natAbs m.natAbs : Nat) : Int) ∣ m := Int.natAbs_dvd_natAbs.mp (by rw [Int.natAbs_natCast]; exact Nat.gcd_dvd_right _ _)
  have hgp : (0 : Int) < ((Nat.gcd t.natAbs m.natAbs : Nat) : Int) := by omega
  unfold frM
  generalize ((Nat.gcd t.natAbs m.natAbs : Nat) : Int) = g at *
  obtain ⟨x, rfl⟩ := d1
  obtain ⟨y, rfl⟩ := d2
  have g0 : g ≠ 0 := by omega
  show 0 < g * y / g ∧ g * x / g * (g * y) = g * x * (g * y / g)
  rw [Int.mul_ediv_cancel_left _ g0, Int.mul_ediv_cancel_left _ g0]
  refine ⟨?_, by simp only [Int.mul_comm, Int.mul_left_comm, Int.mul_assoc]⟩
  rcases Int.lt_or_le 0 y with z | z
  · exact z
  · have := Int.mul_nonpos_of_nonneg_of_nonpos (Int.le_of_lt hgp) z
    omega
/-! strengths -/
def dotM (x ss : List Int) : Int := sumN (fun s => x.getD s 0 * ss.getD s 0) x.length
theorem sumN_congr {f g : Nat → Int} : ∀ n, (∀ s, s < n → f s = g s) → sumN f n = sumN g n
  | 0, _ => rfl
  | n + 1, h => by
    show sumN f n + f n = sumN g n + g n
    rw [sumN_congr n fun s hs => h s (by omega), h n (by omega)]
theorem sumN_zero : ∀ n, sumN (fun _ => 0) n = 0
  | 0 => rfl
  | n + 1 => by show sumN _ n + 0 = 0; rw [sumN_zero n]; rfl
theorem sumN_mul (a : Int) (f : Nat → Int) (n : Nat) : sumN (fun s => a * f s) n = a * sumN f n := by
  have := sumN_add (fun _ => 0) f a n
  rw [sumN_zero, Int.zero_add] at this
  rw [← this]
  exact sumN_congr n fun s _ => (Int.zero_add _).symm
theorem dot_plain {xs ss : List Int} (h : Amt xs) : ((gcdN xs : Nat) : Int) * dotM (plain xs) ss = dotM xs ss := by
  unfold dotM
  rw [plain_len, ← sumN_mul]
  refine sumN_congr _ fun s hs => ?_
  have e := getD_map_mul (ns := plain xs) ((gcdN xs : Nat) : Int) (s := s) (by rw [plain_len]; exact hs)
  rw [plain_back h] at e
  rw [← Int.mul_assoc, ← e]
def mixD (cs : List (List Int)) (ws : List Int) (W : Int) (ss : List Int) : Nat → Int
  | 0 => 0
  | i + 1 => mixD cs ws W ss i + ws.getD i 0 * (W / (cs.getD i []).sum) * dotM (cs.getD i []) ss
theorem mix_dot {cs : List (List Int)} {ws : List Int} {n : Nat} (M : Mix cs ws n) {W : Int} (ss : List Int) : ∀ m, m ≤ cs.length → sumN (fun s => mixN cs ws W s m * ss.getD s 0) n = mixD cs ws W ss m
  | 0, _ => by
    show sumN (fun s => 0 * ss.getD s 0) n = 0
    refine Eq.trans (sumN_congr n fun s _ => ?_) (sumN_zero n)
    exact Int.zero_mul _
  | m + 1, h => by
    have ih := mix_dot M (W := W) ss m (by omega)
    have hl := M.len _ (M.at (i := m) (by omega))
    show _ = mixD cs ws W ss m + ws.getD m 0 * (W / (cs.getD m []).sum) * dotM (cs.getD m []) ss
    rw [← ih]
    unfold dotM
    rw [hl, ← sumN_add]
    refine sumN_congr n fun s _ => ?_
    show (mixN cs ws W s m + ws.getD m 0 * (W / (cs.getD m []).sum) * (cs.getD m []).getD s 0) * ss.getD s 0 = _
    rw [Int.add_mul, Int.mul_assoc (ws.getD m 0 * (W / (cs.getD m []).sum))]
theorem mix_dotL {cs : List (List Int)} {ws : List Int} {n : Nat} (M : Mix cs ws n) {W : Int} (ss : List Int) : dotM (mixL cs ws W n cs.length) ss = mixD cs ws W ss cs.length := by
  rw [← mix_dot M ss cs.length (Nat.le_refl _)]
  unfold dotM
  rw [mix_len]
  refine sumN_congr n fun s hs => ?_
  unfold mixL
  rw [List.getD_eq_getElem?_getD, List.getElem?_map, List.getElem?_range hs]
  rfl
/-- top and bottom, as they are added up -/
def tb (cs : List (List Int)) (ws ss : List Int) : Nat → Int × Int
  | 0 => (0, 1)
  | i + 1 => ((tb cs ws ss i).1 * (frM (dotM (cs.getD i []) ss) (cs.getD i []).sum).2 + (frM (dotM (cs.getD i []) ss) (cs.getD i []).sum).1 * ws.getD i 0 * (tb cs ws ss i).2, (tb cs ws ss i).2 * (frM (dotM (cs.getD i []) ss) (cs.getD i []).sum).2)
theorem tb_inv {cs : List (List Int)} {ws : List Int} {n : Nat} (M : Mix cs ws n) {W : Int} (ss : List Int) (hW : ∀ i, i < cs.length → (cs.getD i []).sum ∣ W) : ∀ m, m ≤ cs.length → 0 < (tb cs ws ss m).2 ∧ (tb cs ws ss m).1 * W = (tb cs ws ss m).2 * mixD cs ws W ss m
  | 0, _ => by
    show (0 : Int) < 1 ∧ (0 : Int) * W = 1 * 0
    rw [Int.zero_mul]
    exact ⟨by decide, rfl⟩
  | m + 1, h => by
    obtain ⟨i1, i2⟩ := tb_inv M ss hW m (by omega)
    have hsp := M.sp (i := m) (by omega)
    obtain ⟨c1, c2⟩ := frM_cross (dotM (cs.getD m []) ss) hsp
    have q : W / (cs.getD m []).sum * (cs.getD m []).sum = W := Int.ediv_mul_cancel (hW m (by omega))
    show 0 < (tb cs ws ss m).2 * (frM (dotM (cs.getD m []) ss) (cs.getD m []).sum).2 ∧ ((tb cs ws ss m).1 * (frM (dotM (cs.getD m []) ss) (cs.getD m []).sum).2 + (frM (dotM (cs.getD m []) ss) (cs.getD m []).sum).1 * ws.getD m 0 * (tb cs ws ss m).2) * W = (tb cs ws ss m).2 * (frM (dotM (cs.getD m []) ss) (cs.getD m []).sum).2 * (mixD cs ws W ss m + ws.getD m 0 * (W / (cs.getD m []).sum) * dotM (cs.getD m []) ss)
    refine ⟨Int.mul_pos i1 c1, ?_⟩
    generalize (frM (dotM (cs.getD m []) ss) (cs.getD m []).sum).2 = y at *
    generalize (frM (dotM (cs.getD m []) ss) (cs.getD m []).sum).1 = x at *
    generalize W / (cs.getD m []).sum = v at *
    generalize (cs.getD m []).sum = σ at *
    generalize dotM (cs.getD m []) ss = d at *
    generalize (tb cs ws ss m).1 = t at *
    generalize (tb cs ws ss m).2 = b at *
    generalize mixD cs ws W ss m = D at *
    generalize ws.getD m 0 = w at *
    rw [Int.add_mul, Int.mul_add]
    have e1 : t * y * W = b * y * D := by
      rw [Int.mul_right_comm, i2]
      simp only [Int.mul_comm, Int.mul_left_comm, Int.mul_assoc]
    have e2 : x * w * b * W = b * y * (w * v * d) := by
      have : x * w * b * W = x * σ * (w * b * v) := by
        rw [← q]
        simp only [Int.mul_comm, Int.mul_left_comm, Int.mul_assoc]
      rw [this, c2]
      simp only [Int.mul_comm, Int.mul_left_comm, Int.mul_assoc]
    rw [e1, e2]
/-- the strength of a mixture -/
theorem strength_mix {cs : List (List Int)} {ws : List Int} {n : Nat} (M : Mix cs ws n) {W : Int} (hW0 : 0 < W) (ss : List Int) (hW : ∀ i, i < cs.length → (cs.getD i []).sum ∣ W) (hcon : Con (plain (mixL cs ws W n cs.length))) :
    frM (dotM (plain (mixL cs ws W n cs.length)) ss) (plain (mixL cs ws W n cs.length)).sum = frM (tb cs ws ss cs.length).1 ((tb cs ws ss cs.length).2 * ws.sum) := by
  obtain ⟨b0, i2⟩ := tb_inv M ss hW cs.length (Nat.le_refl _)
  have A := mix_amt M hW0 hW
  have hg := gcdN_pos A
  have e1 := dot_plain (ss := ss) A
  rw [mix_dotL M ss] at e1
  have e2 : (plain (mixL cs ws W n cs.length)).sum * ((gcdN (mixL cs ws W n cs.length) : Nat) : Int) = W * ws.sum := by rw [plain_sum A, mix_sum M _ (Nat.le_refl _) hW, M.ws]
  have hwp := M.wp
  refine frM_eq hcon.amt.pos (Int.mul_pos b0 hwp) ?_
  generalize (plain (mixL cs ws W n cs.length)).sum = S at *
  generalize dotM (plain (mixL cs ws W n cs.length)) ss = A1 at *
  have hG : (0 : Int) < ((gcdN (mixL cs ws W n cs.length) : Nat) : Int) := by omega
  generalize ((gcdN (mixL cs ws W n cs.length) : Nat) : Int) = G at *
  generalize (tb cs ws ss cs.length).1 = t at *
  generalize (tb cs ws ss cs.length).2 = b at *
  generalize mixD cs ws W ss cs.length = D at *
  generalize ws.sum = w at *
  have hGW : G * W ≠ 0 := Int.ne_of_gt (Int.mul_pos hG hW0)
  refine Int.eq_of_mul_eq_mul_left hGW ?_
  have l : G * W * (A1 * (b * w)) = G * A1 * (W * b * w) := by simp only [Int.mul_comm, Int.mul_left_comm, Int.mul_assoc]
  have r : G * W * (t * S) = S * G * (t * W) := by simp only [Int.mul_comm, Int.mul_left_comm, Int.mul_assoc]
  rw [l, r, e1, e2, i2]
  simp only [Int.mul_comm, Int.mul_left_comm, Int.mul_assoc]
/-- a content mixed with itself -/
theorem mix_self {c : List Int} {n : Nat} {x y W : Int} (M : Mix [c, c] [x, y] n) (hW : 0 < W) (hd : c.sum ∣ W) : plain (mixL [c, c] [x, y] W n 2) = c := by
  have hc : Con c := M.con c List.mem_cons_self
  have hl : c.length = n := M.len c List.mem_cons_self
  have hs := hc.amt.pos
  have hxy : 0 < x + y := by
    have := M.wp
    simpa using this
  have A : Amt (mixL [c, c] [x, y] W n 2) := mix_amt M hW (fun k hk => by
    match k, hk with
    | 0, _ => exact hd
    | 1, _ => exact hd)
  have hv : 0 < W / c.sum := by
    obtain ⟨v, rfl⟩ := hd
    rw [Int.mul_ediv_cancel_left _ (by omega)]
    rcases Int.lt_or_le 0 v with z | z
    · exact z
    · have := Int.mul_nonpos_of_nonneg_of_nonpos (Int.le_of_lt hs) z
      omega
  have e := plain_prop (xs := mixL [c, c] [x, y] W n 2) (ys := c) (p := 1) (q := (x + y) * (W / c.sum)) A hc.amt (by decide) (Int.mul_pos hxy hv) (by
    refine list_ext (by rw [List.length_map, List.length_map, mix_len, hl]) fun s hs => ?_
    rw [List.length_map, mix_len] at hs
    rw [getD_map_mul _ (by rw [mix_len]; exact hs), getD_map_mul _ (by rw [hl]; exact hs), Int.one_mul]
    unfold mixL
    rw [List.getD_eq_getElem?_getD, List.getElem?_map, List.getElem?_range hs]
    show 0 + x * (W / c.sum) * c.getD s 0 + y * (W / c.sum) * c.getD s 0 = _
    rw [Int.zero_add, ← Int.add_mul, ← Int.add_mul])
  rw [e, plain_of_one hc.g]
/-- the gap of two shares, made smaller -/
def gapM (p q : Int × Int) : Int × Int := frM (p.1 * q.2 - q.1 * p.2) (p.2 * q.2)
theorem gap_eq {x y X Y : Int} (hX : 0 < X) (hY : 0 < Y) : gapM (frM x X) (frM y Y) = frM (x * Y - y * X) (X * Y) := by
  obtain ⟨p0, p1⟩ := frM_cross x hX
  obtain ⟨q0, q1⟩ := frM_cross y hY
  unfold gapM
  refine frM_eq (Int.mul_pos p0 q0) (Int.mul_pos hX hY) ?_
  generalize (frM x X).1 = a at *
  generalize (frM x X).2 = b at *
  generalize (frM y Y).1 = c at *
  generalize (frM y Y).2 = d at *
  rw [Int.sub_mul, Int.sub_mul]
  have e1 : a * d * (X * Y) = x * Y * (b * d) := by
    have : a * d * (X * Y) = a * X * (d * Y) := by simp only [Int.mul_comm, Int.mul_left_comm, Int.mul_assoc]
    rw [this, p1]
    simp only [Int.mul_comm, Int.mul_left_comm, Int.mul_assoc]
  have e2 : c * b * (X * Y) = y * X * (b * d) := by
    have : c * b * (X * Y) = c * Y * (b * X) := by simp only [Int.mul_comm, Int.mul_left_comm, Int.mul_assoc]
    rw [this, q1]
    simp only [Int.mul_comm, Int.mul_left_comm, Int.mul_assoc]
  rw [e1, e2]
theorem step_share {x : List Int} {a b : Int} {c h : Nat} (hx : Con x) (k : Kep a b) (hc : c < x.length) (hh : h < x.length) : ∃ g : Int, 0 < g ∧ g * (step x a b c).getD h 0 = x.getD h 0 * a + (if h = c then (b - a) * x.sum else 0) ∧ g * (step x a b c).sum = b * x.sum := by
  have ha := pre_amt hx k hc
  have hg := gcdN_pos ha
  refine ⟨((gcdN (pre x a b c) : Nat) : Int), by omega, ?_, ?_⟩
  · unfold step
    rw [← getD_map_mul _ (by rw [plain_len, pre_len]; exact hh), plain_back ha, pre_at hh]
  · unfold step
    rw [Int.mul_comm, plain_sum ha, pre_sum hc]
theorem gap_step {x y : List Int} {a b : Int} {c h : Nat} (hx : Con x) (hy : Con y) (k : Kep a b) (hcx : c < x.length) (hcy : c < y.length) (hhx : h < x.length) (hhy : h < y.length) :
    gapM (frM ((step x a b c).getD h 0) (step x a b c).sum) (frM ((step y a b c).getD h 0) (step y a b c).sum) =
    frM ((gapM (frM (x.getD h 0) x.sum) (frM (y.getD h 0) y.sum)).1 * a) ((gapM (frM (x.getD h 0) x.sum) (frM (y.getD h 0) y.sum)).2 * b) := by
  have k1 := k.a1
  have k2 := k.ab
  have sx := hx.amt.pos
  have sy := hy.amt.pos
  have tx := (step_con hx k hcx).amt.pos
  have ty := (step_con hy k hcy).amt.pos
  rw [gap_eq sx sy, gap_eq tx ty]
  obtain ⟨r0, r1⟩ := frM_cross (x.getD h 0 * y.sum - y.getD h 0 * x.sum) (Int.mul_pos sx sy)
  refine frM_eq (Int.mul_pos tx ty) (Int.mul_pos r0 (by omega)) ?_
  obtain ⟨g1, g10, e1, f1⟩ := step_share hx k hcx hhx
  obtain ⟨g2, g20, e2, f2⟩ := step_share hy k hcy hhy
  generalize (step x a b c).getD h 0 = x' at *
  generalize (step y a b c).getD h 0 = y' at *
  generalize (step x a b c).sum = X' at *
  generalize (step y a b c).sum = Y' at *
  generalize (frM (x.getD h 0 * y.sum - y.getD h 0 * x.sum) (x.sum * y.sum)).1 = u at *
  generalize (frM (x.getD h 0 * y.sum - y.getD h 0 * x.sum) (x.sum * y.sum)).2 = v at *
  generalize x.getD h 0 = p at *
  generalize y.getD h 0 = q at *
  generalize x.sum = X at *
  generalize y.sum = Y at *
  -- g1 g2 (x' Y' - y' X') = a b (p Y - q X), g1 g2 X' Y' = b b X Y
  have m1 : g1 * g2 * (x' * Y' - y' * X') = a * b * (p * Y - q * X) := by
    have z : g1 * g2 * (x' * Y' - y' * X') = g1 * x' * (g2 * Y') - g2 * y' * (g1 * X') := by
      rw [Int.mul_sub]
      congr 1 <;> simp only [Int.mul_comm, Int.mul_left_comm, Int.mul_assoc]
    rw [z, e1, f2, e2, f1]
    generalize hE : (if h = c then (b - a) else 0) = E
    have i1 : (if h = c then (b - a) * X else 0) = E * X := by rw [← hE]; split <;> simp
    have i2 : (if h = c then (b - a) * Y else 0) = E * Y := by rw [← hE]; split <;> simp
    rw [i1, i2, Int.add_mul, Int.add_mul, Int.mul_sub]
    have j1 : p * a * (b * Y) = a * b * (p * Y) := by simp only [Int.mul_comm, Int.mul_left_comm, Int.mul_assoc]
    have j2 : q * a * (b * X) = a * b * (q * X) := by simp only [Int.mul_comm, Int.mul_left_comm, Int.mul_assoc]
    have j3 : E * X * (b * Y) = E * Y * (b * X) := by simp only [Int.mul_comm, Int.mul_left_comm, Int.mul_assoc]
    rw [j1, j2, j3]
    omega
  have m2 : g1 * g2 * (X' * Y') = b * b * (X * Y) := by
    have z : g1 * g2 * (X' * Y') = g1 * X' * (g2 * Y') := by simp only [Int.mul_comm, Int.mul_left_comm, Int.mul_assoc]
    rw [z, f1, f2]
    simp only [Int.mul_comm, Int.mul_left_comm, Int.mul_assoc]
  have hgg : g1 * g2 ≠ 0 := Int.ne_of_gt (Int.mul_pos g10 g20)
  refine Int.eq_of_mul_eq_mul_left hgg ?_
  have l : g1 * g2 * ((x' * Y' - y' * X') * (v * b)) = g1 * g2 * (x' * Y' - y' * X') * (v * b) := by simp only [Int.mul_assoc]
  have r : g1 * g2 * (u * a * (X' * Y')) = u * a * (g1 * g2 * (X' * Y')) := by simp only [Int.mul_comm, Int.mul_left_comm, Int.mul_assoc]
  rw [l, r, m1, m2]
  have z1 : a * b * (p * Y - q * X) * (v * b) = a * b * b * ((p * Y - q * X) * v) := by simp only [Int.mul_comm, Int.mul_left_comm, Int.mul_assoc]
  have z2 : u * a * (b * b * (X * Y)) = a * b * b * (u * (X * Y)) := by simp only [Int.mul_comm, Int.mul_left_comm, Int.mul_assoc]
  rw [z1, z2, r1]
end Ma
end

section
set_option Elab.async false
set_option linter.all false
set_option maxRecDepth 100000
set_option maxHeartbeats 4000000
namespace K29
open PySem PySem.Spec PyProof.Rows L2 GxR Gx Ma
section
variable {P : Program} {w : World} {K : PySem.W.Frag} {mg : Str → Option Value} {base : Heap}

section
variable {X : Cx}
def rLcm : List V → Hp → VK → Prop := fun vs H Q => ∃ a b : Int, vs = [.int a, .int b] ∧ a.natAbs < 2 ^ 13000 ∧ b.natAbs < 2 ^ 13000 ∧ Q (.int ((Nat.lcm a.natAbs b.natAbs : Nat) : Int)) H
theorem one_lt_two (k : Nat) : 1 < 2 ^ (k + 1) := Nat.one_lt_two_pow (Nat.succ_ne_zero k)
theorem cr_lcm : CallR X (.builtin "math.lcm") rLcm := by
  intro pins s σ H vs us Q I r h
  obtain ⟨a, b, rfl, ha, hb, q⟩ := h
  obtain ⟨t, u, rfl⟩ := Vals.int2 r
  have h1 : (max 1 a.natAbs).log2 ≤ 12999 := PySem.W.mg_log (Nat.max_lt.mpr ⟨one_lt_two 12999, ha⟩)
  have h2 : (max a.natAbs b.natAbs).log2 ≤ 12999 := PySem.W.mg_log (Nat.max_lt.mpr ⟨ha, hb⟩)
  have e1 : Nat.lcm 1 a.natAbs = a.natAbs := Nat.lcm_one_left _
  have h3 : Nat.lcm a.natAbs b.natAbs ≤ a.natAbs * b.natAbs := by
    unfold Nat.lcm
    exact Nat.div_le_self _ _
  have h4 : a.natAbs * b.natAbs < 2 ^ (25999 + 1) := by
    have : a.natAbs * b.natAbs < 2 ^ 13000 * 2 ^ 13000 := Nat.mul_lt_mul'' ha hb
    rw [← Nat.pow_add] at this
    exact this
  have h5 : ((((Nat.lcm 1 a.natAbs).lcm b.natAbs : Nat) : Int)).natAbs.log2 < bitsLine := by
    rw [e1, Int.natAbs_natCast]
    have := PySem.W.mg_log (Nat.lt_of_le_of_lt h3 h4)
    unfold bitsLine
    omega
  have g := PySem.W.mg_run_lcm a t b u (by omega) (by omega) h5
  rw [e1] at g
  exact call_function_meets PySem.W.MGF.kind_lcm PySem.W.MGF.plain_lcm PySem.W.MGF.entry_lcm (PySem.W.MGF.args_lcm _ _) g.meets ⟨.int _, H, I.tok _, ⟨_, rfl⟩, q⟩
end
theorem call_len_seqK {X : Cx} {K : PySem.W.Frag} (e : X.K = K) : CallR X (.builtin "len") (fun xs H Q => ∃ p ys, xs = [V.ref p] ∧ (SqL K H p ys ∨ SqT K H p ys) ∧ Q (V.int (ys.length : Nat)) H) := e ▸ call_len_seq
theorem cr_sumK {X : Cx} {K : PySem.W.Frag} (e : X.K = K) (hc : X.calm = true) : CallR X (.builtin "sum") (rSum K) := e ▸ cr_sum hc
structure Pots (H : Hp) (l : Addr) (ps : List Addr) (cs : List (List Int)) : Prop where
  at_ : H l = some (.lst (ps.map V.ref))
  len : ps.length = cs.length
  row : ∀ i a, ps[i]? = some a → LI H a (cs.getD i [])
theorem Pots.same {H H' : Hp} {l : Addr} {ps : List Addr} {cs : List (List Int)} (h : Pots H l ps cs) (e : Same H H') : Pots H' l ps cs := ⟨e _ _ h.at_, h.len, fun i a ha => e _ _ (h.row i a ha)⟩
theorem Pots.first {H : Hp} {l : Addr} {ps : List Addr} {cs : List (List Int)} (h : Pots H l ps cs) (h0 : 0 < cs.length) : ∃ a0, ps[0]? = some a0 ∧ atI (ps.map V.ref) 0 = some (.ref a0) ∧ LI H a0 (cs.getD 0 []) := by
  have h1 : 0 < ps.length := by rw [h.len]; exact h0
  have e : ps[0]? = some ps[0] := List.getElem?_eq_getElem h1
  refine ⟨ps[0], e, ?_, h.row 0 _ e⟩
  have e2 : (ps.map V.ref)[0]? = some (.ref ps[0]) := by rw [List.getElem?_map, e]; rfl
  exact atI_nat (j := 0) e2
theorem cat {cs : List (List Int)} {i : Nat} (h : i < cs.length) : cs.getD i [] ∈ cs := getD_mem h
def sp_is_list_of_contents (Ta Tl : Addr) : Sp := fun vs H Q _ => ∃ (l : Addr) (ps : List Addr) (cs : List (List Int)) (n : Nat), vs = [V.ref l] ∧ Pots H l ps cs ∧ 0 < cs.length ∧ cs.length ≤ 8 ∧ (∀ c ∈ cs, Con c) ∧ (∀ c ∈ cs, c.length = n) ∧ H Ta = some (TabO Ta) ∧ H Tl = some (TabO Tl) ∧ Q (.bl true) H
def sp_check_contents (Ta Tl : Addr) : Sp := fun vs H Q _ => ∃ (l : Addr) (ps : List Addr) (cs : List (List Int)) (n : Nat), vs = [V.ref l] ∧ Pots H l ps cs ∧ 0 < cs.length ∧ cs.length ≤ 8 ∧ (∀ c ∈ cs, Con c) ∧ (∀ c ∈ cs, c.length = n) ∧ H Ta = some (TabO Ta) ∧ H Tl = some (TabO Tl) ∧ Q .non H
def sp_check_amounts (Ta : Addr) : Sp := fun vs H Q _ => ∃ (l : Addr) (ws : List Int), vs = [V.ref l] ∧ LI H l ws ∧ 0 < ws.length ∧ ws.length ≤ 8 ∧ Amt ws ∧ H Ta = some (TabO Ta) ∧ Q .non H
def sp_check_weights (Ta : Addr) : Sp := fun vs H Q _ => ∃ (l : Addr) (ws : List Int) (n : Int), vs = [V.ref l, V.int n] ∧ LI H l ws ∧ 0 < ws.length ∧ ws.length ≤ 8 ∧ Amt ws ∧ (ws.length : Int) = n ∧ H Ta = some (TabO Ta) ∧ Q .non H
def sp_mixed (Ta Tl : Addr) : Sp := fun vs H Q _ => ∃ (l wl : Addr) (ps : List Addr) (cs : List (List Int)) (ws : List Int) (n : Nat), vs = [V.ref l, V.ref wl] ∧ Pots H l ps cs ∧ LI H wl ws ∧ Mix cs ws n ∧ H Ta = some (TabO Ta) ∧ H Tl = some (TabO Tl) ∧
  ∀ p H', Same H H' → H p = none → LI H' p (Ma.plain (mixL cs ws (lcmZ cs cs.length) n cs.length)) → Q (.ref p) H'
def sp_due : Sp := fun vs H Q _ => ∃ (l wl : Addr) (ps : List Addr) (cs : List (List Int)) (ws : List Int) (n : Nat), vs = [V.ref l, V.ref wl] ∧ Pots H l ps cs ∧ LI H wl ws ∧ Mix cs ws n ∧
  ∀ p H', Same H H' → H p = none → LI H' p (Ma.plain (mixL cs ws (prodZ cs cs.length) n cs.length)) → Q (.ref p) H'

theorem ok_is_list_of_contents {f : Addr} {fd : FuncData} {c : Addr} (F : FunC K "is_list_of_contents" "is_list_of_contents" s_is_list_of_contents f fd c) (B : Bl mg) {Ta : Addr} (C_is_content : Cal P w K mg base 6 "is_content" ["thing"] (sp_is_content Ta)) {Tl : Addr} (TB_is_list_of_contents : TabB base mg c Tl) : FnOk P w K mg base CX0 10 f fd ["thing"] (sp_is_list_of_contents Ta Tl) := by
  refine F.ok sc_is_list_of_contents (fun vs H Q E h => ?_) (fun A outer s H vs Q E hr h => ?_)
  · obtain ⟨l, ps, cs, n, rfl, _⟩ := h; rfl
  · obtain ⟨l, ps, cs, n, rfl, hp, h0, h8, hc, hn, hTa, hTl, q⟩ := h
    have hcode : (cxOf CX0 P w K mg base ["thing"] "is_list_of_contents" (defScope s_is_list_of_contents) f (.ref c) A outer s H E).nox.env.code = .ref c := rfl
    have hpl := hp.len
    obtain ⟨a0, ha0, hat0, hr0⟩ := hp.first h0
    have nd := sc_is_list_of_contents.nd
    refine ⟨_, (pss_cons (ps_if (PW.pt (pw_or (pt_cmpR op_neTy (pe_typeOf (by rfl) B.type (pv 0)) (pe_bltn (v := .ty "list") (by rfl) B.list (by decide +kernel) rfl) (nomark _)) (pw_or1 (pt_not (pt_chain op_le op_le pe_int (pe_callB call_len_seq (by rfl) B.len PySem.boot_len (pa_cons (pv 0) pa_nil)) (pe_gi B.MOST_LIQUIDS))))))
      (pss_one (ps_ret pe_bl)) pss_nil)
      (pss_cons (ps_if (pt_not (pt_val (pe_allG (ns := []) (k' := 6) (hr.mono (by decide)) (by rfl) B.all TB_is_list_of_contents hcode (gok_by (N := ["thing"]) (sc := defScope s_is_list_of_contents) (by decide +kernel)) (by decide) (pi_list (pv 0)) (fun s H C code fp A hq => (pe_cal C_is_content (hq.mono (by decide)) (pa_cons (pv 0) pa_nil))))))
      (pss_one (ps_ret pe_bl)) pss_nil)
      (pss_one (ps_ret (pe_allG (ns := [("thing", 0)]) (k' := 0) (hr.mono (by decide)) (by rfl) B.all TB_is_list_of_contents hcode (gok_by (N := ["thing"]) (sc := defScope s_is_list_of_contents) (by decide +kernel)) (by decide) (pi_list (pv 0)) (fun s H C code fp A hq => (pe_cmpR op_eq (pe_callB (call_len_seqK (K := K) rfl) (by rfl) B.len PySem.boot_len (pa_cons (pv 0) pa_nil)) (pe_callB (call_len_seqK (K := K) rfl) (by rfl) B.len PySem.boot_len (pa_cons (pe_ix (ix_listK (K := K) rfl) (pv 1) pe_int (fun _ _ => rfl)) pa_nil)) (nomark _)))))))), ?_⟩
    refine ⟨.ref l, rfl, "list", by simp only [zTyV, hp.at_], "list", rfl, rfl, TypeEq.meta_list, false, rfl, iteF ?_⟩
    refine ⟨.ref l, rfl, l, _, rfl, .inl (SqL.of hp.at_), 1, _, rfl, rfl, _, rfl, ?_⟩
    rw [decide_eq_true (by rw [List.length_map]; omega)]
    refine iteT ⟨_, 8, rfl, rfl, _, rfl, ?_⟩
    rw [decide_eq_true (by rw [List.length_map]; omega)]
    refine iteF ⟨.ref l, rfl, l, rfl, ⟨_, SqL.of hp.at_⟩, hTl, all_list hp.at_ (fun i y hy R r => ?_) ⟨true, rfl, iteF ?_⟩⟩
    · obtain ⟨a, ha, rfl⟩ := map_ref hy
      have hi := (List.getElem?_eq_some_iff.mp ha).1
      exact ⟨.ref a, rfl, a, _, rfl, hp.row i a ha, hc _ (cat (by omega)), hTa, r⟩
    · refine ⟨.ref l, rfl, l, rfl, ⟨_, SqL.of hp.at_⟩, hTl, all_list hp.at_ (fun i y hy R r => ?_) q⟩
      obtain ⟨a, ha, rfl⟩ := map_ref hy
      have hi := (List.getElem?_eq_some_iff.mp ha).1
      refine ⟨.ref a, rfl, a, _, rfl, .inl (SqL.of (hp.row i a ha)), .ref l, rfl, l, _, 0, .ref a0, rfl, rfl, SqL.of hp.at_, hat0, a0, _, rfl, .inl (SqL.of hr0), rfl, ?_⟩
      rw [decide_eq_true (by rw [List.length_map, List.length_map, hn _ (cat (i := i) (by omega)), hn _ (cat (i := 0) h0)])]
      exact r

theorem ok_check_contents {f : Addr} {fd : FuncData}  (F : Fun K "check_contents" "check_contents" s_check_contents f fd) (B : Bl mg) {Ta Tl : Addr} (C_is_list_of_contents : Cal P w K mg base 10 "is_list_of_contents" ["thing"] (sp_is_list_of_contents Ta Tl)) : FnOk P w K mg base CX0 11 f fd ["contents"] (sp_check_contents Ta Tl) := by
  refine F.ok sc_check_contents (fun vs H Q E h => ?_) (fun cdv A outer s H vs Q E hr h => ?_)
  · obtain ⟨l, ps, cs, n, rfl, _⟩ := h; rfl
  · obtain ⟨l, ps, cs, n, rfl, hp, h0, h8, hc, hn, hTa, hTl, q⟩ := h
    have nd := sc_check_contents.nd
    refine ⟨_, (pss_one (ps_if (pt_not (pt_val (pe_cal C_is_list_of_contents (hr.mono (by decide)) (pa_cons (pv 0) pa_nil))))
      (pss_one ps_never) pss_nil)), ?_⟩
    exact ⟨.ref l, rfl, l, ps, cs, n, rfl, hp, h0, h8, hc, hn, hTa, hTl, true, rfl, iteF q⟩

theorem ok_check_amounts {f : Addr} {fd : FuncData}  (F : Fun K "check_amounts" "check_amounts" s_check_amounts f fd) (B : Bl mg) {Ta : Addr} (C_is_list_of_amounts : Cal P w K mg base 5 "is_list_of_amounts" ["thing"] (sp_is_list_of_amounts Ta)) (C_common_divisor : Cal P w K mg base 1 "common_divisor" ["numbers"] sp_common_divisor) : FnOk P w K mg base CX0 6 f fd ["numbers"] (sp_check_amounts Ta) := by
  refine F.ok sc_check_amounts (fun vs H Q E h => ?_) (fun cdv A outer s H vs Q E hr h => ?_)
  · obtain ⟨l, ws, rfl, _⟩ := h; rfl
  · obtain ⟨l, ws, rfl, hl, h0, h8, ha, hTa, q⟩ := h
    have hg := gcdN_pos ha
    have nd := sc_check_amounts.nd
    refine ⟨_, (pss_one (ps_if (PW.pt (pw_or (pt_not (pt_val (pe_cal C_is_list_of_amounts (hr.mono (by decide)) (pa_cons (pv 0) pa_nil)))) (pw_or1 (pt_cmpR op_eq (pe_cal C_common_divisor (hr.mono (by decide)) (pa_cons (pv 0) pa_nil)) pe_int (nomark _)))))
      (pss_one ps_never) pss_nil)), ?_⟩
    refine ⟨.ref l, rfl, l, ws, rfl, hl, h0, h8, ha.nn, hTa, true, rfl, iteF ⟨.ref l, rfl, l, ws, rfl, hl, rfl, _, rfl, ?_⟩⟩
    rw [decide_eq_false (fun e => by injection e with e; omega)]
    exact iteF q

theorem ok_check_weights {f : Addr} {fd : FuncData}  (F : Fun K "check_weights" "check_weights" s_check_weights f fd) (B : Bl mg) {Ta : Addr} (C_check_amounts : Cal P w K mg base 6 "check_amounts" ["numbers"] (sp_check_amounts Ta)) : FnOk P w K mg base CX0 7 f fd ["weights", "count"] (sp_check_weights Ta) := by
  refine F.ok sc_check_weights (fun vs H Q E h => ?_) (fun cdv A outer s H vs Q E hr h => ?_)
  · obtain ⟨l, ws, n, rfl, _⟩ := h; rfl
  · obtain ⟨l, ws, n, rfl, hl, h0, h8, ha, hn, hTa, q⟩ := h
    have nd := sc_check_weights.nd
    refine ⟨_, (pss_cons (ps_expr (pe_cal C_check_amounts (hr.mono (by decide)) (pa_cons (pv 0) pa_nil)))
      (pss_one (ps_if (pt_cmpR op_ne (pe_callB call_len_seq (by rfl) B.len PySem.boot_len (pa_cons (pv 0) pa_nil)) (pv 1) (nomark _))
      (pss_one ps_never) pss_nil))), ?_⟩
    refine ⟨.ref l, rfl, l, ws, rfl, hl, h0, h8, ha, hTa, .ref l, rfl, l, _, rfl, .inl (SqL.of hl), .int n, rfl, rfl, _, rfl, iteNS ?_ q⟩
    rw [List.length_map, hn]

end
end K29
end

section
set_option Elab.async false
set_option linter.all false
set_option maxRecDepth 100000
set_option maxHeartbeats 4000000
namespace K29
open PySem PySem.Spec PyProof.Rows L2 GxR Gx Ma
section
variable {P : Program} {w : World} {K : PySem.W.Frag} {mg : Str → Option Value} {base : Heap}

theorem _root_.Ma.Mix.wamt {cs : List (List Int)} {ws : List Int} {n : Nat} (M : Mix cs ws n) : Amt ws := ⟨fun x hx => (M.w0 x hx).1, M.wp⟩
theorem small_nat {m : Int} (k : Nat) (h0 : 0 ≤ m) (h : m ≤ 2 ^ k) : m.natAbs < 2 ^ (k + 1) := by
  refine abs_lt h0 (Int.lt_of_le_of_lt h ?_)
  rw [Int.pow_succ]
  have : (0 : Int) < 2 ^ k := Int.pow_pos (by decide)
  omega
theorem _root_.Ma.Mix.sumb {cs : List (List Int)} {ws : List Int} {n : Nat} (M : Mix cs ws n) {i : Nat} (h : i < cs.length) : (cs.getD i []).sum.natAbs < 2 ^ 530 := abs_lt (Int.le_of_lt (M.sp h)) (M.small _ (M.at h))
theorem _root_.Ma.Mix.lcmb {cs : List (List Int)} {ws : List Int} {n : Nat} (M : Mix cs ws n) {i : Nat} (h : i ≤ cs.length) : (lcmZ cs i).natAbs < 2 ^ 4241 := by
  have h8 := M.c8
  exact small_nat 4240 (Int.le_of_lt (lcm_pos M i h)) (Int.le_trans (lcm_le M i h) (two_le (by omega)))
theorem _root_.Ma.Mix.prodb {cs : List (List Int)} {ws : List Int} {n : Nat} (M : Mix cs ws n) {i : Nat} (h : i ≤ cs.length) : (prodZ cs i).natAbs < 2 ^ 4241 := by
  have h8 := M.c8
  exact small_nat 4240 (Int.le_of_lt (prod_pos M i h)) (Int.le_trans (prod_le M i h) (two_le (by omega)))
theorem _root_.Ma.Mix.wb {cs : List (List Int)} {ws : List Int} {n : Nat} (M : Mix cs ws n) {i : Nat} (h : i < cs.length) : (ws.getD i 0).natAbs < 2 ^ 98 := abs_lt (M.w0 _ (M.wat h)).1 (M.w0 _ (M.wat h)).2
theorem div_b {a b : Int} {k : Nat} (h : a.natAbs < 2 ^ k) : (a / b).natAbs < 2 ^ k := Nat.lt_of_le_of_lt (Int.natAbs_ediv_le_natAbs a b) h
theorem mul_b {a b : Int} {j k : Nat} (h : a.natAbs < 2 ^ j) (h2 : b.natAbs < 2 ^ k) : (a * b).natAbs < 2 ^ (j + k) := by
  rw [Int.natAbs_mul, Nat.pow_add]
  exact Nat.mul_lt_mul'' h h2
theorem _root_.Ma.Mix.cell {cs : List (List Int)} {ws : List Int} {n : Nat} (M : Mix cs ws n) {i s : Nat} (h : i < cs.length) (hs : s < n) : (cs.getD i [])[s]? = some ((cs.getD i []).getD s 0) ∧ ((cs.getD i []).getD s 0).natAbs < 2 ^ 530 := by
  have hl := M.len _ (M.at h)
  have e : (cs.getD i [])[s]? = some (cs.getD i [])[s] := List.getElem?_eq_getElem (by omega)
  have e2 : (cs.getD i []).getD s 0 = (cs.getD i [])[s] := by rw [List.getD_eq_getElem?_getD, e]; rfl
  rw [e2]
  have hm := List.mem_of_getElem? e
  have hc := M.con _ (M.at h)
  exact ⟨e, abs_lt (hc.nn _ hm) (Int.lt_of_le_of_lt (le_sum hc.nn hm) (M.small _ (M.at h)))⟩
theorem mixL_get {cs : List (List Int)} {ws : List Int} {W : Int} {n m s : Nat} (h : s < n) : (mixL cs ws W n m)[s]? = some (mixN cs ws W s m) := by
  unfold mixL
  rw [List.getElem?_map, List.getElem?_range h]
  rfl
theorem mixL_zero (cs : List (List Int)) (ws : List Int) (W : Int) (n : Nat) : mixL cs ws W n 0 = List.replicate n 0 := by
  unfold mixL
  show (List.range n).map (fun _ => (0 : Int)) = _
  rw [List.map_const', List.length_range]
theorem _root_.Ma.Mix.amtW {cs : List (List Int)} {ws : List Int} {n : Nat} (M : Mix cs ws n) {W : Int} (hW : 0 < W) (hd : ∀ k, k < cs.length → (cs.getD k []).sum ∣ W) (hb : W ≤ 2 ^ 4240) : Amt (mixL cs ws W n cs.length) ∧ (mixL cs ws W n cs.length).sum < 2 ^ 4500 := by
  refine ⟨mix_amt M hW hd, ?_⟩
  rw [mix_sum M _ (Nat.le_refl _) hd, M.ws]
  have h8 := M.c8
  have hw : ws.sum ≤ ws.length * 2 ^ 98 := sum_lt M.w0
  have hl : (ws.length : Int) * 2 ^ 98 ≤ 8 * 2 ^ 98 := Int.mul_le_mul_of_nonneg_right (by rw [M.wl]; omega) (by decide +kernel)
  have h3 : (8 : Int) * 2 ^ 98 ≤ 2 ^ 101 := by decide +kernel
  have h4 := two_mul' (x := W) (y := ws.sum) (a := 4240) (b := 101) hb (by omega) (Int.le_of_lt M.wp)
  refine Int.lt_of_le_of_lt h4 ?_
  decide +kernel
theorem get_of {xs : List V} {i : Nat} {x y : V} (h : xs[i]? = some x) (h2 : xs[i]? = some y) : x = y := Option.some.inj (h.symm.trans h2)

def sp_mix0 : Sp := fun vs H Q _ => ∃ (l wl : Addr) (ps : List Addr) (cs : List (List Int)) (ws : List Int) (n : Nat), vs = [V.ref l, V.ref wl] ∧ Pots H l ps cs ∧ LI H wl ws ∧ Mix cs ws n ∧
  ∀ p H', Same H H' → H p = none → LI H' p (Ma.plain (mixL cs ws (lcmZ cs cs.length) n cs.length)) → Q (.ref p) H'

theorem ok_mixture_of {f : Addr} {fd : FuncData}  (F : Fun K "mixture_of" "mixture_of" s_mixture_of f fd) (B : Bl mg) (C_without_divisor : Cal P w K mg base 2 "without_divisor" ["numbers"] sp_without_divisor) : FnOk P w K mg base CX0 3 f fd ["contents", "weights"] (sp_mix0) := by
  refine F.ok sc_mixture_of (fun vs H Q E h => ?_) (fun cdv A outer s H vs Q E hr h => ?_)
  · obtain ⟨l, wl, ps, cs, ws, n, rfl, _⟩ := h; rfl
  · obtain ⟨l, wl, ps, cs, ws, n, rfl, hp, hw, M, q⟩ := h
    have hpl := hp.len
    have c0 := M.c0
    have c8 := M.c8
    have wlen := M.wl
    obtain ⟨a0, ha0, hat0, hr0⟩ := hp.first c0
    have hn0 : (cs.getD 0 []).length = n := M.len _ (M.at c0)
    have hn8 : n ≤ 8 := by rw [← hn0]; exact (M.con _ (M.at c0)).le8
    have hC := lcm_pos M cs.length (Nat.le_refl _)
    have hCb := M.lcmb (i := cs.length) (Nat.le_refl _)
    have nd := sc_mixture_of.nd
    refine ⟨_, (pss_cons (ps_set (i := 2) nd rfl (Or.inl rfl) pe_int)
      (pss_cons (ps_for PassesOwn.never rfl (pi_list (pv 0)) (pg_name (i := 3) nd rfl (Or.inl rfl)) (pss_one (ps_set (i := 2) nd rfl (Or.inl rfl) (pe_callBfun cr_lcm (by rfl) B.lcm (pa_cons (pv 2) (pa_cons (pe_callB (cr_sum rfl) (by rfl) B.sum (by decide +kernel) (pa_cons (pv 3) pa_nil)) pa_nil))))))
      (pss_cons (ps_set (i := 4) nd rfl (Or.inl rfl) (pe_op op_rep (pe_lst (pa_cons pe_int pa_nil)) (pe_callB call_len_seq (by rfl) B.len PySem.boot_len (pa_cons (pe_ix ix_list (pv 0) pe_int (fun _ _ => rfl)) pa_nil))))
      (pss_cons (ps_for PassesOwn.never rfl (pi_zip (by rfl) B.zip (pa_cons (pv 0) (pa_cons (pv 1) pa_nil))) (pg_tup (by rfl) (pgs_cons (pg_name (i := 3) nd rfl (Or.inl rfl)) (pgs_cons (pg_name (i := 5) nd rfl (Or.inl rfl)) pgs_nil))) (pss_cons (ps_set (i := 6) nd rfl (Or.inr rfl) (pe_op op_mulW (pv 5) (pe_op op_fdivW (pv 2) (pe_callB (cr_sum rfl) (by rfl) B.sum (by decide +kernel) (pa_cons (pv 3) pa_nil)))))
      (pss_one (ps_setLc (i := 4) (own := [("amount", 7), ("more", 8)]) (g := gTup K 2 (gCons (gName 7) (gCons (gName 8) gNil))) rfl nd rfl rfl (sw_true rfl rfl rfl (by decide +kernel)) (pi_zip (by rfl) B.zip (pa_cons (pv 4) (pa_cons (pv 3) pa_nil))) (blkOk_by (own := [("amount", 7), ("more", 8)]) (N := ["contents", "weights", "common", "content", "mixture", "weight", "factor", "amount", "more"]) (sc := defScope s_mixture_of) (by decide +kernel)) (fun _ _ _ _ _ => (pg_tup (by rfl) (pgs_cons (pg_name (i := 7) nd rfl (Or.inl rfl)) (pgs_cons (pg_name (i := 8) nd rfl (Or.inl rfl)) pgs_nil)))) (fun _ _ _ _ _ => pts_nil) (fun _ _ _ _ _ => (pe_op op_add (pv 7) (pe_op op_mulW (pv 6) (pv 8))))))))
      (pss_one (ps_ret (pe_cal C_without_divisor (hr.mono (by decide)) (pa_cons (pv 4) pa_nil)))))))), ?_⟩
    refine ⟨.ref l, rfl, l, rfl, ⟨_, SqL.of hp.at_⟩, for_list (xs := ps.map V.ref) (fun i σ H' => ∃ y3, σ = [some (.ref l), some (.ref wl), some (.int (lcmZ cs i)), y3, none, none, none, none, none] ∧ H' = H) ⟨none, rfl, rfl⟩ (fun i σ H' _ ⟨_, _, e⟩ => by rw [e]; exact SqL.of hp.at_) (fun i x σ H' hx ⟨y3, e1, e2⟩ => ?_) (fun σ H' ⟨y3, e1, e2⟩ => ?_)⟩
    · subst e1 e2
      obtain ⟨a, ha, rfl⟩ := map_ref hx
      have hi := (List.getElem?_eq_some_iff.mp ha).1
      exact ⟨.int (lcmZ cs i), rfl, .ref a, rfl, a, cs.getD i [], rfl, SqL.of (hp.row i a ha), lcmZ cs i, (cs.getD i []).sum, rfl, Nat.lt_of_lt_of_le (M.lcmb (i := i) (by omega)) (Nat.pow_le_pow_right (by decide) (by decide)), Nat.lt_of_lt_of_le (M.sumb (i := i) (by omega)) (Nat.pow_le_pow_right (by decide) (by decide)), _, rfl, rfl⟩
    · subst e1 e2
      rw [List.length_map, hpl]
      refine ⟨by show 1 ≤ 16777216; decide, fun o no => ?_⟩
      have so : Same H' (upd H' o (.lst [.int 0])) := same_new no
      refine ⟨.ref l, rfl, l, _, 0, .ref a0, rfl, rfl, SqL.of (so _ _ hp.at_), hat0, a0, _, rfl, .inl (SqL.of (so _ _ hr0)), ?_⟩
      rw [List.length_map, hn0]
      refine ⟨o, (n : Int), _, rfl, rfl, upd_same, by omega, by omega, by show 1 * (n : Int).toNat ≤ 16777216; omega, fun mx nmx => ?_⟩
      have em : (List.replicate (n : Int).toNat [V.int 0]).flatten = (mixL cs ws (lcmZ cs cs.length) n 0).map V.int := by
        rw [Int.toNat_natCast, mixL_zero, List.map_replicate, rep_flat]
      rw [em]
      have sm := so.trans (same_new (o := .lst ((mixL cs ws (lcmZ cs cs.length) n 0).map V.int)) nmx)
      have lm : LI (upd (upd H' o (.lst [.int 0])) mx (.lst ((mixL cs ws (lcmZ cs cs.length) n 0).map V.int))) mx (mixL cs ws (lcmZ cs cs.length) n 0) := upd_same
      generalize upd (upd H' o (.lst [.int 0])) mx (.lst ((mixL cs ws (lcmZ cs cs.length) n 0).map V.int)) = H1 at sm lm ⊢
      refine ⟨.ref l, rfl, .ref wl, rfl, l, wl, ps.map V.ref, ws.map V.int, rfl, SqL.of (sm _ _ hp.at_), SqL.of (sm _ _ hw), ?_⟩
      refine RZ.for_zipL (by rw [List.length_map, List.length_map, hpl, wlen]) (fun i σ H2 => ∃ y3 y5 y6 m, σ = [some (.ref l), some (.ref wl), some (.int (lcmZ cs cs.length)), y3, some (.ref m), y5, y6, none, none] ∧ Same H' H2 ∧ LI H2 m (mixL cs ws (lcmZ cs cs.length) n i))
        ⟨_, none, none, mx, rfl, sm, lm⟩ (fun i σ H2 ⟨_, _, _, _, _, e, _⟩ => ⟨SqL.of (e _ _ hp.at_), SqL.of (e _ _ hw)⟩) (fun i x y T σ H2 hx hy hP nT => ?_) (fun σ H2 hP => ?_)
      · obtain ⟨y3, y5, y6, m, rfl, e, le⟩ := hP
        obtain ⟨a, ha, rfl⟩ := map_ref hx
        obtain ⟨wv, hwv, rfl⟩ := map_get hy
        have hi : i < cs.length := by have := (List.getElem?_eq_some_iff.mp ha).1; omega
        have ew : ws.getD i 0 = wv := by rw [List.getD_eq_getElem?_getD, hwv]; rfl
        have sT : Same H2 (upd H2 T (.tup [.ref a, .int wv])) := same_new nT
        have e2 := e.trans sT
        have hra := e2 _ _ (hp.row i a ha)
        have wb : wv.natAbs < 2 ^ 98 := by rw [← ew]; exact M.wb hi
        have hs := M.sp hi
        have db := div_b (b := (cs.getD i []).sum) hCb
        refine ⟨T, _, rfl, SqT.of upd_same, rfl, _, _, rfl, _, _, rfl, rfl, ?_⟩
        refine ⟨.int wv, rfl, .int (lcmZ cs cs.length), rfl, .ref a, rfl, a, cs.getD i [], rfl, SqL.of hra, lcmZ cs cs.length, (cs.getD i []).sum, rfl, rfl, wide_div (by omega) (M.sumb hi) (by decide) (by decide), wv, _, rfl, rfl, wide_mul wb db (by decide) (by decide) (by decide), ?_⟩
        have le2 := sT _ _ le
        refine ⟨.ref m, rfl, .ref a, rfl, m, a, (mixL cs ws (lcmZ cs cs.length) n i).map V.int, (cs.getD i []).map V.int, rfl, SqL.of le2, SqL.of hra, fun D hD => ?_⟩
        have hcl : (cs.getD i []).length = n := M.len _ (M.at hi)
        refine lc_it (walk_zip (n := n) (by rw [List.length_map, List.length_map, mix_len, hcl, Nat.min_self])) (fun s H3 => Same (upd H2 T (.tup [.ref a, .int wv])) H3 ∧ H3 D = some (.lst (((mixL cs ws (lcmZ cs cs.length) n (i + 1)).take s).map V.int)))
          ⟨same_new hD, upd_same⟩ (fun s H3 _ ⟨e3, _⟩ => ⟨SqL.of (e3 _ _ le2), SqL.of (e3 _ _ hra)⟩) (fun s x H3 H4 hs2 ⟨e3, e4⟩ hy => ?_) (fun H3 ⟨e3, e4⟩ => ?_)
        · obtain ⟨T29, x1, x2, rfl, nT2, rfl, hx1, hx2⟩ := hy
          have g1 : ((mixL cs ws (lcmZ cs cs.length) n i).map V.int)[s]? = some (.int (mixN cs ws (lcmZ cs cs.length) s i)) := get_map (mixL_get hs2)
          obtain ⟨g2, g3⟩ := M.cell hi hs2
          obtain rfl := get_of hx1 g1
          obtain rfl := get_of hx2 (get_map g2)
          have s2 : Same H3 (upd H3 T29 (.tup [.int (mixN cs ws (lcmZ cs cs.length) s i), .int ((cs.getD i []).getD s 0)])) := same_new nT2
          refine ⟨T29, _, rfl, SqT.of upd_same, rfl, _, _, rfl, _, _, rfl, rfl, ?_⟩
          refine ⟨rfl, .int (mixN cs ws (lcmZ cs cs.length) s i), rfl, .int (wv * (lcmZ cs cs.length / (cs.getD i []).sum)), rfl, .int ((cs.getD i []).getD s 0), rfl, _, _, rfl, rfl, wide_mul (mul_b wb db) g3 (by decide) (by decide) (by decide), _, _, rfl, rfl, _, s2 _ _ e4, ?_, fun b x hb => ?_, ?_⟩
          · rw [List.length_map, List.length_take, mix_len]
            show min s n < 16777216
            omega
          · rw [upd_ne (ne_of_none hb hD)]
            exact s2 _ _ (e3 b x hb)
          · have hp2 : (mixL cs ws (lcmZ cs cs.length) n (i + 1))[s]? = some (mixN cs ws (lcmZ cs cs.length) s (i + 1)) := mixL_get hs2
            rw [upd_same, List.take_add_one, hp2, List.map_append, ← ew]
            rfl
        · have ef : (mixL cs ws (lcmZ cs cs.length) n (i + 1)).take n = mixL cs ws (lcmZ cs cs.length) n (i + 1) := by
            rw [List.take_of_length_le (by rw [mix_len]; exact Nat.le_refl _)]
          rw [ef] at e4
          exact ⟨_, _, _, D, rfl, e2.trans e3, e4⟩
      · obtain ⟨y3, y5, y6, m, rfl, e, le⟩ := hP
        rw [List.length_map, hpl] at le
        obtain ⟨A1, A2⟩ := M.amtW hC (fun k hk => dvd_lcm _ k hk) (Int.le_trans (lcm_le M cs.length (Nat.le_refl _)) (two_le (by omega)))
        refine ⟨.ref m, rfl, m, _, rfl, le, A1, by rw [mix_len]; omega, gcd_lt A1 (Int.lt_of_lt_of_le A2 (two_le (by decide))), fun p H3 s np lp => ?_⟩
        exact q p H3 (e.trans s) (e.free np) lp

theorem ok_mixed_content {f : Addr} {fd : FuncData}  (F : Fun K "mixed_content" "mixed_content" s_mixed_content f fd) (B : Bl mg) {Ta Tl : Addr} (C_check_contents : Cal P w K mg base 11 "check_contents" ["contents"] (sp_check_contents Ta Tl)) (C_check_weights : Cal P w K mg base 7 "check_weights" ["weights", "count"] (sp_check_weights Ta))  (C_mixture_of : Cal P w K mg base 3 "mixture_of" ["contents", "weights"] sp_mix0) : FnOk P w K mg base CX0 12 f fd ["contents", "weights"] (sp_mixed Ta Tl) := by
  refine F.ok sc_mixed_content (fun vs H Q E h => ?_) (fun cdv A outer s H vs Q E hr h => ?_)
  · obtain ⟨l, wl, ps, cs, ws, n, rfl, _⟩ := h; rfl
  · obtain ⟨l, wl, ps, cs, ws, n, rfl, hp, hw, M, hTa, hTl, q⟩ := h
    have hpl := hp.len
    have c0 := M.c0
    have c8 := M.c8
    have wlen := M.wl
    obtain ⟨a0, ha0, hat0, hr0⟩ := hp.first c0
    have hn0 : (cs.getD 0 []).length = n := M.len _ (M.at c0)
    have hn8 : n ≤ 8 := by rw [← hn0]; exact (M.con _ (M.at c0)).le8
    have hC := lcm_pos M cs.length (Nat.le_refl _)
    have hCb := M.lcmb (i := cs.length) (Nat.le_refl _)
    have nd := sc_mixed_content.nd
    refine ⟨_, (pss_cons (ps_expr (pe_cal C_check_contents (hr.mono (by decide)) (pa_cons (pv 0) pa_nil)))
      (pss_cons (ps_expr (pe_cal C_check_weights (hr.mono (by decide)) (pa_cons (pv 1) (pa_cons (pe_callB call_len_seq (by rfl) B.len PySem.boot_len (pa_cons (pv 0) pa_nil)) pa_nil))))
      (pss_one (ps_ret (pe_cal C_mixture_of (hr.mono (by decide)) (pa_cons (pv 0) (pa_cons (pv 1) pa_nil))))))), ?_⟩
    refine ⟨.ref l, rfl, l, ps, cs, n, rfl, hp, c0, c8, M.con, M.len, hTa, hTl, ?_⟩
    refine ⟨.ref wl, rfl, .ref l, rfl, l, _, rfl, .inl (SqL.of hp.at_), wl, ws, _, rfl, hw, by omega, by omega, M.wamt, by rw [List.length_map]; omega, hTa, ?_⟩
    exact ⟨.ref l, rfl, .ref wl, rfl, l, wl, ps, cs, ws, n, rfl, hp, hw, M, q⟩

end
end K29
end

section
set_option Elab.async false
set_option linter.all false
set_option maxRecDepth 100000
set_option maxHeartbeats 4000000
namespace K29
open PySem PySem.Spec PyProof.Rows L2 GxR Gx Ma
section
variable {P : Program} {w : World} {K : PySem.W.Frag} {mg : Str → Option Value} {base : Heap}

def TQ (H : Hp) (p : Addr) (x : Int × Int) : Prop := H p = some (.tup [.int x.1, .int x.2])
def Bd (x : Int × Int) : Prop := x.1.natAbs < 2 ^ 1800 ∧ x.2.natAbs < 2 ^ 1800 ∧ 0 < x.2
def sp_gap : Sp := fun vs H Q _ => ∃ (p q : Addr) (x y : Int × Int), vs = [V.ref p, V.ref q] ∧ TQ H p x ∧ TQ H q y ∧ Bd x ∧ Bd y ∧ ∀ r H', Same H H' → H r = none → TQ H' r (gapM x y) → Q (.ref r) H'
theorem nat_lt {n : Int} {k : Nat} (h : n.natAbs < 2 ^ k) : n < 2 ^ k := by
  have e : ((2 ^ k : Nat) : Int) = (2 : Int) ^ k := by rw [Int.natCast_pow]; rfl
  omega

theorem ok__law_gap {f : Addr} {fd : FuncData}  (F : Fun K "_law_gap" "_law_gap" s__law_gap f fd) (B : Bl mg) (C__law_part : Cal P w K mg base 2 "_law_part" ["top", "bottom"] sp_lpart) : FnOk P w K mg base CX0 3 f fd ["one", "two"] (sp_gap) := by
  refine F.ok sc__law_gap (fun vs H Q E h => ?_) (fun cdv A outer s H vs Q E hr h => ?_)
  · obtain ⟨p, q, x, y, rfl, _⟩ := h; rfl
  · obtain ⟨p, r, x, y, rfl, hp, hr2, ⟨x1, x2, x3⟩, ⟨y1, y2, y3⟩, q⟩ := h
    have nd := sc__law_gap.nd
    refine ⟨_, (pss_one (ps_ret (pe_cal C__law_part (hr.mono (by decide)) (pa_cons (pe_op op_sub (pe_op op_mulW (pe_ix ix_tup (pv 0) pe_int (fun _ _ => rfl)) (pe_ix ix_tup (pv 1) pe_int (fun _ _ => rfl))) (pe_op op_mulW (pe_ix ix_tup (pv 1) pe_int (fun _ _ => rfl)) (pe_ix ix_tup (pv 0) pe_int (fun _ _ => rfl)))) (pa_cons (pe_op op_mulW (pe_ix ix_tup (pv 0) pe_int (fun _ _ => rfl)) (pe_ix ix_tup (pv 1) pe_int (fun _ _ => rfl))) pa_nil))))), ?_⟩
    refine ⟨.ref p, rfl, p, _, 0, .int x.1, rfl, rfl, SqT.of hp, rfl, .ref r, rfl, r, _, 1, .int y.2, rfl, rfl, SqT.of hr2, rfl, x.1, y.2, rfl, rfl, wide_mul (a := 1800) (b := 1800) x1 y2 (by decide) (by decide) (by decide), ?_⟩
    refine ⟨.ref r, rfl, r, _, 0, .int y.1, rfl, rfl, SqT.of hr2, rfl, .ref p, rfl, p, _, 1, .int x.2, rfl, rfl, SqT.of hp, rfl, y.1, x.2, rfl, rfl, wide_mul (a := 1800) (b := 1800) y1 x2 (by decide) (by decide) (by decide), _, _, rfl, rfl, ?_⟩
    refine ⟨.ref p, rfl, p, _, 1, .int x.2, rfl, rfl, SqT.of hp, rfl, .ref r, rfl, r, _, 1, .int y.2, rfl, rfl, SqT.of hr2, rfl, x.2, y.2, rfl, rfl, wide_mul (a := 1800) (b := 1800) x2 y2 (by decide) (by decide) (by decide), _, _, rfl, Int.mul_pos x3 y3, ?_, fun t H2 s nt ht => q t H2 s nt ht⟩
    have := nat_lt (mul_b x2 y2)
    exact Int.lt_of_lt_of_le this (two_le (by decide))

structure PotsOk (cs : List (List Int)) (k : Nat) : Prop where
  con : ∀ c ∈ cs, Con c ∧ c.length = k ∧ c.sum < 2 ^ 102
def shM (c : List Int) (h : Nat) : Int × Int := frM (c.getD h 0) c.sum
theorem shM_bd {c : List Int} {h B : Nat} (hc : Con c) (hz : c.sum < 2 ^ B) (hB : B ≤ 1800) (hh : h < c.length) : Bd (shM c h) := by
  have hm := getD_memS hh
  have h0 := hc.nn _ hm
  have h1 := le_sum hc.nn hm
  have hs := hc.amt.pos
  have up : (2 : Nat) ^ B ≤ 2 ^ 1800 := Nat.pow_le_pow_right (by decide) hB
  have b1 := abs_lt h0 (Int.lt_of_le_of_lt h1 hz)
  have b2 := abs_lt (Int.le_of_lt hs) hz
  exact ⟨Nat.lt_of_lt_of_le (Nat.lt_of_le_of_lt (Int.natAbs_ediv_le_natAbs _ _) b1) up, Nat.lt_of_lt_of_le (Nat.lt_of_le_of_lt (Int.natAbs_ediv_le_natAbs _ _) b2) up, (frM_cross _ hs).1⟩
def sp_shr (Tc : Addr) : Sp := fun vs H Q _ => ∃ (j l t : Addr) (n : Nat) (ps : List Addr) (cs : List (List Int)) (a b : Int) (k : Nat), vs = [V.ref j, V.ref l, V.ref t] ∧ Jar H j n ∧ n ≤ 900000 ∧ Pots H l ps cs ∧ 2 ≤ cs.length ∧ (∀ c ∈ cs, Con c ∧ c.length = k ∧ c.sum < 2 ^ 102) ∧ (∀ p ∈ ps, p ≠ j) ∧ l ≠ j ∧ H t = some (.tup [.int a, .int b]) ∧ Kep a b ∧ H Tc = some (TabO Tc) ∧
  ∀ H', But j H H' → (∀ x, H' x = none → H x = none) → Jar H' j (n + 2) → Q (.bl true) H'
theorem app_newD {H H' : Hp} {p : Addr} {o : HO} (e : Same H H') (h : H p = none) : Same H (L2.upd H' p o) := fun b x hb => by
  rw [L2.upd_ne (ne_of_none hb h)]
  exact e b x hb
theorem dp_tq {K : PySem.W.Frag} {H : Hp} {t : Addr} {x : Int × Int} (h : TQ H t x) : Dp K H (.ref t) (.tuple [.int x.1, .int x.2]) := .tup (SqT.of h) (.cons (.int x.1) (.cons (.int x.2) .nil))
theorem shp_tq (x : Int × Int) : SeqAt.shaped (.tuple [.int x.1, .int x.2]) = true := by rfl
theorem eqv_tq (x : Int × Int) : PyData.eqv (.tuple [.int x.1, .int x.2]) (.tuple [.int x.1, .int x.2]) = true := SeqAt.eqv_refl _ (by rfl)

theorem ok__law_shrinks {f : Addr} {fd : FuncData}  (F : Fun K "_law_shrinks" "_law_shrinks" s__law_shrinks f fd) (B : Bl mg) {Tc : Addr} (C_share_of : Cal P w K mg base 8 "share_of" ["content", "liquid"] (sp_share_of Tc)) (C_topped : Cal P w K mg base 8 "topped" ["content", "kept", "liquid"] (sp_topped Tc)) (C__law_dip : Cal P w K mg base 1 "_law_dip" ["jar", "many"] sp_dip) (C__law_part : Cal P w K mg base 2 "_law_part" ["top", "bottom"] sp_lpart) (C__law_gap : Cal P w K mg base 3 "_law_gap" ["one", "two"] sp_gap) : FnOk P w K mg base CX0 9 f fd ["jar", "pots_here", "share_here"] (sp_shr Tc) := by
  refine F.ok sc__law_shrinks (fun vs H Q E h => ?_) (fun cdv A outer s H vs Q E hr h => ?_)
  · obtain ⟨j, l, t, n, ps, cs, a, b, k, rfl, _⟩ := h; rfl
  · obtain ⟨j, l, t, n, ps, cs, a, b, k, rfl, hj, hn, hP, h2, hC, hpj, hlj, ht, kp, gT, q⟩ := h
    have nd := sc__law_shrinks.nd
    refine ⟨_, (pss_cons (ps_par (i := 3) (j := 4) (by rfl) nd rfl rfl (by decide) rfl rfl (pa_cons (pe_ix ix_list (pv 1) pe_int (fun _ _ => rfl)) (pa_cons (pe_ix ix_list (pv 1) pe_int (fun _ _ => rfl)) pa_nil)) (by rfl))
      (pss_cons (ps_asg (pe_tup (pa_cons (pe_cal C__law_dip (hr.mono (by decide)) (pa_cons (pv 0) (pa_cons (pe_callB call_len_seq (by rfl) B.len PySem.boot_len (pa_cons (pv 3) pa_nil)) pa_nil))) (pa_cons (pe_cal C__law_dip (hr.mono (by decide)) (pa_cons (pv 0) (pa_cons (pe_callB call_len_seq (by rfl) B.len PySem.boot_len (pa_cons (pv 3) pa_nil)) pa_nil))) pa_nil))) (pg_tup (by rfl) (pgs_cons (pg_name (i := 5) nd rfl (Or.inr rfl)) (pgs_cons (pg_name (i := 6) nd rfl (Or.inr rfl)) pgs_nil))))
      (pss_cons (ps_set (i := 7) nd rfl (Or.inl rfl) (pe_cal C__law_gap (hr.mono (by decide)) (pa_cons (pe_cal C_share_of (hr.mono (by decide)) (pa_cons (pv 3) (pa_cons (pv 6) pa_nil))) (pa_cons (pe_cal C_share_of (hr.mono (by decide)) (pa_cons (pv 4) (pa_cons (pv 6) pa_nil))) pa_nil))))
      (pss_cons (ps_setLc (i := 8) (own := [("pot", 10)]) (g := gName 10) rfl nd rfl rfl (sw_true rfl rfl rfl (by decide +kernel)) (pi_tup (pe_tup (pa_cons (pv 3) (pa_cons (pv 4) pa_nil)))) (blkOk_by (own := [("pot", 10)]) (N := ["jar", "pots_here", "share_here", "one", "two", "spot", "here", "gap", "later", "new_gap", "pot"]) (sc := defScope s__law_shrinks) (by decide +kernel)) (fun _ _ _ _ _ => (pg_name (i := 10) nd rfl (Or.inl rfl))) (fun _ _ _ _ _ => pts_nil) (fun _ _ _ _ _ => (pe_cal C_share_of (hr.mono (by decide)) (pa_cons (pe_cal C_topped (hr.mono (by decide)) (pa_cons (pv 10) (pa_cons (pv 2) (pa_cons (pv 5) pa_nil)))) (pa_cons (pv 6) pa_nil)))))
      (pss_cons (ps_set (i := 9) nd rfl (Or.inl rfl) (pe_cal C__law_gap (hr.mono (by decide)) (pa_cons (pe_ix ix_list (pv 8) pe_int (fun _ _ => rfl)) (pa_cons (pe_ix ix_list (pv 8) pe_int (fun _ _ => rfl)) pa_nil))))
      (pss_one (ps_ret (pe_cmpR (op_eqD hr.units) (pv 9) (pe_cal C__law_part (hr.mono (by decide)) (pa_cons (pe_op op_mulW (pe_ix ix_tup (pv 7) pe_int (fun _ _ => rfl)) (pe_ix ix_tup (pv 2) pe_int (fun _ _ => rfl))) (pa_cons (pe_op op_mulW (pe_ix ix_tup (pv 7) pe_int (fun _ _ => rfl)) (pe_ix ix_tup (pv 2) pe_int (fun _ _ => rfl))) pa_nil))) (nomark _))))))))), ?_⟩
    have hpl := hP.len
    obtain ⟨p0, e0⟩ : ∃ p0, ps[0]? = some p0 := ⟨_, List.getElem?_eq_getElem (by omega)⟩
    obtain ⟨p1, e1⟩ : ∃ p1, ps[1]? = some p1 := ⟨_, List.getElem?_eq_getElem (by omega)⟩
    have m0 : atI (ps.map V.ref) 0 = some (.ref p0) := atI_nat (j := 0) (by rw [List.getElem?_map, e0]; rfl)
    have m1 : atI (ps.map V.ref) 1 = some (.ref p1) := atI_nat (j := 1) (by rw [List.getElem?_map, e1]; rfl)
    have r0 := hP.row 0 _ e0
    have r1 := hP.row 1 _ e1
    have c0 := hC _ (cat (cs := cs) (i := 0) (by omega))
    have c1 := hC _ (cat (cs := cs) (i := 1) (by omega))
    have pj0 := hpj _ (List.mem_of_getElem? e0)
    have pj1 := hpj _ (List.mem_of_getElem? e1)
    generalize cs.getD 0 [] = x at *
    generalize cs.getD 1 [] = y at *
    obtain ⟨x1, x2, x3⟩ := c0
    obtain ⟨y1, y2, y3⟩ := c1
    have hat := hP.at_
    have xl := x1.len
    have htj : t ≠ j := hj.tupne ht
    refine ⟨.ref l, rfl, l, _, 0, .ref p0, rfl, rfl, SqL.of hat, m0, .ref l, rfl, l, _, 1, .ref p1, rfl, rfl, SqL.of hat, m1, _, _, rfl, ?_⟩
    refine ⟨.ref j, rfl, .ref p0, rfl, p0, _, rfl, .inl (SqL.of r0), j, ((x.map V.int).length : Int), n, rfl, hj, by omega, by rw [List.length_map]; omega, by rw [List.length_map, x2]; exact small8000 (Int.lt_of_le_of_lt (show (k : Int) ≤ 8 by have := x1.le8; omega) (by decide +kernel)), fun d H1 b1 f1 j1 u0 u1 => ?_⟩
    have s0 := b1 _ _ pj0 r0
    refine ⟨.ref j, rfl, .ref p0, rfl, p0, _, rfl, .inl (SqL.of s0), j, ((x.map V.int).length : Int), n + 1, rfl, j1, by omega, by rw [List.length_map]; omega, by rw [List.length_map, x2]; exact small8000 (Int.lt_of_le_of_lt (show (k : Int) ≤ 8 by have := x1.le8; omega) (by decide +kernel)), fun e H2 b2 f2 j2 v0 v1 => ⟨by show 2 ≤ 16777216; decide, fun S nS => ?_⟩⟩
    rw [List.length_map] at u1 v1
    have sS := sameN (o := .tup [.int d, .int e]) nS
    have hS : L2.upd H2 S (.tup [.int d, .int e]) S = some (.tup [.int d, .int e]) := upd_same
    have B02 := (b1.trans b2).trans (But.of (j := j) sS)
    have jS := j2.keep sS
    have f02 : ∀ z, L2.upd H2 S (.tup [.int d, .int e]) z = none → H z = none := fun z h => f1 z (f2 z (sS.free h))
    generalize L2.upd H2 S (.tup [.int d, .int e]) = H2 at *
    refine ⟨S, [_, _], rfl, SqT.of hS, rfl, _, _, rfl, _, _, rfl, rfl, ?_⟩
    obtain ⟨dn, rfl⟩ := Int.eq_ofNat_of_zero_le u0
    obtain ⟨en, rfl⟩ := Int.eq_ofNat_of_zero_le v0
    have q0 : LI H2 p0 x := B02 _ _ pj0 r0
    have q1 : LI H2 p1 y := B02 _ _ pj1 r1
    have qt := B02 _ _ htj ht
    have qT := B02 _ _ (hj.tab gT) gT
    have hdx : dn < x.length := by omega
    have hex : en < x.length := by omega
    have hdy : dn < y.length := by omega
    have hey : en < y.length := by omega
    have up8 : (2 : Int) ^ 102 ≤ 2 ^ 8000 := two_le (by decide)
    clear r0 r1 s0
    refine ⟨.ref p0, rfl, .int (en : Int), rfl, p0, x, x.getD en 0, (en : Int), rfl, q0, x1, by omega, by omega, getD_atS hex, qT, fun a0 H3 s3 n3 e3 => ?_⟩
    refine ⟨.ref p1, rfl, .int (en : Int), rfl, p1, y, y.getD en 0, (en : Int), rfl, s3 _ _ q1, y1, by omega, by omega, getD_atS hey, s3 _ _ qT, fun a1 H4 s4 n4 e4 => ?_⟩
    have Bx := shM_bd (h := en) x1 x3 (by decide) hex
    have By := shM_bd (h := en) y1 y3 (by decide) hey
    refine ⟨a0, a1, shM x en, shM y en, rfl, s4 _ _ e3, e4, Bx, By, fun g0 H5 s5 n5 e5 => ?_⟩
    have s25 := (s3.trans s4).trans s5
    refine ⟨.ref p0, rfl, .ref p1, rfl, by show 2 ≤ 16777216; decide, fun T nT => ?_⟩
    have s6 := sameN (o := .tup [.ref p0, .ref p1]) nT
    have hT : L2.upd H5 T (.tup [.ref p0, .ref p1]) T = some (.tup [.ref p0, .ref p1]) := upd_same
    have e6 := s6 _ _ e5
    generalize L2.upd H5 T (.tup [.ref p0, .ref p1]) = H6 at *
    have s26 := s25.trans s6
    refine ⟨T, rfl, ⟨_, SqT.of hT⟩, fun D hD => ?_⟩
    refine lc_tup (xs := [.ref p0, .ref p1]) (fun i H' => ∃ rs : List Addr, rs.length = i ∧ Same H6 H' ∧ H' D = some (.lst (rs.map V.ref)) ∧ ∀ (m : Nat) (r : Addr), rs[m]? = some r → TQ H' r (shM (step (if m = 0 then x else y) a b dn) en)) ⟨[], rfl, sameN hD, upd_same, fun m r h => by simp at h⟩ (fun i H' _ ⟨rs, _, s, _⟩ => SqT.of (s _ _ hT)) (fun i z H' hz ⟨rs, l1, s, hd, hr3⟩ => ?_) (fun H7 ⟨rs, l1, s7, hd, hr3⟩ => ?_)
    · obtain ⟨p, c, rfl, hp2, cc, cz, cd, ce, ceq⟩ : ∃ (p : Addr) (c : List Int), z = .ref p ∧ LI H2 p c ∧ Con c ∧ c.sum < 2 ^ 102 ∧ dn < c.length ∧ en < c.length ∧ c = (if i = 0 then x else y) := by
        match i, hz with
        | 0, hz => exact ⟨p0, x, (Option.some.inj hz).symm, q0, x1, x3, hdx, hex, rfl⟩
        | 1, hz => exact ⟨p1, y, (Option.some.inj hz).symm, q1, y1, y3, hdy, hey, rfl⟩
        | n + 2, hz => cases hz
      have hi2 : i < 2 := (List.getElem?_eq_some_iff.mp hz).1
      have sc := step_con cc kp cd
      have ss := step_sum cc kp cd
      have c102 : (100 : Int) * 2 ^ 102 < 2 ^ 120 := by decide +kernel
      have s2 := s26.trans s
      refine ⟨rfl, .ref p, rfl, .ref t, rfl, .int (dn : Int), rfl, p, t, c, a, b, dn, rfl, s2 _ _ hp2, cc, s2 _ _ qt, kp, cd, Int.lt_of_lt_of_le cz (two_le (by decide)), s2 _ _ qT, fun p2 H8 s8 n8 l8 => ?_⟩
      have el : en < (step c a b dn).length := by rw [step_len]; exact ce
      have s28 := s2.trans s8
      refine ⟨.int (en : Int), rfl, p2, step c a b dn, (step c a b dn).getD en 0, (en : Int), rfl, l8, sc, Int.lt_of_lt_of_le (show _ < (2 : Int) ^ 120 by omega) (two_le (by decide)), by omega, getD_atS el, s28 _ _ qT, fun r H9 s9 n9 e9 => ⟨_, s9 _ _ (s8 _ _ hd), ?_, rs ++ [r], ?_, ?_, ?_, ?_⟩⟩
      · rw [List.length_map, l1]
        show i < 16777216
        omega
      · rw [List.length_append, l1]
        rfl
      · exact app_newD ((s.trans s8).trans s9) hD
      · rw [upd_same, List.map_append]
        rfl
      · intro m u hm
        have uD : u ≠ D := fun z => by
          by_cases h1 : m < rs.length
          · rw [List.getElem?_append_left h1] at hm
            have h2 := hr3 m u hm
            unfold TQ at h2
            rw [z, hd] at h2
            cases h2
          · have hm2 := (List.getElem?_eq_some_iff.mp hm).1
            rw [List.length_append, List.length_singleton] at hm2
            obtain rfl : m = rs.length := by omega
            rw [List.getElem?_append_right (Nat.le_refl _), Nat.sub_self] at hm
            cases hm
            have := (s9 _ _ (s8 _ _ hd))
            rw [← z, e9] at this
            cases this
        show L2.upd H9 D _ u = _
        rw [upd_ne uD]
        by_cases h1 : m < rs.length
        · rw [List.getElem?_append_left h1] at hm
          exact s9 _ _ (s8 _ _ (hr3 m u hm))
        · have hm2 := (List.getElem?_eq_some_iff.mp hm).1
          rw [List.length_append, List.length_singleton] at hm2
          obtain rfl : m = rs.length := by omega
          rw [List.getElem?_append_right (Nat.le_refl _), Nat.sub_self] at hm
          cases hm
          rw [l1, ← ceq]
          exact e9
    · have hl2 : rs.length = 2 := l1
      obtain ⟨r0, w0⟩ : ∃ r0, rs[0]? = some r0 := ⟨_, List.getElem?_eq_getElem (by omega)⟩
      obtain ⟨r1, w1⟩ : ∃ r1, rs[1]? = some r1 := ⟨_, List.getElem?_eq_getElem (by omega)⟩
      have v0' : atI (rs.map V.ref) 0 = some (.ref r0) := atI_nat (j := 0) (by rw [List.getElem?_map, w0]; rfl)
      have v1' : atI (rs.map V.ref) 1 = some (.ref r1) := atI_nat (j := 1) (by rw [List.getElem?_map, w1]; rfl)
      have z0 : TQ H7 r0 (shM (step x a b dn) en) := hr3 0 _ w0
      have z1 : TQ H7 r1 (shM (step y a b dn) en) := hr3 1 _ w1
      have c102 : (100 : Int) * 2 ^ 102 < 2 ^ 120 := by decide +kernel
      have sx := step_sum x1 kp hdx
      have sy := step_sum y1 kp hdy
      have Bx' := shM_bd (h := en) (B := 120) (step_con x1 kp hdx) (by omega) (by decide) (by rw [step_len]; exact hex)
      have By' := shM_bd (h := en) (B := 120) (step_con y1 kp hdy) (by omega) (by decide) (by rw [step_len]; exact hey)
      refine ⟨.ref D, rfl, D, _, 0, .ref r0, rfl, rfl, SqL.of hd, v0', .ref D, rfl, D, _, 1, .ref r1, rfl, rfl, SqL.of hd, v1', r0, r1, _, _, rfl, z0, z1, Bx', By', fun g1 H8 s8 n8 e8 => ?_⟩
      have e58 : TQ H8 g0 (gapM (shM x en) (shM y en)) := s8 _ _ (s7 _ _ e6)
      have t8 := (s26.trans (s7.trans s8)) _ _ qt
      have hk1 := kp.a1
      have hk2 := kp.ab
      have hk3 := kp.b100
      have G : gapM (shM (step x a b dn) en) (shM (step y a b dn) en) = frM ((gapM (shM x en) (shM y en)).1 * a) ((gapM (shM x en) (shM y en)).2 * b) := gap_step (h := en) x1 y1 kp hdx hdy hex hey
      have gb : (gapM (shM x en) (shM y en)).1.natAbs < 2 ^ 3700 ∧ (gapM (shM x en) (shM y en)).2.natAbs < 2 ^ 3700 ∧ 0 < (gapM (shM x en) (shM y en)).2 := by
        obtain ⟨b1, b2, b3⟩ := Bx
        obtain ⟨b4, b5, b6⟩ := By
        have m1 := mul_b b1 b5
        have m2 := mul_b b4 b2
        have m3 := mul_b b2 b5
        have up : (2 : Nat) ^ (1800 + 1800) + 2 ^ (1800 + 1800) ≤ 2 ^ 3700 := by decide +kernel
        have hp := Int.mul_pos b3 b6
        refine ⟨Nat.lt_of_le_of_lt (Int.natAbs_ediv_le_natAbs _ _) (by omega), Nat.lt_of_le_of_lt (Int.natAbs_ediv_le_natAbs _ _) (by omega), (frM_cross _ hp).1⟩
      generalize gapM (shM x en) (shM y en) = gp at *
      obtain ⟨ga, gb2, gc⟩ := gb
      refine ⟨.ref g1, rfl, .ref g0, rfl, g0, _, 0, .int gp.1, rfl, rfl, SqT.of e58, rfl, .ref t, rfl, t, _, 0, .int a, rfl, rfl, SqT.of t8, rfl, gp.1, a, rfl, rfl, wide_mul (a := 3700) (b := 7) ga (by omega) (by decide) (by decide) (by decide), ?_⟩
      refine ⟨.ref g0, rfl, g0, _, 1, .int gp.2, rfl, rfl, SqT.of e58, rfl, .ref t, rfl, t, _, 1, .int b, rfl, rfl, SqT.of t8, rfl, gp.2, b, rfl, rfl, wide_mul (a := 3700) (b := 7) gb2 (by omega) (by decide) (by decide) (by decide), _, _, rfl, Int.mul_pos gc (by omega), ?_, fun u H9 s9 n9 e9 => ?_⟩
      · exact Int.lt_of_lt_of_le (nat_lt (mul_b (j := 3700) (k := 7) gb2 (by omega))) (two_le (by decide))
      have e89 : TQ H9 g1 (gapM (shM (step x a b dn) en) (shM (step y a b dn) en)) := s9 _ _ e8
      rw [G] at e89
      have e99 : TQ H9 u (frM (gp.1 * a) (gp.2 * b)) := e9
      refine ⟨_, _, dp_tq e89, dp_tq e99, shp_tq _, shp_tq _, ?_⟩
      rw [eqv_tq]
      have sAll := ((s26.trans s7).trans s8).trans s9
      exact q H9 (B02.trans (But.of sAll)) (fun z h => f02 z (sAll.free h)) ((jS.keep sAll).le (by omega))

end
end K29
end

section
set_option Elab.async false
set_option linter.all false
set_option maxRecDepth 100000
set_option maxHeartbeats 4000000
namespace K29
open PySem PySem.Spec PyProof.Rows L2 GxR Gx Ma
section
variable {P : Program} {w : World} {K : PySem.W.Frag} {mg : Str → Option Value} {base : Heap}

/-- i contents filled out of the jar j into the list D -/
structure Pot1 (H H' : Hp) (j D : Addr) (n k i : Nat) (ps : List Addr) (cs : List (List Int)) : Prop where
  pots : Pots H' D ps cs
  pl : ps.length = i
  con : ∀ c ∈ cs, Con c ∧ c.length = k ∧ c.sum < 2 ^ 102
  ne : ∀ a ∈ ps, a ≠ j ∧ a ≠ D
  but : But j H H'
  jar : Jar H' j (n + 100 * i)
theorem getD_app {cs ms : List (List Int)} {m : Nat} (h : m < cs.length) : (cs ++ ms).getD m [] = cs.getD m [] := by
  rw [List.getD_eq_getElem?_getD, List.getD_eq_getElem?_getD, List.getElem?_append_left h]
theorem getD_end {cs : List (List Int)} {q : List Int} {m : Nat} (h : m = cs.length) : (cs ++ [q]).getD m [] = q := by
  subst h
  rw [List.getD_eq_getElem?_getD, List.getElem?_append_right (Nat.le_refl _), Nat.sub_self]
  rfl
theorem Pot1.next {H H' H2 : Hp} {j D p : Addr} {n k i : Nat} {ps : List Addr} {cs : List (List Int)} {ns : List Int} (S : Pot1 H H' j D n k i ps cs) (nD : H D = none) (dj : D ≠ j) (b2 : But j H' H2) (np : H' p = none) (j2 : Jar H2 j (n + 100 * i + 100)) (lp : LI H2 p ns) (hc : Con ns ∧ ns.length = k ∧ ns.sum < 2 ^ 102) :
    Pot1 H (L2.upd H2 D (.lst (ps.map V.ref ++ [.ref p]))) j D n k (i + 1) (ps ++ [p]) (cs ++ [ns]) := by
  have pj : p ≠ j := S.jar.ne np
  have pD : p ≠ D := fun z => by rw [z, S.pots.at_] at np; cases np
  refine ⟨⟨by rw [upd_same, List.map_append]; rfl, by rw [List.length_append, List.length_append, S.pots.len]; rfl, fun m a ha => ?_⟩, by rw [List.length_append, S.pl]; rfl, fun c hm => ?_, fun a ha => ?_, (S.but.trans b2).fresh nD, ?_⟩
  · by_cases hm : m < ps.length
    · rw [List.getElem?_append_left hm] at ha
      rw [getD_app (by rw [← S.pots.len]; exact hm)]
      obtain ⟨a1, a2⟩ := S.ne a (List.mem_of_getElem? ha)
      show L2.upd H2 D _ a = _
      rw [upd_ne a2]
      exact b2 a _ a1 (S.pots.row m a ha)
    · have hm2 := (List.getElem?_eq_some_iff.mp ha).1
      rw [List.length_append, List.length_singleton] at hm2
      have e : m = ps.length := by omega
      rw [getD_end (by rw [← S.pots.len]; exact e)]
      subst e
      rw [List.getElem?_append_right (Nat.le_refl _), Nat.sub_self] at ha
      cases ha
      show L2.upd H2 D _ p = _
      rw [upd_ne pD]
      exact lp
  · rcases List.mem_append.mp hm with y | y
    · exact S.con c y
    · rw [List.mem_singleton.mp y]
      exact hc
  · rcases List.mem_append.mp ha with y | y
    · exact S.ne a y
    · rw [List.mem_singleton.mp y]
      exact ⟨pj, pD⟩
  · obtain ⟨x1, x2, x3, y1, y2, y3, y4, y5, y6⟩ := j2
    exact ⟨x1, x2, x3, by rw [upd_ne dj.symm]; exact y1, y2, y3, y4, y5, by omega⟩

structure Shs (H H' : Hp) (j D : Addr) (n i : Nat) (ts : List Addr) (ks : List (Int × Int)) : Prop where
  tl : ts.length = i
  kl : ks.length = i
  tup : ∀ m t, ts[m]? = some t → H' t = some (.tup [.int (ks.getD m (1, 2)).1, .int (ks.getD m (1, 2)).2])
  kep : ∀ q ∈ ks, Kep q.1 q.2
  but : But j H H'
  jar : Jar H' j (n + 4 * i)
  at_ : H' D = some (.lst (ts.map V.ref))
theorem getD_lt {ks ms : List (Int × Int)} {m : Nat} (h : m < ks.length) : (ks ++ ms).getD m (1, 2) = ks.getD m (1, 2) := by
  rw [List.getD_eq_getElem?_getD, List.getD_eq_getElem?_getD, List.getElem?_append_left h]
theorem getD_eq {ks : List (Int × Int)} {q : Int × Int} {m : Nat} (h : m = ks.length) : (ks ++ [q]).getD m (1, 2) = q := by
  subst h
  rw [List.getD_eq_getElem?_getD, List.getElem?_append_right (Nat.le_refl _), Nat.sub_self]
  rfl
theorem Shs.next {H H' H2 : Hp} {j D t : Addr} {n i : Nat} {ts : List Addr} {ks : List (Int × Int)} {a b : Int} (S : Shs H H' j D n i ts ks) (nD : H D = none) (dj : D ≠ j) (b2 : But j H' H2) (nt : H' t = none) (j2 : Jar H2 j (n + 4 * i + 4)) (ht : H2 t = some (.tup [.int a, .int b])) (kp : Kep a b) :
    Shs H (L2.upd H2 D (.lst (ts.map V.ref ++ [.ref t]))) j D n (i + 1) (ts ++ [t]) (ks ++ [(a, b)]) := by
  have D2 := b2 D _ dj S.at_
  have tD : ∀ u xs, H2 u = some (.tup xs) → u ≠ D := fun u xs h z => by
    rw [z, D2] at h
    cases h
  refine ⟨by rw [List.length_append, S.tl]; rfl, by rw [List.length_append, S.kl]; rfl, fun m u hu => ?_, fun q hq => ?_, (S.but.trans b2).fresh nD, ?_, ?_⟩
  · by_cases hm : m < ts.length
    · rw [List.getElem?_append_left hm] at hu
      rw [getD_lt (by rw [S.kl, ← S.tl]; exact hm)]
      have h1 := S.tup m u hu
      have h2 := b2 u _ (S.jar.tupne h1) h1
      rw [upd_ne (tD u _ h2)]
      exact h2
    · have hm2 := (List.getElem?_eq_some_iff.mp hu).1
      rw [List.length_append, List.length_singleton] at hm2
      have e : m = ts.length := by omega
      rw [getD_eq (by rw [S.kl, ← S.tl]; exact e)]
      subst e
      rw [List.getElem?_append_right (Nat.le_refl _), Nat.sub_self] at hu
      cases hu
      rw [upd_ne (tD t _ ht)]
      exact ht
  · rcases List.mem_append.mp hq with y | y
    · exact S.kep q y
    · rw [List.mem_singleton.mp y]
      exact kp
  · obtain ⟨x1, x2, x3, y1, y2, y3, y4, y5, y6⟩ := j2
    exact ⟨x1, x2, x3, by rw [upd_ne dj.symm]; exact y1, y2, y3, y4, y5, by omega⟩
  · rw [upd_same, List.map_append]
    rfl
theorem Shs.keeps {H H' : Hp} {j D : Addr} {n i : Nat} {ts : List Addr} {ks : List (Int × Int)} (S : Shs H H' j D n i ts ks) : Keeps H' D ts ks := ⟨S.at_, by rw [S.tl, S.kl], S.tup⟩

def mixC (cs : List (List Int)) (ws : List Int) (n : Nat) : List Int := Ma.plain (mixL cs ws (lcmZ cs cs.length) n cs.length)
theorem mix_map {cs : List (List Int)} {ws : List Int} {n : Nat} {ks : List (Int × Int)} {rs : List Nat} (M : Mix cs ws n) (hz : ∀ c ∈ cs, c.sum < 2 ^ 102) (hl : ks.length = rs.length) (h60 : rs.length ≤ 60) (hk : ∀ q ∈ ks, Kep q.1 q.2) (hr2 : ∀ c ∈ rs, c < n) (i : Nat) (hi : i ≤ rs.length) : Mix (cs.map fun c => ctn c ks rs i) ws n := by
  have R : ∀ c ∈ cs, Rowy c ks rs := fun c hc => ⟨M.con c hc, hl, h60, hk, fun x hx => by rw [M.len c hc]; exact hr2 x hx⟩
  refine ⟨by rw [List.length_map]; exact M.c0, by rw [List.length_map]; exact M.c8, by rw [List.length_map]; exact M.wl, fun c hc => ?_, fun c hc => ?_, fun c hc => ?_, M.w0, M.wp⟩
  all_goals obtain ⟨d, hd, rfl⟩ := List.mem_map.mp hc
  · exact ctn_con (R d hd) i hi
  · rw [ctn_len]; exact M.len d hd
  · exact Int.lt_of_lt_of_le (ctn_small (R d hd) i hi (hz d hd)) (two_le (by decide))
theorem lcm_map_pos {cs : List (List Int)} {ws : List Int} {n : Nat} (M : Mix cs ws n) : 0 < lcmZ cs cs.length := lcm_pos M _ (Nat.le_refl _)
theorem mix_ctn {cs : List (List Int)} {ws : List Int} {n : Nat} {ks : List (Int × Int)} {rs : List Nat} (M : Mix cs ws n) (hz : ∀ c ∈ cs, c.sum < 2 ^ 102) (hl : ks.length = rs.length) (h60 : rs.length ≤ 60) (hk : ∀ q ∈ ks, Kep q.1 q.2) (hr2 : ∀ c ∈ rs, c < n) (h8 : n ≤ 8) :
    ∀ i, i ≤ rs.length → ctn (mixC cs ws n) ks rs i = mixC (cs.map fun c => ctn c ks rs i) ws n
  | 0, _ => by
    show mixC cs ws n = mixC (cs.map fun c => c) ws n
    rw [List.map_id']
  | i + 1, hi => by
    have ih := mix_ctn M hz hl h60 hk hr2 h8 i (by omega)
    have Mi := mix_map M hz hl h60 hk hr2 i (by omega)
    have Mj := mix_map M hz hl h60 hk hr2 (i + 1) hi
    have e : (cs.map fun c => ctn c ks rs (i + 1)) = (cs.map fun c => ctn c ks rs i).map fun x => step x (ks.getD i (1, 2)).1 (ks.getD i (1, 2)).2 (rs.getD i 0) := by
      rw [List.map_map]
      rfl
    have hki : Kep (ks.getD i (1, 2)).1 (ks.getD i (1, 2)).2 := hk _ (getD_mem (by omega))
    have hri : rs.getD i 0 < n := hr2 _ (getD_mem (by omega))
    show step (ctn (mixC cs ws n) ks rs i) _ _ _ = _
    rw [ih, e]
    rw [e] at Mj
    have d2 : ∀ m, m < (cs.map fun c => ctn c ks rs i).length → (step ((cs.map fun c => ctn c ks rs i).getD m []) (ks.getD i (1, 2)).1 (ks.getD i (1, 2)).2 (rs.getD i 0)).sum ∣ lcmZ ((cs.map fun c => ctn c ks rs i).map fun x => step x (ks.getD i (1, 2)).1 (ks.getD i (1, 2)).2 (rs.getD i 0)) ((cs.map fun c => ctn c ks rs i).map fun x => step x (ks.getD i (1, 2)).1 (ks.getD i (1, 2)).2 (rs.getD i 0)).length := fun m hm => by
      have := dvd_lcm (cs := (cs.map fun c => ctn c ks rs i).map fun x => step x (ks.getD i (1, 2)).1 (ks.getD i (1, 2)).2 (rs.getD i 0)) ((cs.map fun c => ctn c ks rs i).map fun x => step x (ks.getD i (1, 2)).1 (ks.getD i (1, 2)).2 (rs.getD i 0)).length m (by rw [List.length_map]; exact hm)
      rw [List.getD_eq_getElem?_getD, List.getElem?_map, List.getElem?_eq_getElem hm] at this
      rw [List.getD_eq_getElem?_getD, List.getElem?_eq_getElem hm]
      exact this
    have s := step_mix Mi Mj hki hri h8 (lcm_map_pos Mi) (lcm_map_pos Mj) (fun m hm => dvd_lcm _ m hm) d2
    unfold mixC
    rw [s]
    congr 2
    simp only [List.length_map]
theorem mixC_con {cs : List (List Int)} {ws : List Int} {n : Nat} (M : Mix cs ws n) (h1 : 0 < n) (h8 : n ≤ 8) : Con (mixC cs ws n) ∧ (mixC cs ws n).length = n ∧ (mixC cs ws n).sum < 2 ^ 4500 := by
  obtain ⟨A1, A2⟩ := M.amtW (lcm_map_pos M) (fun k hk => dvd_lcm _ k hk) (Int.le_trans (lcm_le M cs.length (Nat.le_refl _)) (two_le (by have := M.c8; omega)))
  exact ⟨plain_con A1 (by rw [mix_len]; exact h1) (by rw [mix_len]; exact h8), by unfold mixC; rw [Ma.plain_len, mix_len], Int.lt_of_le_of_lt (plain_sum_le A1) A2⟩
/-- contents made one after another into the list D -/
structure Lat (Hb H' : Hp) (D : Addr) (i : Nat) (qs : List Addr) (v : Nat → List Int) : Prop where
  len : qs.length = i
  same : Same Hb H'
  at_ : H' D = some (.lst (qs.map V.ref))
  row : ∀ m q, qs[m]? = some q → LI H' q (v m)
theorem Lat.zero {Hb : Hp} {D : Addr} {v : Nat → List Int} (h : Hb D = none) : Lat Hb (L2.upd Hb D (.lst [])) D 0 [] v := ⟨rfl, sameN h, upd_same, fun m q h => by simp at h⟩
theorem Lat.next {Hb H' H2 : Hp} {D p : Addr} {i : Nat} {qs : List Addr} {v : Nat → List Int} (S : Lat Hb H' D i qs v) (nD : Hb D = none) (s2 : Same H' H2) (np : H' p = none) (lp : LI H2 p (v i)) : Lat Hb (L2.upd H2 D (.lst (qs.map V.ref ++ [.ref p]))) D (i + 1) (qs ++ [p]) v := by
  have pD : p ≠ D := fun z => by rw [z, S.at_] at np; cases np
  refine ⟨by rw [List.length_append, S.len]; rfl, app_newD (S.same.trans s2) nD, by rw [upd_same, List.map_append]; rfl, fun m q hm => ?_⟩
  by_cases h1 : m < qs.length
  · rw [List.getElem?_append_left h1] at hm
    have hq := S.row m q hm
    have qD : q ≠ D := fun z => by
      have h2 : H' q = some (.lst ((v m).map V.int)) := hq
      rw [z, S.at_] at h2
      have h3 := List.mem_of_getElem? hm
      cases qs with
      | nil => cases h3
      | cons x r =>
        cases hv : v m with
        | nil => rw [hv] at h2; cases h2
        | cons y s => rw [hv] at h2; cases h2
    show L2.upd H2 D _ q = _
    rw [upd_ne qD]
    exact s2 _ _ hq
  · have hm2 := (List.getElem?_eq_some_iff.mp hm).1
    rw [List.length_append, List.length_singleton] at hm2
    obtain rfl : m = qs.length := by omega
    rw [List.getElem?_append_right (Nat.le_refl _), Nat.sub_self] at hm
    cases hm
    show L2.upd H2 D _ p = _
    rw [upd_ne pD, S.len]
    exact lp
theorem Lat.pots {Hb H' : Hp} {D : Addr} {qs : List Addr} {cs : List (List Int)} {f : List Int → List Int} (S : Lat Hb H' D cs.length qs fun m => f (cs.getD m [])) : Pots H' D qs (cs.map f) := by
  refine ⟨S.at_, by rw [S.len, List.length_map], fun i a ha => ?_⟩
  have hi := (List.getElem?_eq_some_iff.mp ha).1
  rw [S.len] at hi
  have e : (cs.map f).getD i [] = f (cs.getD i []) := by
    rw [List.getD_eq_getElem?_getD, List.getD_eq_getElem?_getD, List.getElem?_map, List.getElem?_eq_getElem hi]
    rfl
  rw [e]
  exact S.row i a ha
theorem Pots.but {H H' : Hp} {j D : Addr} {ps : List Addr} {cs : List (List Int)} (h : Pots H D ps cs) (e : But j H H') (hD : D ≠ j) (hp : ∀ a ∈ ps, a ≠ j) : Pots H' D ps cs :=
  ⟨e _ _ hD h.at_, h.len, fun i a ha => e _ _ (hp a (List.mem_of_getElem? ha)) (h.row i a ha)⟩

end
end K29
end

section
set_option Elab.async false
set_option linter.all false
set_option maxRecDepth 100000
set_option maxHeartbeats 4000000
namespace K29
open PySem PySem.Spec PyProof.Rows L2 GxR Gx Ma
section
variable {P : Program} {w : World} {K : PySem.W.Frag} {mg : Str → Option Value} {base : Heap}

theorem pre_sumN (f : Nat → Int) : ∀ n, preSum f n = sumN f n
  | 0 => rfl
  | n + 1 => by show preSum f n + f n = sumN f n + f n; rw [pre_sumN f n]
theorem dot_eq (ns ss : List Int) : dotZ ns ss = dotM ns ss := pre_sumN _ _
theorem dot_le {c ss : List Int} (hn : ∀ s, 0 ≤ c.getD s 0) (hs : ∀ s, -(2 : Int) ^ 100 ≤ ss.getD s 0 ∧ ss.getD s 0 ≤ 2 ^ 100) : ∀ m, -(sumN (fun s => c.getD s 0) m * 2 ^ 100) ≤ sumN (fun s => c.getD s 0 * ss.getD s 0) m ∧ sumN (fun s => c.getD s 0 * ss.getD s 0) m ≤ sumN (fun s => c.getD s 0) m * 2 ^ 100
  | 0 => by simp [sumN]
  | m + 1 => by
    obtain ⟨h1, h2⟩ := dot_le hn hs m
    obtain ⟨h3, h4⟩ := hs m
    have a1 : c.getD m 0 * -(2 : Int) ^ 100 ≤ c.getD m 0 * ss.getD m 0 := Int.mul_le_mul_of_nonneg_left h3 (hn m)
    have a2 : c.getD m 0 * ss.getD m 0 ≤ c.getD m 0 * (2 : Int) ^ 100 := Int.mul_le_mul_of_nonneg_left h4 (hn m)
    rw [Int.mul_neg] at a1
    show -((sumN (fun s => c.getD s 0) m + c.getD m 0) * 2 ^ 100) ≤ sumN (fun s => c.getD s 0 * ss.getD s 0) m + c.getD m 0 * ss.getD m 0 ∧ sumN (fun s => c.getD s 0 * ss.getD s 0) m + c.getD m 0 * ss.getD m 0 ≤ (sumN (fun s => c.getD s 0) m + c.getD m 0) * 2 ^ 100
    rw [Int.add_mul]
    omega
theorem getD_nn {c : List Int} (h : ∀ n ∈ c, 0 ≤ n) (s : Nat) : 0 ≤ c.getD s 0 := by
  rw [List.getD_eq_getElem?_getD]
  cases e : c[s]? with
  | none => exact Int.le_refl _
  | some x => exact h x (List.mem_of_getElem? e)
theorem getD_bd {ss : List Int} (h : ∀ n ∈ ss, n.natAbs < 2 ^ 100) (s : Nat) : -(2 : Int) ^ 100 ≤ ss.getD s 0 ∧ ss.getD s 0 ≤ 2 ^ 100 := by
  have e3 : ((2 ^ 100 : Nat) : Int) = (2 : Int) ^ 100 := by decide +kernel
  have e4 : (0 : Int) < 2 ^ 100 := by decide +kernel
  rw [List.getD_eq_getElem?_getD]
  cases e : ss[s]? with
  | none => show -(2 : Int) ^ 100 ≤ 0 ∧ (0 : Int) ≤ 2 ^ 100; omega
  | some x =>
    have := h x (List.mem_of_getElem? e)
    show -(2 : Int) ^ 100 ≤ x ∧ x ≤ 2 ^ 100
    omega
theorem dotM_bd {c ss : List Int} (hc : Con c) (hz : c.sum < 2 ^ 102) (hs : ∀ x ∈ ss, x.natAbs < 2 ^ 100) : (dotM c ss).natAbs < 2 ^ 203 := by
  obtain ⟨h1, h2⟩ := dot_le (getD_nn hc.nn) (getD_bd hs) c.length
  rw [sumN_list] at h1 h2
  have h3 : c.sum * 2 ^ 100 ≤ 2 ^ 102 * 2 ^ 100 := Int.mul_le_mul_of_nonneg_right (Int.le_of_lt hz) (by decide +kernel)
  have h4 : (2 : Int) ^ 102 * 2 ^ 100 < ((2 ^ 203 : Nat) : Int) := by decide +kernel
  show (sumN (fun s => c.getD s 0 * ss.getD s 0) c.length).natAbs < 2 ^ 203
  omega
theorem tb_bd {cs : List (List Int)} {ws ss : List Int} {n : Nat} (M : Mix cs ws n) (hz : ∀ c ∈ cs, c.sum < 2 ^ 102) (hs : ∀ x ∈ ss, x.natAbs < 2 ^ 100) : ∀ m, m ≤ cs.length → (tb cs ws ss m).1.natAbs < 2 ^ (500 * m + 1) ∧ (tb cs ws ss m).2.natAbs < 2 ^ (110 * m + 1)
  | 0, _ => by show (0 : Int).natAbs < 2 ^ 1 ∧ (1 : Int).natAbs < 2 ^ 1; decide
  | m + 1, h => by
    obtain ⟨h1, h2⟩ := tb_bd M hz hs m (by omega)
    have hc := M.con _ (M.at (i := m) (by omega))
    have hz' := hz _ (M.at (i := m) (by omega))
    have d1 := Nat.lt_of_le_of_lt (Int.natAbs_ediv_le_natAbs (dotM (cs.getD m []) ss) ((Nat.gcd (dotM (cs.getD m []) ss).natAbs (cs.getD m []).sum.natAbs : Nat) : Int)) (dotM_bd hc hz' hs)
    have d2 := Nat.lt_of_le_of_lt (Int.natAbs_ediv_le_natAbs (cs.getD m []).sum ((Nat.gcd (dotM (cs.getD m []) ss).natAbs (cs.getD m []).sum.natAbs : Nat) : Int)) (abs_lt (Int.le_of_lt hc.amt.pos) hz')
    have hw := M.wb (i := m) (by omega)
    have m1 := mul_b h1 d2
    have m2 := mul_b (mul_b d1 hw) h2
    have m3 := mul_b h2 d2
    refine ⟨?_, Nat.lt_of_lt_of_le m3 (Nat.pow_le_pow_right (by decide) (by omega))⟩
    have u1 : (2 : Nat) ^ (500 * m + 1 + 102) ≤ 2 ^ (500 * m + 500) := Nat.pow_le_pow_right (by decide) (by omega)
    have u2 : (2 : Nat) ^ (203 + 98 + (110 * m + 1)) ≤ 2 ^ (500 * m + 500) := Nat.pow_le_pow_right (by decide) (by omega)
    have u3 : (2 : Nat) ^ (500 * (m + 1) + 1) = 2 ^ (500 * m + 500) + 2 ^ (500 * m + 500) := by
      rw [show 500 * (m + 1) + 1 = (500 * m + 500) + 1 by omega, Nat.pow_succ]
      omega
    rw [u3]
    exact Nat.lt_of_le_of_lt (Int.natAbs_add_le _ _) (by
      have v1 := Nat.lt_of_lt_of_le m1 u1
      have v2 := Nat.lt_of_lt_of_le m2 u2
      exact Nat.add_lt_add v1 v2)
theorem prod_le102 {cs : List (List Int)} {ws : List Int} {n : Nat} (M : Mix cs ws n) (hz : ∀ c ∈ cs, c.sum < 2 ^ 102) : ∀ i, i ≤ cs.length → prodZ cs i ≤ 2 ^ (102 * i)
  | 0, _ => by show (1 : Int) ≤ 2 ^ 0; decide
  | i + 1, h => by
    have h1 := prod_le102 M hz i (by omega)
    exact two_mul' (a := 102 * i) (b := 102) h1 (Int.le_of_lt (hz _ (M.at (by omega)))) (Int.le_of_lt (M.sp (by omega)))
theorem mixC_small {cs : List (List Int)} {ws : List Int} {n : Nat} (M : Mix cs ws n) (hz : ∀ c ∈ cs, c.sum < 2 ^ 102) (h4 : cs.length ≤ 4) : (mixC cs ws n).sum < 2 ^ 530 := by
  have hd : ∀ k, k < cs.length → (cs.getD k []).sum ∣ lcmZ cs cs.length := fun k hk => dvd_lcm _ k hk
  have A := mix_amt M (lcm_map_pos M) hd
  refine Int.lt_of_le_of_lt (plain_sum_le A) ?_
  rw [mix_sum M _ (Nat.le_refl _) hd, M.ws]
  have h1 := Int.le_trans (Int.le_of_dvd (prod_pos M cs.length (Nat.le_refl _)) (lcm_dvd cs.length)) (Int.le_trans (prod_le102 M hz cs.length (Nat.le_refl _)) (two_le (k := 408) (by omega)))
  have hw : ws.sum ≤ ws.length * 2 ^ 98 := sum_lt M.w0
  have hl : (ws.length : Int) * 2 ^ 98 ≤ 8 * 2 ^ 98 := Int.mul_le_mul_of_nonneg_right (by rw [M.wl]; omega) (by decide +kernel)
  have h3 : (8 : Int) * 2 ^ 98 ≤ 2 ^ 101 := by decide +kernel
  have h5 := two_mul' (x := lcmZ cs cs.length) (y := ws.sum) (a := 408) (b := 101) h1 (by omega) (Int.le_of_lt M.wp)
  refine Int.lt_of_le_of_lt h5 ?_
  decide +kernel
def sp_lright (Tc Tl Tk Tr Ts Tg : Addr) : Sp := fun vs H Q _ => ∃ (j : Addr) (n k z : Nat), vs = [V.ref j, V.int k, V.int z] ∧ Jar H j n ∧ n ≤ 300000 ∧ 1 ≤ k ∧ k ≤ 8 ∧ z ≤ 60 ∧ H Tc = some (TabO Tc) ∧ H Tl = some (TabO Tl) ∧ H Tk = some (TabO Tk) ∧ H Tr = some (TabO Tr) ∧ H Ts = some (TabO Ts) ∧ H Tg = some (TabO Tg) ∧ ∀ H', But j H H' → Jar H' j (n + 900) → Q (.bl true) H'

theorem ok__law_right {f : Addr} {fd : FuncData}  (F : Fun K "_law_right" "_law_right" s__law_right f fd) (B : Bl mg) {Tc Tl Tk Tr Ts Tg : Addr} (C_mixed_content : Cal P w K mg base 12 "mixed_content" ["contents", "weights"] (sp_mixed Tc Tl)) (C_topped_row : Cal P w K mg base 10 "topped_row" ["content", "kept", "row"] (sp_topped_row Tc Tr)) (C_topped_by : Cal P w K mg base 9 "topped_by" ["content", "keeps", "row"] (sp_topped_by Tc Tk Tr)) (C_strength_of : Cal P w K mg base 8 "strength_of" ["content", "strengths"] (sp_strength Tc Ts Tg)) (C__law_dip : Cal P w K mg base 1 "_law_dip" ["jar", "many"] sp_dip) (C__law_part : Cal P w K mg base 2 "_law_part" ["top", "bottom"] sp_lpart) (C__law_filled : Cal P w K mg base 5 "_law_filled" ["jar", "many", "most"] sp_lfilled) (C__law_share : Cal P w K mg base 3 "_law_share" ["jar"] sp_lshare) (C__law_spots : Cal P w K mg base 2 "_law_spots" ["jar", "many", "size"] sp_lspots) (C__law_shrinks : Cal P w K mg base 9 "_law_shrinks" ["jar", "pots_here", "share_here"] (sp_shr Tc)) : FnOk P w K mg base CX0 13 f fd ["jar", "many", "size"] (sp_lright Tc Tl Tk Tr Ts Tg) := by
  refine F.ok sc__law_right (fun vs H Q E h => ?_) (fun cdv A outer s H vs Q E hr h => ?_)
  · obtain ⟨j, n, k, z, rfl, _⟩ := h; rfl
  · obtain ⟨j, n, k, z, rfl, hj, hn, hk1, hk8, hz60, gc, gl, gk, gr, gs, gg, q⟩ := h
    have nd := sc__law_right.nd
    refine ⟨_, (pss_cons (ps_setLc (i := 3) (own := [("turn", 17)]) (g := gName 17) rfl nd rfl rfl (sw_true rfl rfl rfl (by decide +kernel)) (pi_range1 rfl B.range (pa_cons (pe_op op_add pe_int (pe_cal C__law_dip (hr.mono (by decide)) (pa_cons (pv 0) (pa_cons pe_int pa_nil)))) pa_nil)) (blkOk_by (own := [("turn", 17)]) (N := ["jar", "many", "size", "pots_here", "pot", "parts", "share_here", "spots", "mixed", "later", "shares_here", "some", "top", "bottom_here", "part", "one", "under", "turn", "spot"]) (sc := defScope s__law_right) (by decide +kernel)) (fun _ _ _ _ _ => (pg_name (i := 17) nd rfl (Or.inl rfl))) (fun _ _ _ _ _ => pts_nil) (fun _ _ _ _ _ => (pe_cal C__law_filled (hr.mono (by decide)) (pa_cons (pv 0) (pa_cons (pv 1) (pa_cons pe_int pa_nil))))))
      (pss_cons (ps_setLc (i := 5) (own := [("pot", 4)]) (g := gName 4) rfl nd rfl rfl (sw_true rfl rfl rfl (by decide +kernel)) (pi_list (pv 3)) (blkOk_by (own := [("pot", 4)]) (N := ["jar", "many", "size", "pots_here", "pot", "parts", "share_here", "spots", "mixed", "later", "shares_here", "some", "top", "bottom_here", "part", "one", "under", "turn", "spot"]) (sc := defScope s__law_right) (by decide +kernel)) (fun _ _ _ _ _ => (pg_name (i := 4) nd rfl (Or.inl rfl))) (fun _ _ _ _ _ => pts_nil) (fun _ _ _ _ _ => (pe_op op_add pe_int (pe_cal C__law_dip (hr.mono (by decide)) (pa_cons (pv 0) (pa_cons (pe_ix (ix_listK (K := K) rfl) (pe_lst (pa_cons pe_int (pa_cons (pe_op op_powW pe_int pe_int) pa_nil))) (pe_cal C__law_dip (hr.mono (by decide)) (pa_cons (pv 0) (pa_cons pe_int pa_nil))) (fun _ _ => rfl)) pa_nil))))))
      (pss_cons (ps_asg (pe_tup (pa_cons (pe_cal C__law_share (hr.mono (by decide)) (pa_cons (pv 0) pa_nil)) (pa_cons (pe_cal C__law_spots (hr.mono (by decide)) (pa_cons (pv 0) (pa_cons (pv 1) (pa_cons (pv 2) pa_nil)))) pa_nil))) (pg_tup (by rfl) (pgs_cons (pg_name (i := 6) nd rfl (Or.inr rfl)) (pgs_cons (pg_name (i := 7) nd rfl (Or.inr rfl)) pgs_nil))))
      (pss_cons (ps_set (i := 8) nd rfl (Or.inl rfl) (pe_cal C_mixed_content (hr.mono (by decide)) (pa_cons (pv 3) (pa_cons (pv 5) pa_nil))))
      (pss_cons (ps_setLc (i := 9) (own := [("pot", 4)]) (g := gName 4) rfl nd rfl rfl (sw_true rfl rfl rfl (by decide +kernel)) (pi_list (pv 3)) (blkOk_by (own := [("pot", 4)]) (N := ["jar", "many", "size", "pots_here", "pot", "parts", "share_here", "spots", "mixed", "later", "shares_here", "some", "top", "bottom_here", "part", "one", "under", "turn", "spot"]) (sc := defScope s__law_right) (by decide +kernel)) (fun _ _ _ _ _ => (pg_name (i := 4) nd rfl (Or.inl rfl))) (fun _ _ _ _ _ => pts_nil) (fun _ _ _ _ _ => (pe_cal C_topped_row (hr.mono (by decide)) (pa_cons (pv 4) (pa_cons (pv 6) (pa_cons (pv 7) pa_nil))))))
      (pss_cons (ps_if (pt_cmpR (op_neD hr.units) (pe_cal C_topped_row (hr.mono (by decide)) (pa_cons (pv 8) (pa_cons (pv 6) (pa_cons (pv 7) pa_nil)))) (pe_cal C_mixed_content (hr.mono (by decide)) (pa_cons (pv 9) (pa_cons (pv 5) pa_nil))) (nomark _))
      (pss_one (ps_ret pe_bl)) pss_nil)
      (pss_cons (ps_set (i := 10) nd rfl (Or.inr rfl) (pe_lc (own := [("spot", 18)]) (g := gName 18) rfl nd (pi_list (pv 7)) (blkOk_by (own := [("spot", 18)]) (N := ["jar", "many", "size", "pots_here", "pot", "parts", "share_here", "spots", "mixed", "later", "shares_here", "some", "top", "bottom_here", "part", "one", "under", "turn", "spot"]) (sc := defScope s__law_right) (by decide +kernel)) (fun _ _ _ _ _ => (pg_name (i := 18) nd rfl (Or.inl rfl))) (fun _ _ _ _ _ => pts_nil) (fun _ _ _ _ _ => (pe_cal C__law_share (hr.mono (by decide)) (pa_cons (pv 0) pa_nil)))))
      (pss_cons (ps_setLc (i := 9) (own := [("pot", 4)]) (g := gName 4) rfl nd rfl rfl (sw_true rfl rfl rfl (by decide +kernel)) (pi_list (pv 3)) (blkOk_by (own := [("pot", 4)]) (N := ["jar", "many", "size", "pots_here", "pot", "parts", "share_here", "spots", "mixed", "later", "shares_here", "some", "top", "bottom_here", "part", "one", "under", "turn", "spot"]) (sc := defScope s__law_right) (by decide +kernel)) (fun _ _ _ _ _ => (pg_name (i := 4) nd rfl (Or.inl rfl))) (fun _ _ _ _ _ => pts_nil) (fun _ _ _ _ _ => (pe_cal C_topped_by (hr.mono (by decide)) (pa_cons (pv 4) (pa_cons (pv 10) (pa_cons (pv 7) pa_nil))))))
      (pss_cons (ps_if (pt_cmpR (op_neD hr.units) (pe_cal C_topped_by (hr.mono (by decide)) (pa_cons (pv 8) (pa_cons (pv 10) (pa_cons (pv 7) pa_nil)))) (pe_cal C_mixed_content (hr.mono (by decide)) (pa_cons (pv 9) (pa_cons (pv 5) pa_nil))) (nomark _))
      (pss_one (ps_ret pe_bl)) pss_nil)
      (pss_cons (ps_setLc (i := 11) (own := [("spot", 18)]) (g := gName 18) rfl nd rfl rfl (sw_true rfl rfl rfl (by decide +kernel)) (pi_range1 rfl B.range (pa_cons (pv 1) pa_nil)) (blkOk_by (own := [("spot", 18)]) (N := ["jar", "many", "size", "pots_here", "pot", "parts", "share_here", "spots", "mixed", "later", "shares_here", "some", "top", "bottom_here", "part", "one", "under", "turn", "spot"]) (sc := defScope s__law_right) (by decide +kernel)) (fun _ _ _ _ _ => (pg_name (i := 18) nd rfl (Or.inl rfl))) (fun _ _ _ _ _ => pts_nil) (fun _ _ _ _ _ => (pe_op op_sub (pe_cal C__law_dip (hr.mono (by decide)) (pa_cons (pv 0) (pa_cons pe_int pa_nil))) pe_int)))
      (pss_cons (ps_asg (pe_tup (pa_cons pe_int (pa_cons pe_int pa_nil))) (pg_tup (by rfl) (pgs_cons (pg_name (i := 12) nd rfl (Or.inl rfl)) (pgs_cons (pg_name (i := 13) nd rfl (Or.inl rfl)) pgs_nil))))
      (pss_cons (ps_for PassesOwn.never rfl (pi_zip (by rfl) B.zip (pa_cons (pv 3) (pa_cons (pv 5) pa_nil))) (pg_tup (by rfl) (pgs_cons (pg_name (i := 4) nd rfl (Or.inl rfl)) (pgs_cons (pg_name (i := 14) nd rfl (Or.inl rfl)) pgs_nil))) (pss_cons (ps_asg (pe_cal C_strength_of (hr.mono (by decide)) (pa_cons (pv 4) (pa_cons (pv 11) pa_nil))) (pg_tup (by rfl) (pgs_cons (pg_name (i := 15) nd rfl (Or.inl rfl)) (pgs_cons (pg_name (i := 16) nd rfl (Or.inl rfl)) pgs_nil))))
      (pss_cons (ps_set (i := 12) nd rfl (Or.inl rfl) (pe_op op_add (pe_op op_mulW (pv 12) (pv 16)) (pe_op op_mulW (pe_op op_mulW (pv 15) (pv 14)) (pv 13))))
      (pss_one (ps_set (i := 13) nd rfl (Or.inl rfl) (pe_op op_mulW (pv 13) (pv 16)))))))
      (pss_cons (ps_if (pt_cmpR (op_neD hr.units) (pe_cal C_strength_of (hr.mono (by decide)) (pa_cons (pv 8) (pa_cons (pv 11) pa_nil))) (pe_cal C__law_part (hr.mono (by decide)) (pa_cons (pv 12) (pa_cons (pe_op op_mulW (pv 13) (pe_callB (cr_sum rfl) (by rfl) B.sum (by decide +kernel) (pa_cons (pv 5) pa_nil))) pa_nil))) (nomark _))
      (pss_one (ps_ret pe_bl)) pss_nil)
      (pss_cons (ps_if (pt_cmpR (op_neD hr.units) (pe_cal C_mixed_content (hr.mono (by decide)) (pa_cons (pe_lst (pa_cons (pv 8) (pa_cons (pv 8) pa_nil))) (pa_cons (pe_lst (pa_cons pe_int (pa_cons pe_int pa_nil))) pa_nil))) (pv 8) (nomark _))
      (pss_one (ps_ret pe_bl)) pss_nil)
      (pss_one (ps_ret (pe_cal C__law_shrinks (hr.mono (by decide)) (pa_cons (pv 0) (pa_cons (pv 3) (pa_cons (pv 6) pa_nil)))))))))))))))))))), ?_⟩
    refine ⟨.ref j, rfl, j, 3, n, rfl, hj, by omega, by decide, by decide +kernel, fun d H0 b0 f0 j0 x0 x1 => ⟨2, d, rfl, rfl, _, rfl, by omega, by omega, fun D hD => ?_⟩⟩
    obtain ⟨zz, hzz, z2, z4⟩ : ∃ zz : Nat, (2 + d).toNat = zz ∧ 2 ≤ zz ∧ zz ≤ 4 := ⟨_, rfl, by omega, by omega⟩
    have hDj := j0.ne hD
    refine lc_range (lo := 0) (n := (2 + d).toNat) (fun i H' => ∃ ps cs, Pot1 H0 H' j D (n + 1) k i ps cs) ⟨[], [], ⟨upd_same, rfl, fun i a h => by simp at h⟩, rfl, fun c h => by simp at h, fun c h => by simp at h, But.of (same_new hD), j0.keep (same_new hD)⟩
      (fun i H' hi ⟨ps, cs, S⟩ => ?_) (fun H1 ⟨ps, cs, S⟩ => ?_)
    · refine ⟨rfl, .ref j, rfl, .int (k : Int), rfl, j, n + 1 + 100 * i, k, 5, rfl, S.jar, by omega, hk1, hk8, by decide, fun p ns H2 b2 f2 np j2 lp cp ep zp => ⟨_, b2 _ _ hDj S.pots.at_, ?_, _, _, S.next hD hDj b2 np j2 lp ⟨cp, ep, zp (by decide)⟩⟩⟩
      rw [List.length_map, S.pl]
      show i < 16777216
      omega
    rw [hzz] at S
    have P1 := S.pots
    have hcl : cs.length = zz := by rw [← P1.len, S.pl]
    have hpl : ps.length = zz := S.pl
    have hne : ∀ a ∈ ps, a ≠ j := fun a h => (S.ne a h).1
    have j1 := S.jar
    have b1 := S.but
    have hcon := S.con
    clear S
    refine ⟨.ref D, rfl, D, rfl, ⟨_, SqL.of P1.at_⟩, fun D2 hD2 => ?_⟩
    have hD2j : D2 ≠ j := j1.ne hD2
    refine lc_list (xs := ps.map V.ref) (fun i H' => ∃ ws : List Int, ws.length = i ∧ (∀ x ∈ ws, 1 ≤ x ∧ x < 2 ^ 98) ∧ But j H1 H' ∧ Jar H' j (n + 1 + 100 * zz + 2 * i) ∧ LI H' D2 ws)
      ⟨[], rfl, fun c hc => (by cases hc), But.of (same_new hD2), j1.keep (same_new hD2), upd_same⟩ (fun i H' _ ⟨ws, e1, e2, e3, e5, e6⟩ => SqL.of (e3 _ _ hDj P1.at_)) (fun i x H' hx ⟨ws, e1, e2, e3, e5, e6⟩ => ?_) (fun H3 ⟨ws, e1, e2, e3, e5, e6⟩ => ?_)
    · have hi := (List.getElem?_eq_some_iff.mp hx).1
      rw [List.length_map, hpl] at hi
      refine ⟨rfl, .ref j, rfl, 10, 6, rfl, rfl, pw 4 (by decide) (by decide) (by decide) (by decide), by show 2 ≤ 16777216; decide, fun l nl => ?_⟩
      have sl := same_new (o := .lst [V.int 3, V.int (10 ^ (6 : Int).toNat)]) nl
      refine ⟨.ref j, rfl, j, 2, n + 1 + 100 * zz + 2 * i, rfl, e5.keep sl, by omega, by decide, by decide +kernel, fun d H2 b2 f2 j2 y0 y1 => ?_⟩
      have hlj : l ≠ j := e5.ne nl
      have hl2 := b2 l _ hlj upd_same
      obtain ⟨wv, hw, w1, w97⟩ : ∃ wv : Int, atI [V.int 3, V.int (10 ^ (6 : Int).toNat)] d = some (.int wv) ∧ 1 ≤ wv ∧ wv ≤ 2 ^ 97 := by
        have hd : d = 0 ∨ d = 1 := by omega
        rcases hd with rfl | rfl
        · exact ⟨3, rfl, by decide, by decide +kernel⟩
        · exact ⟨10 ^ (6 : Int).toNat, rfl, by decide +kernel, by decide +kernel⟩
      have e62 : LI H2 D2 ws := b2 D2 _ hD2j (sl _ _ e6)
      have p98 : (2 : Int) ^ 97 < 2 ^ 98 := by decide +kernel
      refine ⟨l, _, d, _, rfl, rfl, SqL.of hl2, hw, j, wv, n + 1 + 100 * zz + 2 * i + 1, rfl, j2, by omega, w1, small8000 (Int.lt_of_le_of_lt w97 (by decide +kernel)), fun d2 H3 b3 f3 j3 z0 z1 => ⟨1, d2, rfl, rfl, _, b3 D2 _ hD2j e62, ?_, ws ++ [1 + d2], ?_, fun c hc => ?_, (((e3.trans (But.of sl)).trans b2).trans b3).fresh hD2, ?_, ?_⟩⟩
      · rw [List.length_map, e1]
        show i < 16777216
        omega
      · rw [List.length_append, e1]
        rfl
      · rcases List.mem_append.mp hc with y | y
        · exact e2 c y
        · rw [List.mem_singleton.mp y]
          omega
      · obtain ⟨x1, x2, x3, y1, y2, y3, y4, y5, y6⟩ := j3
        exact ⟨x1, x2, x3, by rw [upd_ne (fun e => hD2j e.symm)]; exact y1, y2, y3, y4, y5, by omega⟩
      · show L2.upd H3 D2 _ D2 = _
        rw [upd_same, List.map_append]
        rfl
    rw [List.length_map, hpl] at e1 e5
    have M : Mix cs ws k := by
      refine ⟨by omega, by omega, by rw [e1, hcl], fun c h => (hcon c h).1, fun c h => (hcon c h).2.1, fun c h => Int.lt_of_lt_of_le (hcon c h).2.2 (two_le (by decide)), fun x hx => ⟨by have := (e2 x hx).1; omega, (e2 x hx).2⟩, ?_⟩
      have hm := getD_memS (ns := ws) (i := 0) (by omega)
      have := le_sum (fun x hx => by have := (e2 x hx).1; omega) hm
      have := (e2 _ hm).1
      omega
    refine ⟨.ref j, rfl, j, _, rfl, e5, by omega, fun t a b H4 b4 f4 nt j4 ht kt => ⟨.ref j, rfl, .int (k : Int), rfl, .int (z : Int), rfl, j, _, k, z, rfl, j4, by omega, hk1, hk8, hz60, fun r rs H5 b5 f5 nr j5 lr rl rc => ⟨by show 2 ≤ 16777216; decide, fun S0 nS0 => ?_⟩⟩⟩
    have htj : t ≠ j := e5.ne nt
    have hrj : r ≠ j := j4.ne nr
    have sS := sameN (o := .tup [.ref t, .ref r]) nS0
    have hS0 : L2.upd H5 S0 (.tup [.ref t, .ref r]) S0 = some (.tup [.ref t, .ref r]) := upd_same
    have t6 := sS _ _ (b5 _ _ htj ht)
    have r6 : LI _ r (rowI rs) := sS _ _ lr
    have l6 : LI _ D2 ws := sS _ _ (b5 _ _ hD2j (b4 _ _ hD2j e6))
    have B6 := ((e3.trans b4).trans b5).trans (But.of (j := j) sS)
    have j6 := j5.keep sS
    generalize L2.upd H5 S0 (.tup [.ref t, .ref r]) = H6 at *
    refine ⟨S0, [_, _], rfl, SqT.of hS0, rfl, _, _, rfl, _, _, rfl, rfl, ?_⟩
    have P6 := P1.but B6 hDj hne
    have B06 := (b0.trans b1).trans B6
    have tc6 := B06 _ _ (hj.tab gc) gc
    have tl6 := B06 _ _ (hj.tab gl) gl
    have tr6 := B06 _ _ (hj.tab gr) gr
    obtain ⟨mc, ml, mz⟩ := mixC_con M (by omega) hk8
    refine ⟨.ref D, rfl, .ref D2, rfl, D, D2, ps, cs, ws, k, rfl, P6, l6, M, tc6, tl6, fun mx H7 s7 nmx lmx => ?_⟩
    have lmx' : LI H7 mx (mixC cs ws k) := lmx
    have P7 := P6.same s7
    have hz102 : ∀ c ∈ cs, c.sum < 2 ^ 102 := fun c h => (hcon c h).2.2
    have hR : ∀ i, i < cs.length → Row1 (cs.getD i []) a b rs := fun i hi => ⟨M.con _ (M.at hi), by omega, kt, fun c hc => by rw [M.len _ (M.at hi)]; exact rc c hc⟩
    have hRm : Row1 (mixC cs ws k) a b rs := ⟨mc, by omega, kt, fun c hc => by rw [ml]; exact rc c hc⟩
    refine ⟨.ref D, rfl, D, rfl, ⟨_, SqL.of P7.at_⟩, fun D3 hD3 => lc_list (xs := ps.map V.ref) (fun i H' => ∃ qs, Lat H7 H' D3 i qs (fun m => ctn1 (cs.getD m []) a b rs rs.length)) ⟨[], Lat.zero hD3⟩ (fun i H' _ ⟨qs, S⟩ => SqL.of (S.same _ _ P7.at_)) (fun i x H' hx ⟨qs, S⟩ => ?_) (fun H8 ⟨qs, S⟩ => ?_)⟩
    · obtain ⟨p, hp, rfl⟩ := map_ref hx
      have hi := (List.getElem?_eq_some_iff.mp hp).1
      rw [hpl, ← hcl] at hi
      have s2 := S.same
      refine ⟨rfl, .ref p, rfl, .ref t, rfl, .ref r, rfl, p, t, r, cs.getD i [], a, b, rs, rfl, s2 _ _ (P7.row i p hp), s2 _ _ (s7 _ _ t6), s2 _ _ (s7 _ _ r6), hR i hi, Int.lt_of_lt_of_le (hz102 _ (M.at hi)) (two_le (by decide)), s2 _ _ (s7 _ _ tc6), s2 _ _ (s7 _ _ tr6), fun u H9 s9 nu lu => ⟨_, s9 _ _ S.at_, ?_, _, S.next hD3 s9 nu lu⟩⟩
      rw [List.length_map, S.len]
      show i < 16777216
      omega
    rw [List.length_map, hpl, ← hcl] at S
    have M1 := mix_map (ks := List.replicate rs.length (a, b)) (rs := rs) M hz102 List.length_replicate (by omega) (fun q hq => by rw [(List.mem_replicate.mp hq).2]; exact kt) rc rs.length (Nat.le_refl _)
    have E1 := mix_ctn (ks := List.replicate rs.length (a, b)) (rs := rs) M hz102 List.length_replicate (by omega) (fun q hq => by rw [(List.mem_replicate.mp hq).2]; exact kt) rc hk8 rs.length (Nat.le_refl _)
    have s78 := S.same
    have P8 := S.pots (f := fun c => ctn1 c a b rs rs.length)
    have mx8 : LI H8 mx (mixC cs ws k) := s78 _ _ lmx'
    have s68 := s7.trans s78
    clear S
    refine ⟨.ref mx, rfl, .ref t, rfl, .ref r, rfl, mx, t, r, mixC cs ws k, a, b, rs, rfl, mx8, s68 _ _ t6, s68 _ _ r6, hRm, Int.lt_of_lt_of_le mz (two_le (by decide)), s68 _ _ tc6, s68 _ _ tr6, fun u1 H9 s9 n9 l9 => ?_⟩
    have s69 := s68.trans s9
    refine ⟨.ref D3, rfl, .ref D2, rfl, D3, D2, qs, cs.map (fun c => ctn1 c a b rs rs.length), ws, k, rfl, P8.same s9, s69 _ _ l6, M1, s69 _ _ tc6, s69 _ _ tl6, fun u2 H10 s10 n10 l10 => ?_⟩
    have l10' : LI H10 u2 (mixC (cs.map fun c => ctn1 c a b rs rs.length) ws k) := l10
    have l9' : LI H10 u1 (mixC (cs.map fun c => ctn1 c a b rs rs.length) ws k) := by
      rw [show mixC (cs.map fun c => ctn1 c a b rs rs.length) ws k = ctn1 (mixC cs ws k) a b rs rs.length from E1.symm]
      exact s10 _ _ l9
    refine ⟨_, _, dp_li l9', dp_li l10', shaped_ints _, shaped_ints _, _, rfl, ?_⟩
    rw [eqv_ints]
    refine iteF ?_
    have sA := s69.trans s10
    clear l9 l9' l10 l10' M1 E1 P8 n9 n10
    have j10 := j6.keep sA
    have r10 := sA _ _ r6
    have mxj : mx ≠ j := j6.ne nmx
    have mx10 : LI H10 mx (mixC cs ws k) := s10 _ _ (s9 _ _ mx8)
    refine ⟨.ref r, rfl, r, rfl, ⟨_, SqL.of r10⟩, fun D4 hD4 => lc_list (xs := (rowI rs).map V.int) (fun i H' => ∃ ts ks, Shs H10 H' j D4 (n + 1 + 100 * zz + 2 * zz + 4 + z) i ts ks)
      ⟨[], [], rfl, rfl, fun m t h => by simp at h, fun q h => by simp at h, But.of (same_new hD4), (j10.keep (same_new hD4)).le (by omega), upd_same⟩ (fun i H' _ ⟨_, _, S⟩ => SqL.of (S.but _ _ hrj r10)) (fun i x H' hx ⟨ts, ks, S⟩ => ?_) (fun H11 ⟨ts, ks, S⟩ => ?_)⟩
    · have hi := (List.getElem?_eq_some_iff.mp hx).1
      rw [List.length_map, rowI_len] at hi
      have hDj4 : D4 ≠ j := j10.ne hD4
      refine ⟨rfl, .ref j, rfl, j, _, rfl, S.jar, by omega, fun t a b H4 b4 f4 nt j4 ht kp => ⟨_, b4 _ _ hDj4 S.at_, ?_, _, _, S.next hD4 hDj4 b4 nt j4 ht kp⟩⟩
      rw [List.length_map, S.tl]
      show i < 16777216
      omega
    rw [List.length_map, rowI_len, rl] at S
    have B11 := S.but
    have hKj : D4 ≠ j := j10.ne hD4
    have K11 := S.keeps
    have j11 := S.jar
    have hkk := S.kep
    have hkl := S.kl
    clear S
    have P11 := (P6.same sA).but B11 hDj hne
    have l11 := B11 _ _ hD2j (sA _ _ l6)
    have t11 := B11 _ _ htj (sA _ _ t6)
    have r11 : LI H11 r (rowI rs) := B11 _ _ hrj r10
    have mx11 : LI H11 mx (mixC cs ws k) := B11 _ _ mxj mx10
    have BB := (B06.trans (But.of (j := j) sA)).trans B11
    have tc := BB _ _ (hj.tab gc) gc
    have tl := BB _ _ (hj.tab gl) gl
    have tk := BB _ _ (hj.tab gk) gk
    have tr := BB _ _ (hj.tab gr) gr
    have ts' := BB _ _ (hj.tab gs) gs
    have tg := BB _ _ (hj.tab gg) gg
    clear B06 B6 b0 b1 b4 b5 tc6 tl6 tr6 P6 P7 P1 s68 s69 s78 s7 sS s9 s10 r10 mx10 mx8 lmx lmx' t6 r6 l6 e3 e5 e6 j0 j1 j4 j5 j6 j10 lr ht
    have hRk : ∀ i, i < cs.length → Rowy (cs.getD i []) ks rs := fun i hi => ⟨M.con _ (M.at hi), by omega, by omega, hkk, fun c hc => by rw [M.len _ (M.at hi)]; exact rc c hc⟩
    have hRmk : Rowy (mixC cs ws k) ks rs := ⟨mc, by omega, by omega, hkk, fun c hc => by rw [ml]; exact rc c hc⟩
    refine ⟨.ref D, rfl, D, rfl, ⟨_, SqL.of P11.at_⟩, fun D5 hD5 => lc_list (xs := ps.map V.ref) (fun i H' => ∃ qs, Lat H11 H' D5 i qs (fun m => ctn (cs.getD m []) ks rs rs.length)) ⟨[], Lat.zero hD5⟩ (fun i H' _ ⟨qs, S⟩ => SqL.of (S.same _ _ P11.at_)) (fun i x H' hx ⟨qs, S⟩ => ?_) (fun H12 ⟨qs5, S⟩ => ?_)⟩
    · obtain ⟨p, hp, rfl⟩ := map_ref hx
      have hi := (List.getElem?_eq_some_iff.mp hp).1
      rw [hpl, ← hcl] at hi
      have s2 := S.same
      refine ⟨rfl, .ref p, rfl, .ref D4, rfl, .ref r, rfl, p, D4, r, cs.getD i [], ts, ks, rs, rfl, s2 _ _ (P11.row i p hp), K11.same s2, s2 _ _ r11, hRk i hi, Int.lt_of_lt_of_le (hz102 _ (M.at hi)) (two_le (by decide)), s2 _ _ tc, s2 _ _ tk, s2 _ _ tr, fun u H9 s9 nu lu => ⟨_, s9 _ _ S.at_, ?_, _, S.next hD5 s9 nu lu⟩⟩
      rw [List.length_map, S.len]
      show i < 16777216
      omega
    rw [List.length_map, hpl, ← hcl] at S
    have M2 := mix_map (ks := ks) (rs := rs) M hz102 (by omega) (by omega) hkk rc rs.length (Nat.le_refl _)
    have E2 := mix_ctn (ks := ks) (rs := rs) M hz102 (by omega) (by omega) hkk rc hk8 rs.length (Nat.le_refl _)
    have s12 := S.same
    have P12 := S.pots (f := fun c => ctn c ks rs rs.length)
    clear S
    refine ⟨.ref mx, rfl, .ref D4, rfl, .ref r, rfl, mx, D4, r, mixC cs ws k, ts, ks, rs, rfl, s12 _ _ mx11, K11.same s12, s12 _ _ r11, hRmk, Int.lt_of_lt_of_le mz (two_le (by decide)), s12 _ _ tc, s12 _ _ tk, s12 _ _ tr, fun u1 H13 s13 n9 l9 => ?_⟩
    have s113 := s12.trans s13
    refine ⟨.ref D5, rfl, .ref D2, rfl, D5, D2, qs5, cs.map (fun c => ctn c ks rs rs.length), ws, k, rfl, P12.same s13, s113 _ _ l11, M2, s113 _ _ tc, s113 _ _ tl, fun u2 H14 s14 n10 l10 => ?_⟩
    have l10' : LI H14 u2 (mixC (cs.map fun c => ctn c ks rs rs.length) ws k) := l10
    have l9' : LI H14 u1 (mixC (cs.map fun c => ctn c ks rs rs.length) ws k) := by
      rw [← E2]
      exact s14 _ _ l9
    refine ⟨_, _, dp_li l9', dp_li l10', shaped_ints _, shaped_ints _, _, rfl, ?_⟩
    rw [eqv_ints]
    refine iteF ?_
    have sB := s113.trans s14
    clear l9 l9' l10 l10' M2 E2 P12 n9 n10 s12 s13 s14 s113
    have j14 := j11.keep sB
    refine ⟨.int (k : Int), rfl, k, rfl, by omega, by omega, fun D6 hD6 => ?_⟩
    have hD6j : D6 ≠ j := j14.ne hD6
    refine lc_range (lo := 0) (n := (k : Int).toNat) (fun i H' => ∃ ss : List Int, ss.length = i ∧ (∀ x ∈ ss, x.natAbs < 2 ^ 100) ∧ But j H14 H' ∧ Jar H' j (n + 1 + 100 * zz + 2 * zz + 4 + z + 4 * z + i) ∧ LI H' D6 ss)
      ⟨[], rfl, fun c hc => (by cases hc), But.of (same_new hD6), j14.keep (same_new hD6), upd_same⟩ (fun i H' hi ⟨ss, e1, e2, e3, e5, e6⟩ => ?_) (fun H15 ⟨ss, e1s, e2s, e3, e5, e6⟩ => ?_)
    · refine ⟨rfl, .ref j, rfl, j, 50, _, rfl, e5, by omega, by decide, by decide +kernel, fun d H2 b2 f2 j2 y0 y1 => ⟨d, 20, rfl, rfl, _, b2 D6 _ hD6j e6, ?_, ss ++ [d - 20], ?_, fun c hc => ?_, (e3.trans b2).fresh hD6, ?_, ?_⟩⟩
      · rw [List.length_map, e1]
        show i < 16777216
        omega
      · rw [List.length_append, e1]
        rfl
      · rcases List.mem_append.mp hc with y | y
        · exact e2 c y
        · rw [List.mem_singleton.mp y]
          exact Nat.lt_of_lt_of_le (show (d - 20).natAbs < 2 ^ 6 by omega) (Nat.pow_le_pow_right (by decide) (by decide))
      · obtain ⟨x1, x2, x3, y1, y2, y3, y4, y5, y6⟩ := j2
        exact ⟨x1, x2, x3, by rw [upd_ne (fun e => hD6j e.symm)]; exact y1, y2, y3, y4, y5, by omega⟩
      · show L2.upd H2 D6 _ D6 = _
        rw [upd_same, List.map_append]
        rfl
    rw [Int.toNat_natCast] at e1s e5
    have B15 := e3
    have P15 := (P11.same sB).but B15 hDj hne
    have l15 : LI H15 D2 ws := B15 _ _ hD2j (sB _ _ l11)
    have t15 := B15 _ _ htj (sB _ _ t11)
    have mx15 : LI H15 mx (mixC cs ws k) := B15 _ _ mxj (sB _ _ mx11)
    have jB := (j11.keep sB)
    have q1c := B15 _ _ (jB.tab (sB _ _ tc)) (sB _ _ tc)
    have q1l := B15 _ _ (jB.tab (sB _ _ tl)) (sB _ _ tl)
    have q1s := B15 _ _ (jB.tab (sB _ _ ts')) (sB _ _ ts')
    have q1g := B15 _ _ (jB.tab (sB _ _ tg)) (sB _ _ tg)
    have BC := (BB.trans (But.of (j := j) sB)).trans B15
    clear P11 l11 t11 mx11 tc tl tk tr ts' tg K11 r11 B11 B15 e3 sA sB jB j14 j11 BB
    refine ⟨by show 2 ≤ 16777216; decide, fun S1 nS1 => ?_⟩
    have s1 := sameN (o := .tup [.int 0, .int 1]) nS1
    have hS1 : L2.upd H15 S1 (.tup [.int 0, .int 1]) S1 = some (.tup [.int 0, .int 1]) := upd_same
    generalize L2.upd H15 S1 (.tup [.int 0, .int 1]) = H16 at *
    refine ⟨S1, [_, _], rfl, SqT.of hS1, rfl, _, _, rfl, _, _, rfl, rfl, ?_⟩
    refine ⟨.ref D, rfl, .ref D2, rfl, D, D2, _, _, rfl, SqL.of (s1 _ _ P15.at_), SqL.of (s1 _ _ l15), ?_⟩
    refine for_it (walk_zip (n := zz) (by rw [List.length_map, List.length_map, hpl, e1, Nat.min_self])) (fun i σ H' => ∃ y4 y14 y15 y16, σ = [some (.ref j), some (.int (k : Int)), some (.int (z : Int)), some (.ref D), y4, some (.ref D2), some (.ref t), some (.ref r), some (.ref mx), some (.ref D5), some (.ref D4), some (.ref D6), some (.int (tb cs ws ss i).1), some (.int (tb cs ws ss i).2), y14, y15, y16, none, none] ∧ Same H15 H') ⟨none, none, none, none, rfl, s1⟩ (fun i σ H' _ ⟨_, _, _, _, _, e⟩ => ⟨SqL.of (e _ _ P15.at_), SqL.of (e _ _ l15)⟩) (fun i x σ H' H2 hi ⟨y4, y14, y15, y16, c1, c2⟩ hy => ?_) (fun σ H' ⟨y4, y14, y15, y16, c1, c2⟩ => ?_)
    · subst c1
      obtain ⟨T29, v1, v2, rfl, nT2, rfl, hx1, hx2⟩ := hy
      obtain ⟨p, hp, rfl⟩ := map_ref hx1
      obtain ⟨wv, hwv, rfl⟩ := map_get hx2
      have hic : i < cs.length := by omega
      have ew : ws.getD i 0 = wv := by rw [List.getD_eq_getElem?_getD, hwv]; rfl
      have hwb := M.wb hic
      rw [ew] at hwb
      have sT := sameN (o := .tup [.ref p, .int wv]) nT2
      have c3 := c2.trans sT
      refine ⟨T29, [_, _], rfl, SqT.of upd_same, rfl, _, _, rfl, _, _, rfl, rfl, ?_⟩
      have hcc := M.con _ (M.at hic)
      refine ⟨.ref p, rfl, .ref D6, rfl, p, D6, cs.getD i [], ss, rfl, c3 _ _ (P15.row i p hp), hcc, Int.lt_of_lt_of_le (hz102 _ (M.at hic)) (two_le (by decide)), c3 _ _ e6, by rw [M.len _ (M.at hic), e1s], e2s, c3 _ _ q1c, c3 _ _ q1s, c3 _ _ q1g, fun u H3 s3 nu hu => ?_⟩
      rw [dot_eq] at hu
      refine ⟨u, [_, _], rfl, SqT.of hu, rfl, _, _, rfl, _, _, rfl, rfl, ?_⟩
      obtain ⟨h1, h2⟩ := tb_bd M hz102 e2s i (by omega)
      have h1' : (tb cs ws ss i).1.natAbs < 2 ^ 2600 := Nat.lt_of_lt_of_le h1 (Nat.pow_le_pow_right (by decide) (by omega))
      have h2' : (tb cs ws ss i).2.natAbs < 2 ^ 600 := Nat.lt_of_lt_of_le h2 (Nat.pow_le_pow_right (by decide) (by omega))
      have d1 : (fr (dotM (cs.getD i []) ss) (cs.getD i []).sum).1.natAbs < 2 ^ 203 := Nat.lt_of_le_of_lt (Int.natAbs_ediv_le_natAbs _ _) (dotM_bd hcc (hz102 _ (M.at hic)) e2s)
      have d2 : (fr (dotM (cs.getD i []) ss) (cs.getD i []).sum).2.natAbs < 2 ^ 102 := Nat.lt_of_le_of_lt (Int.natAbs_ediv_le_natAbs _ _) (abs_lt (Int.le_of_lt hcc.amt.pos) (hz102 _ (M.at hic)))
      refine ⟨.int (tb cs ws ss i).1, rfl, .int (fr (dotM (cs.getD i []) ss) (cs.getD i []).sum).2, rfl, _, _, rfl, rfl, wide_mul (a := 2600) (b := 102) h1' d2 (by decide) (by decide) (by decide), ?_⟩
      refine ⟨.int (fr (dotM (cs.getD i []) ss) (cs.getD i []).sum).1, rfl, .int wv, rfl, _, _, rfl, rfl, wide_mul (a := 203) (b := 98) d1 hwb (by decide) (by decide) (by decide), .int (tb cs ws ss i).2, rfl, _, _, rfl, rfl, wide_mul (a := 301) (b := 600) (mul_b d1 hwb) h2' (by decide) (by decide) (by decide), _, _, rfl, rfl, ?_⟩
      refine ⟨.int (tb cs ws ss i).2, rfl, .int (fr (dotM (cs.getD i []) ss) (cs.getD i []).sum).2, rfl, _, _, rfl, rfl, wide_mul (a := 600) (b := 102) h2' d2 (by decide) (by decide) (by decide), ?_⟩
      refine ⟨some (.ref p), some (.int wv), some (.int (fr (dotM (cs.getD i []) ss) (cs.getD i []).sum).1), some (.int (fr (dotM (cs.getD i []) ss) (cs.getD i []).sum).2), ?_, c3.trans s3⟩
      rw [← ew]
      rfl
    subst c1
    rw [← hcl]
    have hW0 := lcm_map_pos M
    have ST := strength_mix M hW0 ss (fun i hi => dvd_lcm _ i hi) mc
    obtain ⟨tbp, _⟩ := tb_inv M (W := lcmZ cs cs.length) ss (fun i hi => dvd_lcm _ i hi) cs.length (Nat.le_refl _)
    obtain ⟨h1, h2⟩ := tb_bd M hz102 e2s cs.length (Nat.le_refl _)
    have h2' : (tb cs ws ss cs.length).2.natAbs < 2 ^ 600 := Nat.lt_of_lt_of_le h2 (Nat.pow_le_pow_right (by decide) (by omega))
    have wsb : ws.sum.natAbs < 2 ^ 102 := by
      have hw : ws.sum ≤ ws.length * 2 ^ 98 := sum_lt M.w0
      have hl : (ws.length : Int) * 2 ^ 98 ≤ 8 * 2 ^ 98 := Int.mul_le_mul_of_nonneg_right (by rw [M.wl]; omega) (by decide +kernel)
      have h3 : (8 : Int) * 2 ^ 98 < 2 ^ 102 := by decide +kernel
      exact abs_lt (Int.le_of_lt M.wp) (by omega)
    have mx16 : LI H' mx (mixC cs ws k) := c2 _ _ mx15
    refine ⟨.ref mx, rfl, .ref D6, rfl, mx, D6, mixC cs ws k, ss, rfl, mx16, mc, Int.lt_of_lt_of_le mz (two_le (by decide)), c2 _ _ e6, by rw [ml, e1s], e2s, c2 _ _ q1c, c2 _ _ q1s, c2 _ _ q1g, fun u H17 s17 nu hu => ?_⟩
    have c17 := c2.trans s17
    refine ⟨.int (tb cs ws ss cs.length).1, rfl, .int (tb cs ws ss cs.length).2, rfl, .ref D2, rfl, D2, ws, rfl, SqL.of (c17 _ _ l15), _, _, rfl, rfl, wide_mul (a := 600) (b := 102) h2' wsb (by decide) (by decide) (by decide), _, _, rfl, Int.mul_pos tbp M.wp, ?_, fun v H18 s18 nv hv => ?_⟩
    · exact Int.lt_of_lt_of_le (nat_lt (mul_b h2' wsb)) (two_le (by decide))
    have hu' : TQ H18 u (frM (tb cs ws ss cs.length).1 ((tb cs ws ss cs.length).2 * ws.sum)) := by
      rw [← ST]
      rw [dot_eq] at hu
      exact s18 _ _ hu
    have hv' : TQ H18 v (frM (tb cs ws ss cs.length).1 ((tb cs ws ss cs.length).2 * ws.sum)) := hv
    refine ⟨_, _, dp_tq hu', dp_tq hv', shp_tq _, shp_tq _, _, rfl, ?_⟩
    rw [eqv_tq]
    refine iteF ?_
    have c18 := c17.trans s18
    refine ⟨.ref mx, rfl, .ref mx, rfl, by show 2 ≤ 16777216; decide, fun L1 nL1 => ?_⟩
    have sa := sameN (o := .lst [.ref mx, .ref mx]) nL1
    have hL1 : L2.upd H18 L1 (.lst [.ref mx, .ref mx]) L1 = some (.lst [.ref mx, .ref mx]) := upd_same
    generalize L2.upd H18 L1 (.lst [.ref mx, .ref mx]) = H19 at *
    refine ⟨by show 2 ≤ 16777216; decide, fun L3 nL3 => ?_⟩
    have sb := sameN (o := .lst [.int 1, .int 2]) nL3
    have hL3 : LI (L2.upd H19 L3 (.lst [.int 1, .int 2])) L3 [1, 2] := upd_same
    have hL1' := sb _ _ hL1
    generalize L2.upd H19 L3 (.lst [.int 1, .int 2]) = H20 at *
    have c20 := (c18.trans sa).trans sb
    have Mm : Mix [mixC cs ws k, mixC cs ws k] [1, 2] k := by
      refine ⟨by show 0 < 2; decide, by show 2 ≤ 8; decide, rfl, fun c h => ?_, fun c h => ?_, fun c h => ?_, fun x h => ?_, by decide⟩
      · simp only [List.mem_cons, List.not_mem_nil, or_false, or_self] at h
        rw [h]; exact mc
      · simp only [List.mem_cons, List.not_mem_nil, or_false, or_self] at h
        rw [h]; exact ml
      · simp only [List.mem_cons, List.not_mem_nil, or_false, or_self] at h
        rw [h]; exact mixC_small M hz102 (by omega)
      · simp only [List.mem_cons, List.not_mem_nil, or_false] at h
        have p98 : (2 : Int) < 2 ^ 98 := by decide +kernel
        omega
    have Pm : Pots H20 L1 [mx, mx] [mixC cs ws k, mixC cs ws k] := ⟨hL1', rfl, fun i q hq => by
      match i, hq with
      | 0, hq => cases hq; exact c20 _ _ mx15
      | 1, hq => cases hq; exact c20 _ _ mx15⟩
    refine ⟨L1, L3, [mx, mx], [mixC cs ws k, mixC cs ws k], [1, 2], k, rfl, Pm, hL3, Mm, c20 _ _ q1c, c20 _ _ q1l, fun u2 H21 s21 nu2 lu2 => ?_⟩
    have MS := mix_self (W := lcmZ [mixC cs ws k, mixC cs ws k] 2) Mm (lcm_map_pos Mm) (dvd_lcm (cs := [mixC cs ws k, mixC cs ws k]) 2 0 (by decide))
    have lu3 : LI H21 u2 (mixC cs ws k) := by
      have := lu2
      rw [show Ma.plain (mixL [mixC cs ws k, mixC cs ws k] [1, 2] (lcmZ [mixC cs ws k, mixC cs ws k] [mixC cs ws k, mixC cs ws k].length) k [mixC cs ws k, mixC cs ws k].length) = mixC cs ws k from MS] at this
      exact this
    have c21 := c20.trans s21
    refine ⟨.ref mx, rfl, _, _, dp_li lu3, dp_li (c21 _ _ mx15), shaped_ints _, shaped_ints _, _, rfl, ?_⟩
    rw [eqv_ints]
    refine iteF ?_
    refine ⟨.ref j, rfl, .ref D, rfl, .ref t, rfl, j, D, t, _, ps, cs, a, b, k, rfl, e5.keep c21, by omega, P15.same c21, by omega, hcon, hne, hDj, c21 _ _ t15, kt, c21 _ _ q1c, fun H22 b22 f22 j22 => ?_⟩
    exact q H22 ((BC.trans (But.of (j := j) c21)).trans b22) (j22.le (by omega))

end
end K29
end

section
set_option Elab.async false
set_option linter.all false
set_option maxRecDepth 100000
set_option maxHeartbeats 4000000
namespace K29
open PySem PySem.Spec PyProof.Rows L2 GxR Gx Ma
section
variable {P : Program} {w : World} {K : PySem.W.Frag} {mg : Str → Option Value} {base : Heap}

def sp_law (K : PySem.W.Frag) (Tc Tl Tk Tr Ts Tg : Addr) : Sp := fun vs H Q _ => ∃ (s : Addr) (ns : List Int), vs = [V.ref s] ∧ SqL K H s (ns.map V.int) ∧ ns.length ≤ 63 ∧ H Tc = some (TabO Tc) ∧ H Tl = some (TabO Tl) ∧ H Tk = some (TabO Tk) ∧ H Tr = some (TabO Tr) ∧ H Ts = some (TabO Ts) ∧ H Tg = some (TabO Tg) ∧ ∀ H', H' Tc = some (TabO Tc) → H' Tl = some (TabO Tl) → H' Tk = some (TabO Tk) → H' Tr = some (TabO Tr) → H' Ts = some (TabO Ts) → H' Tg = some (TabO Tg) → Q (.bl true) H'

theorem ok_law {f : Addr} {fd : FuncData}  (F : Fun K "law" "law" s_law f fd) (B : Bl mg) {Tc Tl Tk Tr Ts Tg : Addr} (C__law_jar : Cal P w K mg base 1 "_law_jar" ["script", "k"] (sp_jar K)) (C__law_dip : Cal P w K mg base 1 "_law_dip" ["jar", "many"] sp_dip) (C__law_right : Cal P w K mg base 13 "_law_right" ["jar", "many", "size"] (sp_lright Tc Tl Tk Tr Ts Tg)) : FnG P w K mg base 14 f fd ["script"] (sp_law K Tc Tl Tk Tr Ts Tg) := by
  refine fnG_of F sc_law (fun vs H Q E h => ?_) (fun cdv A outer s H vs Q E hr hgd h => ?_)
  · obtain ⟨s, ns, rfl, _⟩ := h; rfl
  · obtain ⟨s, ns, rfl, hs, hlen, gc, gl, gk, gr, gs, gg, qq⟩ := h
    have nd := sc_law.nd
    refine ⟨_, (pss_cons (ps_for PassesOwn.never rfl (pi_range1 rfl B.range (pa_cons (pe_callB (call_max2 rfl) (by rfl) B.max (by decide +kernel) (pa_cons pe_int (pa_cons (pe_callB (call_min2 rfl) (by rfl) B.min (by decide +kernel) (pa_cons pe_int (pa_cons (pe_callB call_len_seq (by rfl) B.len PySem.boot_len (pa_cons (pv 0) pa_nil)) pa_nil))) pa_nil))) pa_nil)) (pg_name (i := 1) nd rfl (Or.inl rfl)) (pss_cons (ps_set (i := 2) nd rfl (Or.inl rfl) (pe_cal C__law_jar (hr.mono (by decide)) (pa_cons (pv 0) (pa_cons (pv 1) pa_nil))))
      (pss_one (ps_for PassesOwn.never rfl (pi_range1 rfl B.range (pa_cons pe_int pa_nil)) (pg_name (i := 3) nd rfl (Or.inl rfl)) (pss_one (ps_if (pt_not (pt_val (pe_cal C__law_right (hr.mono (by decide)) (pa_cons (pv 2) (pa_cons (pe_op op_add pe_int (pe_cal C__law_dip (hr.mono (by decide)) (pa_cons (pv 2) (pa_cons pe_int pa_nil)))) (pa_cons (pe_cal C__law_dip (hr.mono (by decide)) (pa_cons (pv 2) (pa_cons pe_int pa_nil))) pa_nil))))))
      (pss_one (ps_ret pe_bl)) pss_nil))))))
      (pss_one (ps_ret (pe_cal C__law_right (hr.mono (by decide)) (pa_cons (pe_cal C__law_jar (hr.mono (by decide)) (pa_cons (pv 0) (pa_cons pe_int pa_nil))) (pa_cons pe_int (pa_cons pe_int pa_nil))))))), ?_⟩
    refine ⟨.ref s, rfl, s, _, rfl, .inl hs, 5, _, rfl, 1, _, rfl, ?_⟩
    generalize hN : (if (if ((ns.map V.int).length : Int) < 5 then ((ns.map V.int).length : Int) else 5) > 1 then (if ((ns.map V.int).length : Int) < 5 then ((ns.map V.int).length : Int) else 5) else 1) = N
    have hN5 : N ≤ 5 := by
      rw [← hN]
      split <;> split <;> omega
    have hN1 : 1 ≤ N := by
      rw [← hN]
      split <;> split <;> omega
    refine ⟨N, rfl, by omega, by omega, ?_⟩
    refine for_range (lo := 0) (n := N.toNat) (fun i σ H' => ∃ y1 y2 y3, σ = [some (.ref s), y1, y2, y3] ∧ Same H H') ⟨none, none, none, rfl, sameR H⟩ (fun i σ H' hi ⟨y1, y2, y3, e1, e2⟩ => ?_) (fun σ H' ⟨y1, y2, y3, e1, e2⟩ => ?_)
    · subst e1
      refine ⟨.ref s, rfl, .int (0 + (i : Nat)), rfl, s, ns, i, by rw [Int.zero_add]; rfl, sql_same hs e2, by omega, fun j H1 s1 nj hj => ?_⟩
      have e3 := e2.trans s1
      have nj0 : H j = none := e2.free nj
      refine ⟨2, rfl, by decide, by decide, ?_⟩
      refine for_range (lo := 0) (n := 2) (fun t σ H' => ∃ z3, σ = [some (.ref s), some (.int (0 + (i : Nat))), some (.ref j), z3] ∧ Same H H' ∧ Jar H' j (1000 * t)) ⟨_, rfl, e3, hj⟩ (fun t σ H2 ht ⟨z3, d1, d2, d3⟩ => ?_) (fun σ H2 ⟨z3, d1, d2, d3⟩ => ⟨_, _, _, d1, d2⟩)
      subst d1
      refine ⟨.ref j, rfl, .ref j, rfl, j, 8, _, rfl, d3, by omega, by decide, by decide +kernel, fun d H3 b3 f3 j3 x0 x1 => ⟨1, d, rfl, rfl, ?_⟩⟩
      obtain ⟨dn, rfl⟩ := Int.eq_ofNat_of_zero_le x0
      have d4 : Same H H3 := b3.same2 d2 nj0
      refine ⟨.ref j, rfl, j, 15, _, rfl, j3, by omega, by decide, by decide +kernel, fun e H4 b4 f4 j4 v0 v1 => ?_⟩
      obtain ⟨en, rfl⟩ := Int.eq_ofNat_of_zero_le v0
      have d5 : Same H H4 := b4.same2 d4 nj0
      refine ⟨j, _, 1 + dn, en, rfl, j4, by omega, by omega, by omega, by omega, d5 _ _ gc, d5 _ _ gl, d5 _ _ gk, d5 _ _ gr, d5 _ _ gs, d5 _ _ gg, fun H5 b5 j5 => ⟨true, rfl, iteF ?_⟩⟩
      exact ⟨_, rfl, b5.same2 d5 nj0, j5.le (by omega)⟩
    subst e1
    refine ⟨.ref s, rfl, s, ns, 0, rfl, sql_same hs e2, by decide, fun j H1 s1 nj hj => ?_⟩
    have e3 := e2.trans s1
    have nj0 : H j = none := e2.free nj
    refine ⟨j, 0, 8, 60, rfl, hj, by decide, by decide, by decide, by decide, e3 _ _ gc, e3 _ _ gl, e3 _ _ gk, e3 _ _ gr, e3 _ _ gs, e3 _ _ gg, fun H2 b2 j2 => ?_⟩
    have e4 : Same H H2 := b2.same2 e3 nj0
    exact qq H2 (e4 _ _ gc) (e4 _ _ gl) (e4 _ _ gk) (e4 _ _ gr) (e4 _ _ gs) (e4 _ _ gg)

end
end K29
end

section
set_option Elab.async false
set_option linter.all false
set_option maxRecDepth 100000
set_option maxHeartbeats 4000000
namespace K29
open PySem PySem.Spec PyProof.Rows L2 GxR Gx Ma

theorem k29_end {l : PySem.W.OpenLaw} {q : Program} {w : World} {K : PySem.W.Frag} {mg : Str → Option Value} {fa : Addr} {c_is_list_of_amounts P_is_list_of_amounts c_is_list_of_contents P_is_list_of_contents c_is_list_of_keeps P_is_list_of_keeps c_is_list_of_liquids P_is_list_of_liquids c_is_list_of_strengths P_is_list_of_strengths c_strength_of P_strength_of : Addr} (hmg : mg "law" = some (.ref fa))
  (d_is_integer : DF K mg "is_integer" s_is_integer)
  (d_is_within : DF K mg "is_within" s_is_within)
  (d_is_pair_in_lowest_terms : DF K mg "is_pair_in_lowest_terms" s_is_pair_in_lowest_terms)
  (d_is_kept : DF K mg "is_kept" s_is_kept)
  (d_is_list_of_keeps : DC K mg "is_list_of_keeps" s_is_list_of_keeps c_is_list_of_keeps) (t_is_list_of_keeps : PySem.W.tabIn K "is_list_of_keeps" = some (c_is_list_of_keeps, P_is_list_of_keeps)) (n_is_list_of_keeps : K.lookup P_is_list_of_keeps = none) (r_is_list_of_keeps : ((recsOf q).any fun e => e.name == ("is_list_of_keeps" : Str)) = true)
  (d_is_list_of_liquids : DC K mg "is_list_of_liquids" s_is_list_of_liquids c_is_list_of_liquids) (t_is_list_of_liquids : PySem.W.tabIn K "is_list_of_liquids" = some (c_is_list_of_liquids, P_is_list_of_liquids)) (n_is_list_of_liquids : K.lookup P_is_list_of_liquids = none) (r_is_list_of_liquids : ((recsOf q).any fun e => e.name == ("is_list_of_liquids" : Str)) = true)
  (d_is_row : DF K mg "is_row" s_is_row)
  (d_check_kept : DF K mg "check_kept" s_check_kept)
  (d_check_keeps : DF K mg "check_keeps" s_check_keeps)
  (d_check_row : DF K mg "check_row" s_check_row)
  (d_check_liquid : DF K mg "check_liquid" s_check_liquid)
  (d_lowest_terms : DF K mg "lowest_terms" s_lowest_terms)
  (d_common_divisor : DF K mg "common_divisor" s_common_divisor)
  (d_without_divisor : DF K mg "without_divisor" s_without_divisor)
  (d_is_content : DF K mg "is_content" s_is_content)
  (d_share_of : DF K mg "share_of" s_share_of)
  (d_mixed_content : DF K mg "mixed_content" s_mixed_content)
  (d_mixture_of : DF K mg "mixture_of" s_mixture_of)
  (d_is_list_of_amounts : DC K mg "is_list_of_amounts" s_is_list_of_amounts c_is_list_of_amounts) (t_is_list_of_amounts : PySem.W.tabIn K "is_list_of_amounts" = some (c_is_list_of_amounts, P_is_list_of_amounts)) (n_is_list_of_amounts : K.lookup P_is_list_of_amounts = none) (r_is_list_of_amounts : ((recsOf q).any fun e => e.name == ("is_list_of_amounts" : Str)) = true)
  (d_is_list_of_contents : DC K mg "is_list_of_contents" s_is_list_of_contents c_is_list_of_contents) (t_is_list_of_contents : PySem.W.tabIn K "is_list_of_contents" = some (c_is_list_of_contents, P_is_list_of_contents)) (n_is_list_of_contents : K.lookup P_is_list_of_contents = none) (r_is_list_of_contents : ((recsOf q).any fun e => e.name == ("is_list_of_contents" : Str)) = true)
  (d_check_content : DF K mg "check_content" s_check_content)
  (d_check_contents : DF K mg "check_contents" s_check_contents)
  (d_check_amounts : DF K mg "check_amounts" s_check_amounts)
  (d_check_weights : DF K mg "check_weights" s_check_weights)
  (d_strength_of : DC K mg "strength_of" s_strength_of c_strength_of) (t_strength_of : PySem.W.tabIn K "strength_of" = some (c_strength_of, P_strength_of)) (n_strength_of : K.lookup P_strength_of = none) (r_strength_of : ((recsOf q).any fun e => e.name == ("strength_of" : Str)) = true)
  (d_check_strengths : DF K mg "check_strengths" s_check_strengths)
  (d_is_list_of_strengths : DC K mg "is_list_of_strengths" s_is_list_of_strengths c_is_list_of_strengths) (t_is_list_of_strengths : PySem.W.tabIn K "is_list_of_strengths" = some (c_is_list_of_strengths, P_is_list_of_strengths)) (n_is_list_of_strengths : K.lookup P_is_list_of_strengths = none) (r_is_list_of_strengths : ((recsOf q).any fun e => e.name == ("is_list_of_strengths" : Str)) = true)
  (d_topped : DF K mg "topped" s_topped)
  (d_topped_row : DF K mg "topped_row" s_topped_row)
  (d_contents_along : DF K mg "contents_along" s_contents_along)
  (d_topped_by : DF K mg "topped_by" s_topped_by)
  (d_content_behind : DF K mg "content_behind" s_content_behind)
  (d_contents_by : DF K mg "contents_by" s_contents_by)
  (d__law_jar : DF K mg "_law_jar" s__law_jar)
  (d__law_dip : DF K mg "_law_dip" s__law_dip)
  (d__law_gcd : DF K mg "_law_gcd" s__law_gcd)
  (d__law_plain : DF K mg "_law_plain" s__law_plain)
  (d__law_part : DF K mg "_law_part" s__law_part)
  (d__law_step : DF K mg "_law_step" s__law_step)
  (d__law_walk : DF K mg "_law_walk" s__law_walk)
  (d__law_share : DF K mg "_law_share" s__law_share)
  (d__law_pure : DF K mg "_law_pure" s__law_pure)
  (d__law_spots : DF K mg "_law_spots" s__law_spots)
  (d__law_filled : DF K mg "_law_filled" s__law_filled)
  (d__law_right : DF K mg "_law_right" s__law_right)
  (d__law_gap : DF K mg "_law_gap" s__law_gap)
  (d__law_shrinks : DF K mg "_law_shrinks" s__law_shrinks)
  (d_law : DF K mg "law" s_law)
  (b_abs : mg "abs" = none) (b_all : mg "all" = none) (b_bool : mg "bool" = none) (b_int : mg "int" = none) (b_isinstance : mg "isinstance" = none) (b_len : mg "len" = none) (b_list : mg "list" = none) (b_max : mg "max" = none) (b_min : mg "min" = none) (b_range : mg "range" = none) (b_sum : mg "sum" = none) (b_tuple : mg "tuple" = none) (b_type : mg "type" = none) (b_zip : mg "zip" = none) (b_MOST_LIQUIDS : ∃ t, mg "MOST_LIQUIDS" = some (.int 8 t)) (b_MOST_PARTS : ∃ t, mg "MOST_PARTS" = some (.int 100 t)) (b_MOST_TOP_UPS : ∃ t, mg "MOST_TOP_UPS" = some (.int 60 t)) (b_gcd : mg "gcd" = some (.builtin "math.gcd")) (b_lcm : mg "lcm" = some (.builtin "math.lcm")) : Gx.LawE l q w K 14 63 "script" mg fa := by
  have B : Bl mg := { abs := b_abs, all := b_all, bool := b_bool, int := b_int, isinstance := b_isinstance, len := b_len, list := b_list, max := b_max, min := b_min, range := b_range, sum := b_sum, tuple := b_tuple, type := b_type, zip := b_zip, MOST_LIQUIDS := b_MOST_LIQUIDS, MOST_PARTS := b_MOST_PARTS, MOST_TOP_UPS := b_MOST_TOP_UPS, gcd := b_gcd, lcm := b_lcm }
  obtain ⟨f, fd, F0, m0⟩ := d_law.ex
  obtain rfl : f = fa := by
    rw [m0] at hmg
    cases hmg
    rfl
  refine ⟨fd, [("is_list_of_amounts", c_is_list_of_amounts, P_is_list_of_amounts), ("is_list_of_contents", c_is_list_of_contents, P_is_list_of_contents), ("is_list_of_keeps", c_is_list_of_keeps, P_is_list_of_keeps), ("is_list_of_liquids", c_is_list_of_liquids, P_is_list_of_liquids), ("is_list_of_strengths", c_is_list_of_strengths, P_is_list_of_strengths), ("strength_of", c_strength_of, P_strength_of)], sp_law K P_is_list_of_amounts P_is_list_of_contents P_is_list_of_keeps P_is_list_of_liquids P_is_list_of_strengths P_strength_of, ?_, ?_, ?_, ?_⟩
  · simp only [List.forall_mem_cons, List.not_mem_nil, false_imp_iff, implies_true, and_true]
    exact ⟨⟨t_is_list_of_amounts, r_is_list_of_amounts, n_is_list_of_amounts⟩, ⟨t_is_list_of_contents, r_is_list_of_contents, n_is_list_of_contents⟩, ⟨t_is_list_of_keeps, r_is_list_of_keeps, n_is_list_of_keeps⟩, ⟨t_is_list_of_liquids, r_is_list_of_liquids, n_is_list_of_liquids⟩, ⟨t_is_list_of_strengths, r_is_list_of_strengths, n_is_list_of_strengths⟩, ⟨t_strength_of, r_strength_of, n_strength_of⟩⟩
  · intro s u
    obtain ⟨oc, od, kV, doc, pm, an, cdv, ct, osl, rfl, lk, hcd⟩ := F0.ex
    exact .of_eq rfl
  · intro H a ns hl _ hT hs
    simp only [List.forall_mem_cons, List.not_mem_nil, false_imp_iff, implies_true, and_true] at hT ⊢
    exact ⟨a, ns, rfl, hs, hl, hT.1, hT.2.1, hT.2.2.1, hT.2.2.2.1, hT.2.2.2.2.1, hT.2.2.2.2.2, fun H1 e1 e2 e3 e4 e5 e6 => ⟨rfl, e1, e2, e3, e4, e5, e6⟩⟩
  intro base _ _ TBs
  simp only [List.forall_mem_cons, List.not_mem_nil, false_imp_iff, implies_true, and_true] at TBs
  obtain ⟨TB_is_list_of_amounts, TB_is_list_of_contents, TB_is_list_of_keeps, TB_is_list_of_liquids, TB_is_list_of_strengths, TB_strength_of⟩ := TBs
  have C__law_jar : Cal l.prog w K mg base 1 "_law_jar" ["script", "k"] ((sp_jar K)) := cal_mk d__law_jar bd__law_jar fun f fd F => ok__law_jar F B
  have C__law_dip : Cal l.prog w K mg base 1 "_law_dip" ["jar", "many"] ((sp_dip)) := cal_mk d__law_dip bd__law_dip fun f fd F => ok__law_dip F B
  have C_is_integer : Cal l.prog w K mg base 1 "is_integer" ["thing"] ((sp_is_integer)) := cal_mk d_is_integer bd_is_integer fun f fd F => ok_is_integer F B
  have C_is_list_of_amounts : Cal l.prog w K mg base 5 "is_list_of_amounts" ["thing"] ((sp_is_list_of_amounts P_is_list_of_amounts)) := calC_mk d_is_list_of_amounts bd_is_list_of_amounts fun f fd F => ok_is_list_of_amounts F B C_is_integer TB_is_list_of_amounts
  have C_common_divisor : Cal l.prog w K mg base 1 "common_divisor" ["numbers"] ((sp_common_divisor)) := cal_mk d_common_divisor bd_common_divisor fun f fd F => ok_common_divisor F B
  have C_is_content : Cal l.prog w K mg base 6 "is_content" ["thing"] ((sp_is_content P_is_list_of_amounts)) := cal_mk d_is_content bd_is_content fun f fd F => ok_is_content F B C_is_list_of_amounts C_common_divisor
  have C_is_list_of_contents : Cal l.prog w K mg base 10 "is_list_of_contents" ["thing"] ((sp_is_list_of_contents P_is_list_of_amounts P_is_list_of_contents)) := calC_mk d_is_list_of_contents bd_is_list_of_contents fun f fd F => ok_is_list_of_contents F B C_is_content TB_is_list_of_contents
  have C_check_contents : Cal l.prog w K mg base 11 "check_contents" ["contents"] ((sp_check_contents P_is_list_of_amounts P_is_list_of_contents)) := cal_mk d_check_contents bd_check_contents fun f fd F => ok_check_contents F B C_is_list_of_contents
  have C_check_amounts : Cal l.prog w K mg base 6 "check_amounts" ["numbers"] ((sp_check_amounts P_is_list_of_amounts)) := cal_mk d_check_amounts bd_check_amounts fun f fd F => ok_check_amounts F B C_is_list_of_amounts C_common_divisor
  have C_check_weights : Cal l.prog w K mg base 7 "check_weights" ["weights", "count"] ((sp_check_weights P_is_list_of_amounts)) := cal_mk d_check_weights bd_check_weights fun f fd F => ok_check_weights F B C_check_amounts
  have C_without_divisor : Cal l.prog w K mg base 2 "without_divisor" ["numbers"] ((sp_without_divisor)) := cal_mk d_without_divisor bd_without_divisor fun f fd F => ok_without_divisor F B C_common_divisor
  have C_mixture_of : Cal l.prog w K mg base 3 "mixture_of" ["contents", "weights"] ((sp_mix0)) := cal_mk d_mixture_of bd_mixture_of fun f fd F => ok_mixture_of F B C_without_divisor
  have C_mixed_content : Cal l.prog w K mg base 12 "mixed_content" ["contents", "weights"] ((sp_mixed P_is_list_of_amounts P_is_list_of_contents)) := cal_mk d_mixed_content bd_mixed_content fun f fd F => ok_mixed_content F B C_check_contents C_check_weights C_mixture_of
  have C_check_content : Cal l.prog w K mg base 7 "check_content" ["content"] ((sp_check_content P_is_list_of_amounts)) := cal_mk d_check_content bd_check_content fun f fd F => ok_check_content F B C_is_content
  have C_is_pair_in_lowest_terms : Cal l.prog w K mg base 2 "is_pair_in_lowest_terms" ["thing"] ((sp_is_pair)) := cal_mk d_is_pair_in_lowest_terms bd_is_pair_in_lowest_terms fun f fd F => ok_is_pair_in_lowest_terms F B C_is_integer
  have C_is_kept : Cal l.prog w K mg base 3 "is_kept" ["thing"] ((sp_is_kept)) := cal_mk d_is_kept bd_is_kept fun f fd F => ok_is_kept F B C_is_pair_in_lowest_terms
  have C_check_kept : Cal l.prog w K mg base 4 "check_kept" ["kept"] ((sp_check_kept)) := cal_mk d_check_kept bd_check_kept fun f fd F => ok_check_kept F B C_is_kept
  have C_is_within : Cal l.prog w K mg base 2 "is_within" ["thing", "least", "most"] ((sp_is_within)) := cal_mk d_is_within bd_is_within fun f fd F => ok_is_within F B C_is_integer
  have C_is_list_of_liquids : Cal l.prog w K mg base 6 "is_list_of_liquids" ["thing", "liquids"] ((sp_is_list_of_liquids P_is_list_of_liquids)) := calC_mk d_is_list_of_liquids bd_is_list_of_liquids fun f fd F => ok_is_list_of_liquids F B C_is_within TB_is_list_of_liquids
  have C_is_row : Cal l.prog w K mg base 7 "is_row" ["thing", "liquids"] ((sp_is_row P_is_list_of_liquids)) := cal_mk d_is_row bd_is_row fun f fd F => ok_is_row F B C_is_list_of_liquids
  have C_check_row : Cal l.prog w K mg base 8 "check_row" ["row", "liquids"] ((sp_check_row P_is_list_of_liquids)) := cal_mk d_check_row bd_check_row fun f fd F => ok_check_row F B C_is_row
  have C_content_behind : Cal l.prog w K mg base 3 "content_behind" ["content", "kept", "liquid"] ((sp_content_behind)) := cal_mk d_content_behind bd_content_behind fun f fd F => ok_content_behind F B C_without_divisor
  have C_contents_by : Cal l.prog w K mg base 4 "contents_by" ["content", "keeps", "row"] ((sp_contents_by)) := cal_mk d_contents_by bd_contents_by fun f fd F => ok_contents_by F B C_content_behind
  have C_contents_along : Cal l.prog w K mg base 9 "contents_along" ["content", "kept", "row"] ((sp_contents_along P_is_list_of_amounts P_is_list_of_liquids)) := cal_mk d_contents_along bd_contents_along fun f fd F => ok_contents_along F B C_check_content C_check_kept C_check_row C_contents_by
  have C_topped_row : Cal l.prog w K mg base 10 "topped_row" ["content", "kept", "row"] ((sp_topped_row P_is_list_of_amounts P_is_list_of_liquids)) := cal_mk d_topped_row bd_topped_row fun f fd F => ok_topped_row F B C_contents_along
  have C_is_list_of_keeps : Cal l.prog w K mg base 7 "is_list_of_keeps" ["thing"] ((sp_is_list_of_keeps P_is_list_of_keeps)) := calC_mk d_is_list_of_keeps bd_is_list_of_keeps fun f fd F => ok_is_list_of_keeps F B C_is_kept TB_is_list_of_keeps
  have C_check_keeps : Cal l.prog w K mg base 8 "check_keeps" ["keeps"] ((sp_check_keeps P_is_list_of_keeps)) := cal_mk d_check_keeps bd_check_keeps fun f fd F => ok_check_keeps F B C_is_list_of_keeps
  have C_topped_by : Cal l.prog w K mg base 9 "topped_by" ["content", "keeps", "row"] ((sp_topped_by P_is_list_of_amounts P_is_list_of_keeps P_is_list_of_liquids)) := cal_mk d_topped_by bd_topped_by fun f fd F => ok_topped_by F B C_check_content C_check_keeps C_check_row C_contents_by
  have C_is_list_of_strengths : Cal l.prog w K mg base 5 "is_list_of_strengths" ["thing"] ((sp_is_strs P_is_list_of_strengths)) := calC_mk d_is_list_of_strengths bd_is_list_of_strengths fun f fd F => ok_is_list_of_strengths F B C_is_integer TB_is_list_of_strengths
  have C_check_strengths : Cal l.prog w K mg base 6 "check_strengths" ["strengths"] ((sp_check_strs P_is_list_of_strengths)) := cal_mk d_check_strengths bd_check_strengths fun f fd F => ok_check_strengths F B C_is_list_of_strengths
  have C_lowest_terms : Cal l.prog w K mg base 1 "lowest_terms" ["top", "bottom"] ((sp_low)) := cal_mk d_lowest_terms bd_lowest_terms fun f fd F => ok_lowest_terms F B
  have C_strength_of : Cal l.prog w K mg base 8 "strength_of" ["content", "strengths"] ((sp_strength P_is_list_of_amounts P_is_list_of_strengths P_strength_of)) := calC_mk d_strength_of bd_strength_of fun f fd F => ok_strength_of F B C_check_content C_check_strengths C_lowest_terms TB_strength_of
  have C__law_gcd : Cal l.prog w K mg base 1 "_law_gcd" ["one", "two"] ((sp_lgcd)) := cal_mk d__law_gcd bd__law_gcd fun f fd F => ok__law_gcd F B
  have C__law_part : Cal l.prog w K mg base 2 "_law_part" ["top", "bottom"] ((sp_lpart)) := cal_mk d__law_part bd__law_part fun f fd F => ok__law_part F B C__law_gcd
  have C__law_plain : Cal l.prog w K mg base 2 "_law_plain" ["numbers_here"] ((sp_without_divisor)) := cal_mk d__law_plain bd__law_plain fun f fd F => ok__law_plain F B C__law_gcd
  have C__law_pure : Cal l.prog w K mg base 1 "_law_pure" ["many", "spot"] ((sp_lpure)) := cal_mk d__law_pure bd__law_pure fun f fd F => ok__law_pure F B
  have C__law_step : Cal l.prog w K mg base 3 "_law_step" ["numbers_here", "stays", "whole", "spot"] ((sp_lstep)) := cal_mk d__law_step bd__law_step fun f fd F => ok__law_step F B C__law_plain
  have C__law_walk : Cal l.prog w K mg base 4 "_law_walk" ["numbers_here", "share_here", "spots"] ((sp_lwalk)) := cal_mk d__law_walk bd__law_walk fun f fd F => ok__law_walk F B C__law_step
  have C__law_share : Cal l.prog w K mg base 3 "_law_share" ["jar"] ((sp_lshare)) := cal_mk d__law_share bd__law_share fun f fd F => ok__law_share F B C__law_dip C__law_part
  have C__law_spots : Cal l.prog w K mg base 2 "_law_spots" ["jar", "many", "size"] ((sp_lspots)) := cal_mk d__law_spots bd__law_spots fun f fd F => ok__law_spots F B C__law_dip
  have C__law_filled : Cal l.prog w K mg base 5 "_law_filled" ["jar", "many", "most"] ((sp_lfilled)) := cal_mk d__law_filled bd__law_filled fun f fd F => ok__law_filled F B C__law_dip C__law_plain C__law_pure C__law_walk C__law_share C__law_spots
  have C_check_liquid : Cal l.prog w K mg base 3 "check_liquid" ["liquid", "liquids"] ((sp_check_liquid)) := cal_mk d_check_liquid bd_check_liquid fun f fd F => ok_check_liquid F B C_is_within
  have C_share_of : Cal l.prog w K mg base 8 "share_of" ["content", "liquid"] ((sp_share_of P_is_list_of_amounts)) := cal_mk d_share_of bd_share_of fun f fd F => ok_share_of F B C_check_content C_check_liquid C_lowest_terms
  have C_topped : Cal l.prog w K mg base 8 "topped" ["content", "kept", "liquid"] ((sp_topped P_is_list_of_amounts)) := cal_mk d_topped bd_topped fun f fd F => ok_topped F B C_check_content C_check_kept C_check_liquid C_content_behind
  have C__law_gap : Cal l.prog w K mg base 3 "_law_gap" ["one", "two"] ((sp_gap)) := cal_mk d__law_gap bd__law_gap fun f fd F => ok__law_gap F B C__law_part
  have C__law_shrinks : Cal l.prog w K mg base 9 "_law_shrinks" ["jar", "pots_here", "share_here"] ((sp_shr P_is_list_of_amounts)) := cal_mk d__law_shrinks bd__law_shrinks fun f fd F => ok__law_shrinks F B C_share_of C_topped C__law_dip C__law_part C__law_gap
  have C__law_right : Cal l.prog w K mg base 13 "_law_right" ["jar", "many", "size"] ((sp_lright P_is_list_of_amounts P_is_list_of_contents P_is_list_of_keeps P_is_list_of_liquids P_is_list_of_strengths P_strength_of)) := cal_mk d__law_right bd__law_right fun f fd F => ok__law_right F B C_mixed_content C_topped_row C_topped_by C_strength_of C__law_dip C__law_part C__law_filled C__law_share C__law_spots C__law_shrinks
  exact ok_law F0 B C__law_jar C__law_dip C__law_right

end K29
end

section
set_option Elab.async false
set_option linter.all false
set_option maxRecDepth 100000
open PySem PySem.W PyProof.Rows K29 Gx
set_option maxHeartbeats 0 in
theorem PySem.Challenge.cw_topups_k29_whole_mixtures_topped_up_holds : PySem.Challenge.rw_topups_k29_whole_mixtures_topped_up.Holds := by
  w_on; o_law; k_head; (case hw => w_witness2)
  k_fill
  refine Gx.walk_E (l := PySem.Challenge.rw_topups_k29_whole_mixtures_topped_up) (n := 63) (k := 14) (x := "script") rfl (by decide) rfl ⟨rfl, by decide, by decide⟩ (fun w h Y => PySem.W.kIn_of Y) ?F
  case F =>
    intro w mg fa h KX G hmg
    refine' with_df (x := "is_integer") (st := s_is_integer) KX G ?a0 ?l0 ?c0 ?k0 ?go0
    (case a0 => k_is); (case l0 => k_is); (case c0 => k_is); (case k0 => k_is)
    intro d_is_integer
    refine' with_df (x := "is_within") (st := s_is_within) KX G ?a1 ?l1 ?c1 ?k1 ?go1
    (case a1 => k_is); (case l1 => k_is); (case c1 => k_is); (case k1 => k_is)
    intro d_is_within
    refine' with_df (x := "is_pair_in_lowest_terms") (st := s_is_pair_in_lowest_terms) KX G ?a2 ?l2 ?c2 ?k2 ?go2
    (case a2 => k_is); (case l2 => k_is); (case c2 => k_is); (case k2 => k_is)
    intro d_is_pair_in_lowest_terms
    refine' with_df (x := "is_kept") (st := s_is_kept) KX G ?a3 ?l3 ?c3 ?k3 ?go3
    (case a3 => k_is); (case l3 => k_is); (case c3 => k_is); (case k3 => k_is)
    intro d_is_kept
    refine' with_dc (x := "is_list_of_keeps") (st := s_is_list_of_keeps) KX G ?a4 ?l4 ?c4 ?k4 ?t4 ?r4 ?n4 ?go4
    (case a4 => k_is); (case l4 => k_is); (case c4 => k_is); (case k4 => k_is); (case t4 => k_is); (case r4 => rfl); (case n4 => first | kernel_rfl | rfl | decide +kernel)
    intro c_is_list_of_keeps P_is_list_of_keeps d_is_list_of_keeps t_is_list_of_keeps n_is_list_of_keeps
    refine' with_dc (x := "is_list_of_liquids") (st := s_is_list_of_liquids) KX G ?a5 ?l5 ?c5 ?k5 ?t5 ?r5 ?n5 ?go5
    (case a5 => k_is); (case l5 => k_is); (case c5 => k_is); (case k5 => k_is); (case t5 => k_is); (case r5 => rfl); (case n5 => first | kernel_rfl | rfl | decide +kernel)
    intro c_is_list_of_liquids P_is_list_of_liquids d_is_list_of_liquids t_is_list_of_liquids n_is_list_of_liquids
    refine' with_df (x := "is_row") (st := s_is_row) KX G ?a6 ?l6 ?c6 ?k6 ?go6
    (case a6 => k_is); (case l6 => k_is); (case c6 => k_is); (case k6 => k_is)
    intro d_is_row
    refine' with_df (x := "check_kept") (st := s_check_kept) KX G ?a7 ?l7 ?c7 ?k7 ?go7
    (case a7 => k_is); (case l7 => k_is); (case c7 => k_is); (case k7 => k_is)
    intro d_check_kept
    refine' with_df (x := "check_keeps") (st := s_check_keeps) KX G ?a8 ?l8 ?c8 ?k8 ?go8
    (case a8 => k_is); (case l8 => k_is); (case c8 => k_is); (case k8 => k_is)
    intro d_check_keeps
    refine' with_df (x := "check_row") (st := s_check_row) KX G ?a9 ?l9 ?c9 ?k9 ?go9
    (case a9 => k_is); (case l9 => k_is); (case c9 => k_is); (case k9 => k_is)
    intro d_check_row
    refine' with_df (x := "check_liquid") (st := s_check_liquid) KX G ?a10 ?l10 ?c10 ?k10 ?go10
    (case a10 => k_is); (case l10 => k_is); (case c10 => k_is); (case k10 => k_is)
    intro d_check_liquid
    refine' with_df (x := "lowest_terms") (st := s_lowest_terms) KX G ?a11 ?l11 ?c11 ?k11 ?go11
    (case a11 => k_is); (case l11 => k_is); (case c11 => k_is); (case k11 => k_is)
    intro d_lowest_terms
    refine' with_df (x := "common_divisor") (st := s_common_divisor) KX G ?a12 ?l12 ?c12 ?k12 ?go12
    (case a12 => k_is); (case l12 => k_is); (case c12 => k_is); (case k12 => k_is)
    intro d_common_divisor
    refine' with_df (x := "without_divisor") (st := s_without_divisor) KX G ?a13 ?l13 ?c13 ?k13 ?go13
    (case a13 => k_is); (case l13 => k_is); (case c13 => k_is); (case k13 => k_is)
    intro d_without_divisor
    refine' with_df (x := "is_content") (st := s_is_content) KX G ?a14 ?l14 ?c14 ?k14 ?go14
    (case a14 => k_is); (case l14 => k_is); (case c14 => k_is); (case k14 => k_is)
    intro d_is_content
    refine' with_df (x := "share_of") (st := s_share_of) KX G ?a15 ?l15 ?c15 ?k15 ?go15
    (case a15 => k_is); (case l15 => k_is); (case c15 => k_is); (case k15 => k_is)
    intro d_share_of
    refine' with_df (x := "mixed_content") (st := s_mixed_content) KX G ?a16 ?l16 ?c16 ?k16 ?go16
    (case a16 => k_is); (case l16 => k_is); (case c16 => k_is); (case k16 => k_is)
    intro d_mixed_content
    refine' with_df (x := "mixture_of") (st := s_mixture_of) KX G ?a17 ?l17 ?c17 ?k17 ?go17
    (case a17 => k_is); (case l17 => k_is); (case c17 => k_is); (case k17 => k_is)
    intro d_mixture_of
    refine' with_dc (x := "is_list_of_amounts") (st := s_is_list_of_amounts) KX G ?a18 ?l18 ?c18 ?k18 ?t18 ?r18 ?n18 ?go18
    (case a18 => k_is); (case l18 => k_is); (case c18 => k_is); (case k18 => k_is); (case t18 => k_is); (case r18 => rfl); (case n18 => first | kernel_rfl | rfl | decide +kernel)
    intro c_is_list_of_amounts P_is_list_of_amounts d_is_list_of_amounts t_is_list_of_amounts n_is_list_of_amounts
    refine' with_dc (x := "is_list_of_contents") (st := s_is_list_of_contents) KX G ?a19 ?l19 ?c19 ?k19 ?t19 ?r19 ?n19 ?go19
    (case a19 => k_is); (case l19 => k_is); (case c19 => k_is); (case k19 => k_is); (case t19 => k_is); (case r19 => rfl); (case n19 => first | kernel_rfl | rfl | decide +kernel)
    intro c_is_list_of_contents P_is_list_of_contents d_is_list_of_contents t_is_list_of_contents n_is_list_of_contents
    refine' with_df (x := "check_content") (st := s_check_content) KX G ?a20 ?l20 ?c20 ?k20 ?go20
    (case a20 => k_is); (case l20 => k_is); (case c20 => k_is); (case k20 => k_is)
    intro d_check_content
    refine' with_df (x := "check_contents") (st := s_check_contents) KX G ?a21 ?l21 ?c21 ?k21 ?go21
    (case a21 => k_is); (case l21 => k_is); (case c21 => k_is); (case k21 => k_is)
    intro d_check_contents
    refine' with_df (x := "check_amounts") (st := s_check_amounts) KX G ?a22 ?l22 ?c22 ?k22 ?go22
    (case a22 => k_is); (case l22 => k_is); (case c22 => k_is); (case k22 => k_is)
    intro d_check_amounts
    refine' with_df (x := "check_weights") (st := s_check_weights) KX G ?a23 ?l23 ?c23 ?k23 ?go23
    (case a23 => k_is); (case l23 => k_is); (case c23 => k_is); (case k23 => k_is)
    intro d_check_weights
    refine' with_dc (x := "strength_of") (st := s_strength_of) KX G ?a24 ?l24 ?c24 ?k24 ?t24 ?r24 ?n24 ?go24
    (case a24 => k_is); (case l24 => k_is); (case c24 => k_is); (case k24 => k_is); (case t24 => k_is); (case r24 => rfl); (case n24 => first | kernel_rfl | rfl | decide +kernel)
    intro c_strength_of P_strength_of d_strength_of t_strength_of n_strength_of
    refine' with_df (x := "check_strengths") (st := s_check_strengths) KX G ?a25 ?l25 ?c25 ?k25 ?go25
    (case a25 => k_is); (case l25 => k_is); (case c25 => k_is); (case k25 => k_is)
    intro d_check_strengths
    refine' with_dc (x := "is_list_of_strengths") (st := s_is_list_of_strengths) KX G ?a26 ?l26 ?c26 ?k26 ?t26 ?r26 ?n26 ?go26
    (case a26 => k_is); (case l26 => k_is); (case c26 => k_is); (case k26 => k_is); (case t26 => k_is); (case r26 => rfl); (case n26 => first | kernel_rfl | rfl | decide +kernel)
    intro c_is_list_of_strengths P_is_list_of_strengths d_is_list_of_strengths t_is_list_of_strengths n_is_list_of_strengths
    refine' with_df (x := "topped") (st := s_topped) KX G ?a27 ?l27 ?c27 ?k27 ?go27
    (case a27 => k_is); (case l27 => k_is); (case c27 => k_is); (case k27 => k_is)
    intro d_topped
    refine' with_df (x := "topped_row") (st := s_topped_row) KX G ?a28 ?l28 ?c28 ?k28 ?go28
    (case a28 => k_is); (case l28 => k_is); (case c28 => k_is); (case k28 => k_is)
    intro d_topped_row
    refine' with_df (x := "contents_along") (st := s_contents_along) KX G ?a29 ?l29 ?c29 ?k29 ?go29
    (case a29 => k_is); (case l29 => k_is); (case c29 => k_is); (case k29 => k_is)
    intro d_contents_along
    refine' with_df (x := "topped_by") (st := s_topped_by) KX G ?a30 ?l30 ?c30 ?k30 ?go30
    (case a30 => k_is); (case l30 => k_is); (case c30 => k_is); (case k30 => k_is)
    intro d_topped_by
    refine' with_df (x := "content_behind") (st := s_content_behind) KX G ?a31 ?l31 ?c31 ?k31 ?go31
    (case a31 => k_is); (case l31 => k_is); (case c31 => k_is); (case k31 => k_is)
    intro d_content_behind
    refine' with_df (x := "contents_by") (st := s_contents_by) KX G ?a32 ?l32 ?c32 ?k32 ?go32
    (case a32 => k_is); (case l32 => k_is); (case c32 => k_is); (case k32 => k_is)
    intro d_contents_by
    refine' with_df (x := "_law_jar") (st := s__law_jar) KX G ?a33 ?l33 ?c33 ?k33 ?go33
    (case a33 => k_is); (case l33 => k_is); (case c33 => k_is); (case k33 => k_is)
    intro d__law_jar
    refine' with_df (x := "_law_dip") (st := s__law_dip) KX G ?a34 ?l34 ?c34 ?k34 ?go34
    (case a34 => k_is); (case l34 => k_is); (case c34 => k_is); (case k34 => k_is)
    intro d__law_dip
    refine' with_df (x := "_law_gcd") (st := s__law_gcd) KX G ?a35 ?l35 ?c35 ?k35 ?go35
    (case a35 => k_is); (case l35 => k_is); (case c35 => k_is); (case k35 => k_is)
    intro d__law_gcd
    refine' with_df (x := "_law_plain") (st := s__law_plain) KX G ?a36 ?l36 ?c36 ?k36 ?go36
    (case a36 => k_is); (case l36 => k_is); (case c36 => k_is); (case k36 => k_is)
    intro d__law_plain
    refine' with_df (x := "_law_part") (st := s__law_part) KX G ?a37 ?l37 ?c37 ?k37 ?go37
    (case a37 => k_is); (case l37 => k_is); (case c37 => k_is); (case k37 => k_is)
    intro d__law_part
    refine' with_df (x := "_law_step") (st := s__law_step) KX G ?a38 ?l38 ?c38 ?k38 ?go38
    (case a38 => k_is); (case l38 => k_is); (case c38 => k_is); (case k38 => k_is)
    intro d__law_step
    refine' with_df (x := "_law_walk") (st := s__law_walk) KX G ?a39 ?l39 ?c39 ?k39 ?go39
    (case a39 => k_is); (case l39 => k_is); (case c39 => k_is); (case k39 => k_is)
    intro d__law_walk
    refine' with_df (x := "_law_share") (st := s__law_share) KX G ?a40 ?l40 ?c40 ?k40 ?go40
    (case a40 => k_is); (case l40 => k_is); (case c40 => k_is); (case k40 => k_is)
    intro d__law_share
    refine' with_df (x := "_law_pure") (st := s__law_pure) KX G ?a41 ?l41 ?c41 ?k41 ?go41
    (case a41 => k_is); (case l41 => k_is); (case c41 => k_is); (case k41 => k_is)
    intro d__law_pure
    refine' with_df (x := "_law_spots") (st := s__law_spots) KX G ?a42 ?l42 ?c42 ?k42 ?go42
    (case a42 => k_is); (case l42 => k_is); (case c42 => k_is); (case k42 => k_is)
    intro d__law_spots
    refine' with_df (x := "_law_filled") (st := s__law_filled) KX G ?a43 ?l43 ?c43 ?k43 ?go43
    (case a43 => k_is); (case l43 => k_is); (case c43 => k_is); (case k43 => k_is)
    intro d__law_filled
    refine' with_df (x := "_law_right") (st := s__law_right) KX G ?a44 ?l44 ?c44 ?k44 ?go44
    (case a44 => k_is); (case l44 => k_is); (case c44 => k_is); (case k44 => k_is)
    intro d__law_right
    refine' with_df (x := "_law_gap") (st := s__law_gap) KX G ?a45 ?l45 ?c45 ?k45 ?go45
    (case a45 => k_is); (case l45 => k_is); (case c45 => k_is); (case k45 => k_is)
    intro d__law_gap
    refine' with_df (x := "_law_shrinks") (st := s__law_shrinks) KX G ?a46 ?l46 ?c46 ?k46 ?go46
    (case a46 => k_is); (case l46 => k_is); (case c46 => k_is); (case k46 => k_is)
    intro d__law_shrinks
    refine' with_df (x := "law") (st := s_law) KX G ?a47 ?l47 ?c47 ?k47 ?go47
    (case a47 => k_is); (case l47 => k_is); (case c47 => k_is); (case k47 => k_is)
    intro d_law
    refine' with_bl (x := "abs") KX G ?z48 ?go48
    (case z48 => k_is)
    intro b_abs
    refine' with_bl (x := "all") KX G ?z49 ?go49
    (case z49 => k_is)
    intro b_all
    refine' with_bl (x := "bool") KX G ?z50 ?go50
    (case z50 => k_is)
    intro b_bool
    refine' with_bl (x := "int") KX G ?z51 ?go51
    (case z51 => k_is)
    intro b_int
    refine' with_bl (x := "isinstance") KX G ?z52 ?go52
    (case z52 => k_is)
    intro b_isinstance
    refine' with_bl (x := "len") KX G ?z53 ?go53
    (case z53 => k_is)
    intro b_len
    refine' with_bl (x := "list") KX G ?z54 ?go54
    (case z54 => k_is)
    intro b_list
    refine' with_bl (x := "max") KX G ?z55 ?go55
    (case z55 => k_is)
    intro b_max
    refine' with_bl (x := "min") KX G ?z56 ?go56
    (case z56 => k_is)
    intro b_min
    refine' with_bl (x := "range") KX G ?z57 ?go57
    (case z57 => k_is)
    intro b_range
    refine' with_bl (x := "sum") KX G ?z58 ?go58
    (case z58 => k_is)
    intro b_sum
    refine' with_bl (x := "tuple") KX G ?z59 ?go59
    (case z59 => k_is)
    intro b_tuple
    refine' with_bl (x := "type") KX G ?z60 ?go60
    (case z60 => k_is)
    intro b_type
    refine' with_bl (x := "zip") KX G ?z61 ?go61
    (case z61 => k_is)
    intro b_zip
    refine' with_gi (x := "MOST_LIQUIDS") (n := 8) KX G ?z62 ?go62
    (case z62 => k_is)
    intro b_MOST_LIQUIDS
    refine' with_gi (x := "MOST_PARTS") (n := 100) KX G ?z63 ?go63
    (case z63 => k_is)
    intro b_MOST_PARTS
    refine' with_gi (x := "MOST_TOP_UPS") (n := 60) KX G ?z64 ?go64
    (case z64 => k_is)
    intro b_MOST_TOP_UPS
    refine' with_bf (x := "gcd") (id := "math.gcd") KX G ?z65 ?go65
    (case z65 => k_is)
    intro b_gcd
    refine' with_bf (x := "lcm") (id := "math.lcm") KX G ?z66 ?go66
    (case z66 => k_is)
    intro b_lcm
    exact K29.k29_end hmg d_is_integer d_is_within d_is_pair_in_lowest_terms d_is_kept d_is_list_of_keeps t_is_list_of_keeps n_is_list_of_keeps (by first | rfl | decide +kernel) d_is_list_of_liquids t_is_list_of_liquids n_is_list_of_liquids (by first | rfl | decide +kernel) d_is_row d_check_kept d_check_keeps d_check_row d_check_liquid d_lowest_terms d_common_divisor d_without_divisor d_is_content d_share_of d_mixed_content d_mixture_of d_is_list_of_amounts t_is_list_of_amounts n_is_list_of_amounts (by first | rfl | decide +kernel) d_is_list_of_contents t_is_list_of_contents n_is_list_of_contents (by first | rfl | decide +kernel) d_check_content d_check_contents d_check_amounts d_check_weights d_strength_of t_strength_of n_strength_of (by first | rfl | decide +kernel) d_check_strengths d_is_list_of_strengths t_is_list_of_strengths n_is_list_of_strengths (by first | rfl | decide +kernel) d_topped d_topped_row d_contents_along d_topped_by d_content_behind d_contents_by d__law_jar d__law_dip d__law_gcd d__law_plain d__law_part d__law_step d__law_walk d__law_share d__law_pure d__law_spots d__law_filled d__law_right d__law_gap d__law_shrinks d_law b_abs b_all b_bool b_int b_isinstance b_len b_list b_max b_min b_range b_sum b_tuple b_type b_zip b_MOST_LIQUIDS b_MOST_PARTS b_MOST_TOP_UPS b_gcd b_lcm
end
