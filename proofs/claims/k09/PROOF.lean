import PyProof.Rows.All
import PySem.Challenge.RW_topups_k09_contents_without_a_history
import HandS.ForMost
import HandS.AnyAll
import HandS.GenOver
import HandS.Gcd
import HandS.Wide
import HandS.IsInst
import HandS.More
import HandS.EndTab
import PyProof.TypeEq
import PyProof.ReprRoads
import PyProof.ReprLen
import HandS.Style
import PyProof.CallFns
import PyProof.Rows.RuleB_floordiv
import HandS.Zip
import HandS.Walk
import HandS.TupLen
import HandS.Dict
section
set_option Elab.async false
set_option linter.all false
set_option maxRecDepth 100000
set_option maxHeartbeats 4000000
/-! Generator expressions walked by all(..), with the element any expression of the layer; a code object's table is held as an open thing. -/
namespace Gx
open PySem PySem.Spec PyProof.Rows L2 GxR

/-- a code object's table, whatever it holds so far -/
def tabPhi (P : Addr) : Heap → Prop := fun h => ∃ ps : Array Value, h.get? P = some { cls := .none, data := .fields ps } ∧ TriplesOk ps.toList
def TabO (P : Addr) : HO := .ext (tabPhi P)
theorem tab_stay {P : Addr} : ∀ h1 h2 : Heap, tabPhi P h1 → (∀ o, h1.get? P = some o → h2.get? P = some o) → tabPhi P h2 := fun h1 h2 ⟨ps, e, t⟩ k => ⟨ps, k _ e, t⟩
theorem tab_ok {Pr : Program} {w : World} {H : Hp} {h : Heap} {P : Addr} (t : tabPhi P h) : ObjOk Pr w H h P (TabO P) := ⟨t, let ⟨ps, e, _⟩ := t; ⟨_, e⟩, tab_stay⟩

theorem inv_same {X : Cx} {pins : List (Addr × Obj)} {σ : L2.St} {H : Hp} {s s' : Shared} (I : Inv X pins σ H s) (h : s'.heap = s.heap) (o : s'.os = s.os) (b : AllBare s'.gens) : Inv X pins σ H s' :=
  ⟨I.ok, o.trans I.os, b, by rw [h]; exact I.base, by rw [h]; exact I.loc, by rw [h]; exact I.cell, I.free, I.freeC, by rw [h]; exact I.pin, by rw [h]; exact I.hok, I.len⟩
theorem bare_set {s : Shared} {g : Nat} {x : GenState} (h : AllBare s.gens) (hx : x.bare = true) : AllBare (s.setGen g x).gens :=
  AllBare.moved h (.inr ⟨GenOnly.setGen s g x, fun y hy => by
    have h1 : (s.gens.setIfInBounds g x)[g]? = some y := hy
    rw [Array.getElem?_setIfInBounds_self] at h1
    split at h1
    · cases h1; exact hx
    · cases h1⟩)
theorem setGen_at {s : Shared} {g : Nat} {x : GenState} (h : g < s.gens.size) : (s.setGen g x).gens[g]? = some x := by
  show (s.gens.setIfInBounds g x)[g]? = some x
  rw [Array.getElem?_setIfInBounds_self, if_pos h]

/-- the context of a generator expression's frame: made at s; fp: its iterator's objects -/
abbrev gcx (X : Cx) (s : Shared) (H : Hp) (N : List Str) (cenv : Env) (fp : List Addr) (A : Around) : Cx :=
  { X with A := A, N := N, s_0 := s, H_0 := H, env := cenv, outer := X.stack, stack := cenv :: X.stack, ex := fp, fn := fun _ => false, calm := true, pn := [], xe := fun _ _ => False }
/-- the expression's own scope: x its target; ns: the names that it captures, with their places in the def -/
structure GOk (N : List Str) (sc scope : Scope) (x : Str) (ns : List (Str × Nat)) : Prop where
  kind : scope.kind = .function
  co : scope.isCoroutine = false
  cell : ∀ y ∈ scope.names, y.2 ≠ .cell
  dot : scope.names.lookup (".0" : Str) = some NameKind.local
  loc : scope.names.lookup x = some .local
  free : ∀ y ∈ scope.names, y.2 = .free → sc.names.lookup y.1 = some .cell ∨ sc.names.lookup y.1 = some .free
  caps : ∀ p ∈ ns, N[p.2]? = some p.1 ∧ (p.1, NameKind.free) ∈ scope.names
  uniq : ∀ y ∈ scope.names, scope.names.lookup y.1 = some y.2
def capsOf (σ : L2.St) (ns : List (Str × Nat)) : L2.St := ns.map fun p => (σ[p.2]?).join

section
variable {X : Cx} {pins : List (Addr × Obj)} {σ : L2.St} {H : Hp} {s : Shared}
theorem clo_lookup {cells : List (Str × Addr)} {names : List (Str × NameKind)} {y : Str} {c : Addr} (h : (y, NameKind.free) ∈ names) (hc : cells.lookup y = some c) : (cloFrom cells names []).lookup y = some c := by
  obtain ⟨c', e⟩ := mem_lookup (cloFrom_has (cells := cells) (acc := []) h)
  rcases cloFrom_mem (PySem.mem_of_lookup e) with z | ⟨_, z⟩
  · cases z
  · rw [e, z, hc]; rfl
theorem clo_of {cells : List (Str × Addr)} {names : List (Str × NameKind)} {y : Str} {c : Addr} (hf : ∀ y ∈ names, y.2 = .free → ∃ c, cells.lookup y.1 = some c) (h : (cloFrom cells names []).lookup y = some c) : (y, NameKind.free) ∈ names ∧ cells.lookup y = some c := by
  rcases cloFrom_mem (PySem.mem_of_lookup h) with z | ⟨z1, z2⟩
  · cases z
  · obtain ⟨d, hd⟩ := hf _ z1 rfl
    refine ⟨z1, ?_⟩
    have hd' : cells.lookup y = some d := hd
    rw [hd'] at z2
    rw [hd', z2]; rfl
theorem inv_gen {s5 : Shared} {scope : Scope} {x : Str} {ns : List (Str × Nat)} {fp : List Addr} {P C a : Addr} {go : Obj} {code it : Value} {A : Around}
    (I : Inv X pins σ H s) (S : GOk X.N X.env.scope scope x ns) (hP : H P = some (TabO P)) (hf : ∀ b ∈ fp, FpOk X pins H b) (hfo : ∀ b ∈ fp, ∃ o, s.heap.get? b = some o)
    (hA : A.frames = some (genEnv scope (cloFrom X.env.cells scope.names []) C code builtinsNs X.env :: X.stack)) (hh : A.handled = none) (hC : s.heap.objs.size ≤ C) (ha : C < a)
    (ho : s5.os = s.os) (hb : AllBare s5.gens) (k : ∀ b o, b ≠ P → s.heap.get? b = some o → s5.heap.get? b = some o) (hp : tabPhi P s5.heap)
    (hn : s5.heap.Ns C (fun y => if y = ".0" then some it else none)) (hgo : s5.heap.get? a = some go) (hgd : ∀ v, go.data ≠ .cell v) :
    Inv (gcx X s H (x :: ns.map (·.1)) (genEnv scope (cloFrom X.env.cells scope.names []) C code builtinsNs X.env) fp A) [(a, go)] (none :: capsOf σ ns) H s5 := by
  have hfree : ∀ y ∈ scope.names, y.2 = .free → ∃ c, X.env.cells.lookup y.1 = some c := fun y hy e => by
    rcases S.free y hy e with k | k
    · exact I.ok.has _ (.inl k)
    · exact I.ok.has _ (.inr k)
  have nP : ∀ b, H b = none → b ≠ P := fun b e z => by
    rw [z, hP] at e
    cases e
  have fplt : ∀ b ∈ fp, b < s.heap.objs.size := fun b hb => let ⟨o, e⟩ := hfo b hb; Heap.lt_size e
  have stk : ∀ b ∈ fp, b ∉ frs X.stack := fun b hb hm => by
    obtain ⟨_, f1, f2, _⟩ := hf b hb
    rcases List.mem_cons.mp (I.stkSub b hm) with z | z
    · exact f1 z
    · exact f2 z
  have noA : ∀ b, s.heap.objs.size ≤ b → b ∉ frs X.stack := fun b hb hm => by
    rcases List.mem_cons.mp (I.stkSub b hm) with z | z
    · have := I.lt
      rw [← z] at this
      exact absurd (Nat.lt_of_lt_of_le this hb) (Nat.lt_irrefl _)
    · exact I.nofs hb z
  refine ⟨⟨I.mod, S.kind, I.ok.glob, rfl, hC, fun y z c h1 h2 => ?_, fun y hy => ?_, fun y c h _ => (by cases h), fun _ => hh, hA, .inr ⟨rfl, rfl⟩, fun b hb => ⟨?_, fun y c h z => ?_⟩, fun b o e => I.bs b o e, Nat.le_trans I.ok.bsz I.sz, fun b o e hm => ?_, fun b hb => stk b hb, I.stack, I.stkFree⟩,
    ho, hb, ⟨fun b o e n _ _ => k b o (nP b n) e, fun b o e n _ _ => ⟨o.slots, k b o (nP b n) e⟩, fun _ _ _ n _ => n, fun b o e _ => ?_, fun _ _ q => q, fun _ _ _ q => q, fun b ps q => ⟨#[], by
      have q' : H b = some (.tbl ps) := q
      rw [q']; simp⟩⟩,
    ⟨_, hn, fun i y v h1 h2 h3 => ?_⟩, fun y c h => ?_, I.hok.fresh hC, fun y c h => ?_, fun p hp' => ?_, fun b u e => ?_, ?_⟩
  · exact I.ok.inj _ _ _ (clo_of hfree h1).2 (clo_of hfree h2).2
  · have hy : scope.names.lookup y = some .cell ∨ scope.names.lookup y = some .free := hy
    rcases hy with hy | hy
    · exact absurd rfl (S.cell _ (PySem.mem_of_lookup hy))
    · obtain ⟨c, e⟩ := hfree _ (PySem.mem_of_lookup hy) rfl
      exact ⟨c, clo_lookup (PySem.mem_of_lookup hy) e⟩
  · exact Nat.ne_of_lt (Nat.lt_of_lt_of_le (fplt b hb) hC)
  · obtain ⟨_, _, _, _, f4, _⟩ := hf b hb
    exact f4 y c (clo_of hfree h).2 z
  · obtain ⟨_, _, _, f3, _⟩ := hf b hm
    rcases f3 with z | z
    · exact I.ok.noex b o e z
    · exact absurd (Nat.lt_of_lt_of_le (Heap.lt_size e) (Nat.le_trans I.ok.bsz z)) (Nat.lt_irrefl _)
  · by_cases hb : b = P
    · obtain ⟨ps, e2, _⟩ := hp
      exact ⟨_, by rw [hb]; exact e2⟩
    · exact ⟨o, k b o hb e⟩
  · cases i with
    | zero => cases h2
    | succ i =>
      have h1' : (ns.map (·.1))[i]? = some y := h1
      have h2' : (capsOf σ ns)[i]? = some (some v) := h2
      unfold capsOf at h2'
      rw [List.getElem?_map] at h1' h2'
      cases e : ns[i]? with
      | none => rw [e] at h1'; cases h1'
      | some p =>
        rw [e] at h1' h2'
        have e1 : p.1 = y := Option.some.inj h1'
        have e2 : (σ[p.2]?).join = some v := Option.some.inj h2'
        obtain ⟨c1, c2⟩ := S.caps p (List.mem_of_getElem? e)
        obtain ⟨m, hm, hl⟩ := I.loc
        have e3 : σ[p.2]? = some (some v) := by
          cases q : σ[p.2]? with
          | none => rw [q] at e2; cases e2
          | some w => rw [q] at e2; have e2' : w = some v := e2; rw [e2']
        have hk := S.free _ c2 rfl
        have hvis : Vis X.env.scope p.1 := .inr hk
        obtain ⟨u, r, lk⟩ := hl p.2 p.1 v c1 e3 hvis
        refine ⟨u, r, ?_⟩
        rcases lk with ⟨kl, _⟩ | ⟨_, c, hc, ic⟩
        · have kl' : X.env.scope.names.lookup p.1 = some .local := kl
          rcases hk with hk | hk
          · rw [show X.env.scope.names.lookup p.1 = some .cell from hk] at kl'; cases kl'
          · rw [show X.env.scope.names.lookup p.1 = some .free from hk] at kl'; cases kl'
        · rw [← e1]
          refine .inr ⟨.inr (S.uniq _ c2), c, clo_lookup c2 hc, ?_⟩
          obtain ⟨oc, ho', hd'⟩ := ic
          exact ⟨oc, k c oc (nP c (I.freeC _ _ hc)) ho', hd'⟩
  · have hc := (clo_of hfree h).2
    obtain ⟨v, oc, ho', hd'⟩ := I.cell y c hc
    exact ⟨v, oc, k c oc (nP c (I.freeC _ _ hc)) ho', hd'⟩
  · exact I.freeC _ _ (clo_of hfree h).2
  · have hp2 : p ∈ [(a, go)] := hp'
    rw [List.mem_singleton.mp hp2]
    have hsa : s.heap.objs.size ≤ a := Nat.le_trans hC (Nat.le_of_lt ha)
    exact ⟨hgo, I.hok.fresh hsa, Nat.ne_of_gt ha, noA a hsa, hgd⟩
  · by_cases hb : b = P
    · rw [hb, hP] at e
      cases e
      rw [hb]
      exact tab_ok hp
    · refine (I.hok b u e).stay (fun c v hc q => k c v ?_ q) (fun _ q => q) fun _ _ q => q
      rcases hc with z | z
      · rw [z]; exact hb
      · intro w
        rw [w, hP] at z
        cases z
  · show (none :: capsOf σ ns).length = (x :: ns.map (·.1)).length
    unfold capsOf
    simp
/-- back in the def -/
theorem inv_back {N : List Str} {cenv : Env} {fp : List Addr} {A : Around} {pins' : List (Addr × Obj)} {σ' : L2.St} {H' : Hp} {s' : Shared} (I : Inv X pins σ H s) (hf : ∀ b ∈ fp, FpOk X pins H b)
    (J : Inv (gcx X s H N cenv fp A) pins' σ' H' s') : Inv X pins σ H' s' :=
  I.call' (ch := fp) J.os J.base J.hok J.bare fun b hb => let ⟨_, f1, _, f3, f4, f5⟩ := hf b hb; ⟨f3, f1, f4, f5⟩
end

/-! ### the segment -/
def GEnd (G : Cx) (a : Addr) (go : Obj) (caps : L2.St) (L : Nat) (Pv : Nat → Hp → Prop) : Nat → Shared → Shared → Prop := fun n _ s => n = 1 ∧ ∃ H, Inv G [(a, go)] (none :: caps) H s ∧ Pv L H
def GYld (G : Cx) (a : Addr) (go : Obj) (caps : L2.St) (L : Nat) (Pv : Nat → Hp → Prop) (Ye : Nat → V → Hp → Prop) : Protocol := fun n _ v s kap =>
  ∃ i y H, i < L ∧ n + i = L ∧ RelV y v ∧ Inv G [(a, go)] (none :: caps) H s ∧ Ye i y H ∧ ∀ s', s'.heap = s.heap → s'.os = s.os → AllBare s'.gens → Pv (i + 1) H → kap (.send .none) s'
section
variable {G : Cx} {A : Around} {elt iter : Expr} {x : Str} {px : Pos} {scope : Scope} {pos : Pos} {it a : Addr} {go : Obj} {fp : List Addr} {tn : Nat → Heap → Prop} {J : It} {caps : L2.St} {te : TE} {L : Nat} {Pv : Nat → Hp → Prop} {Ye : Nat → V → Hp → Prop}
theorem seg_gloop (hA : A.over (.compLoop (.GeneratorExp elt [⟨.Name x px, iter, [], 0⟩] scope pos) 0 (.ref it) .none G.env) [] = G.A) (hc : G.calm = true) (hex : G.ex = fp) (hxe : G.xe = fun _ _ => False) (hpn : G.pn = []) (hco : G.env.scope.isCoroutine = false)
    (T : Turn G.prog G.w G.K (.Name x px) J fp it tn) (hg : PG G (.Name x px) (gName 0)) (he : PE G elt te) (ha : ∀ b ∈ fp, a ≠ b)
    (step : ∀ i H, i < L → Pv i H → J.go i H ∧ ∀ y H', J.yld i H y H' → te (some y :: caps) H' (Ye i)) (stop : ∀ H, Pv L H → J.stop L H) :
    ∀ (k i : Nat) (s₀ s : Shared) (H : Hp), L - i = k → i ≤ L → Inv G [(a, go)] (none :: caps) H s → tn i s.heap → (∀ b ∈ fp, H b = none) → Pv i H →
      Seg (model G.prog G.w) A (fun n s₀ r s₁ => r = .ok .next ∧ GEnd G a go caps L Pv n s₀ s₁) (GYld G a go caps L Pv Ye) (k + 1) s₀
        (.compLoop (.GeneratorExp elt [⟨.Name x px, iter, [], 0⟩] scope pos) 0 (.ref it) .none G.env)
        ((model G.prog G.w).den (.compLoop (.GeneratorExp elt [⟨.Name x px, iter, [], 0⟩] scope pos) 0 (.ref it) .none G.env)) [] s := by
  have fpok : ∀ {H : Hp} {σ : L2.St} {s : Shared}, Inv G [(a, go)] σ H s → (∀ b ∈ fp, H b = none) → ∀ b ∈ fp, FpOk G [(a, go)] H b := fun {H σ s} I hn b hb => by
    have hb' : b ∈ G.ex := by rw [hex]; exact hb
    obtain ⟨e1, e2⟩ := I.ok.exf b hb'
    refine ⟨hn b hb, e1, I.ok.exfs b hb', .inl hb', e2, fun p hp => ?_⟩
    rw [hpn, List.nil_append] at hp
    rw [List.mem_singleton.mp hp]
    exact ha b hb
  intro k
  induction k with
  | zero =>
    intro i s₀ s H hk hi I st fr pv
    have hin : i = L := by omega
    subst hin
    show Seg _ A _ _ _ s₀ _ ((compTurn (.GeneratorExp elt [⟨.Name x px, iter, [], 0⟩] scope pos) 0 (.ref it) .none G.env).onRaise (leaving G.env)) [] s
    rw [compTurn_gen, Sem.onRaise_eq_wrap]
    refine seg_bind_wrap (wpAny_standAt ?_)
    refine seg_bind_wrap ?_
    rw [hA]
    refine thn (T.done G rfl rfl rfl hc i _ s _ H _ I (fpok I fr) st (stop H pv)) fun r s1 ⟨hr, I1⟩ => ?_
    subst hr
    exact seg_end (.ok .next) ⟨rfl, rfl, H, I1, pv⟩
  | succ k ih =>
    intro i s₀ s H hk hi I st fr pv
    have hlt : i < L := by omega
    obtain ⟨hgo, hstep⟩ := step i H hlt pv
    show Seg _ A _ _ _ s₀ _ ((compTurn (.GeneratorExp elt [⟨.Name x px, iter, [], 0⟩] scope pos) 0 (.ref it) .none G.env).onRaise (leaving G.env)) [] s
    rw [compTurn_gen, Sem.onRaise_eq_wrap]
    refine seg_bind_wrap (wpAny_standAt ?_)
    refine seg_bind_wrap ?_
    rw [hA]
    refine thn (T.item G rfl rfl rfl hc i _ s _ H _ I (fpok I fr) st hgo) fun r s1 ⟨u, hr, h1⟩ => ?_
    subst hr
    refine seg_bind_wrap ?_
    rw [hA]
    refine thn h1 fun _ s2 ⟨y, H2, I2, ru, yl, st2, fr2⟩ => ?_
    have I2p := I2.pinned (fpok I2 fr2) (T.obj _ _ st2)
    refine seg_bind_wrap ?_
    rw [hA]
    refine wpAny_mono (hg.run _ s2 _ H2 y u (fun σ' H' => σ' = some y :: caps ∧ H' = H2) I2p ru ⟨rfl, rfl⟩) (fun _ s3 h3 => ?_) (fun e s' hx => by rw [hxe] at hx; exact hx.elim)
    obtain ⟨σ3, H3, I3, e3, e3'⟩ := h3
    subst e3 e3'
    simp only [List.forIn_nil]
    refine seg_bind_wrap (wpAny_pure ?_)
    simp only [if_true]
    have hy : ∀ v, yieldOut G.env v = yieldValue v := fun v => by simp only [yieldOut, hco, Bool.false_eq_true, if_false]
    simp only [hy]
    rw [Sem.bind_eq_wrap', Sem.bind_eq_wrap', Sem.wrap_wrap, Sem.wrap_wrap]
    refine seg_wrap ?_
    rw [hA]
    refine wpAny_mono (he.run _ s3 _ _ (Ye i) I3 (hstep y _ yl)) (fun v s4 h4 => ?_) (fun e s' hx => by rw [hxe] at hx; exact hx.elim)
    obtain ⟨y4, H4, I4, r4, q4⟩ := h4
    have pinAt : ∀ b ∈ fp, ∀ o, s2.heap.get? b = some o → s4.heap.get? b = some o ∧ H4 b = none := fun b hb o e =>
      let z := I4.pin (b, o) (List.mem_append_right _ (List.mem_append_right _ (mem_pinsAt hb e))); ⟨z.1, z.2.1⟩
    have st4 : tn (i + 1) s4.heap := T.keep _ _ _ st2 fun b hb o e => (pinAt b hb o e).1
    have fr4 : ∀ b ∈ fp, H4 b = none := fun b hb => by
      obtain ⟨o, e, _⟩ := T.obj _ _ st2 b hb
      exact (pinAt b hb o e).2
    have I4w : Inv G [(a, go)] (none :: caps) H4 s4 := I4.unpinned.weak rfl fun j v hj => by
      cases j with
      | zero => cases hj
      | succ j => exact hj
    refine seg_at (seg_yield rfl rfl rfl ⟨i, y4, H4, hlt, by omega, r4, I4w, q4, fun s5 eh eo eb pv5 => ?_⟩)
    exact seg_again rfl (ih (i + 1) s5 s5 H4 (by omega) hlt (inv_same I4w eh eo eb) (by rw [eh]; exact st4) fr4 pv5)

theorem seg_gstart (hA : A.over (.compLoop (.GeneratorExp elt [⟨.Name x px, iter, [], 0⟩] scope pos) 0 (.ref it) .none G.env) [] = G.A) (hc : G.calm = true) (hex : G.ex = fp) (hxe : G.xe = fun _ _ => False) (hpn : G.pn = []) (hco : G.env.scope.isCoroutine = false)
    (T : Turn G.prog G.w G.K (.Name x px) J fp it tn) (hg : PG G (.Name x px) (gName 0)) (he : PE G elt te) (ha : ∀ b ∈ fp, a ≠ b)
    (step : ∀ i H, i < L → Pv i H → J.go i H ∧ ∀ y H', J.yld i H y H' → te (some y :: caps) H' (Ye i)) (stop : ∀ H, Pv L H → J.stop L H)
    (s₀ s : Shared) (H : Hp) (I : Inv G [(a, go)] (none :: caps) H s) (st : tn 0 s.heap) (fr : ∀ b ∈ fp, H b = none) (pv : Pv 0 H) :
      Seg (model G.prog G.w) A (fun n s₀ r s₁ => r = .ok .next ∧ GEnd G a go caps L Pv n s₀ s₁) (GYld G a go caps L Pv Ye) (L + 1) s₀
        (.compStart (.GeneratorExp elt [⟨.Name x px, iter, [], 0⟩] scope pos) 0 (.ref it) .none G.env)
        ((model G.prog G.w).den (.compStart (.GeneratorExp elt [⟨.Name x px, iter, [], 0⟩] scope pos) 0 (.ref it) .none G.env)) [] s := by
  have loop := seg_gloop (a := a) (go := go) hA hc hex hxe hpn hco T hg he ha step stop L 0 s₀ s H (Nat.sub_zero _) (Nat.zero_le _) I st fr pv
  show Seg _ A _ _ _ s₀ _ ((compStart (.GeneratorExp elt [⟨.Name x px, iter, [], 0⟩] scope pos) 0 (.ref it) .none G.env).onRaise (leaving G.env)) [] s
  unfold compStart
  rw [Sem.onRaise_eq_wrap]
  show Seg _ A _ _ _ s₀ _ ((ask >>= _).wrap _ _ _ _) [] s
  refine seg_bind_wrap (wpAny_askSetting ?_)
  split
  · exact seg_again rfl loop
  · first
      | exact seg_bind_wrap (wpAny_rule (seg_bind_wrap (wpAny_standAt (seg_bind_wrap (T.self _ 0 s _ _ st (seg_again rfl loop))))))
      | (refine seg_bind_wrap (wpAny_rule ?_); show Seg _ A _ _ _ s₀ _ ((standAt iter.pos >>= _).wrap _ _ _ _) [] s; exact seg_bind_wrap (wpAny_standAt (seg_bind_wrap (T.self _ 0 s _ _ st (seg_again rfl loop)))))
end
end Gx
end

section
set_option Elab.async false
set_option linter.all false
set_option maxRecDepth 100000
set_option maxHeartbeats 4000000
namespace Gx
open PySem PySem.Spec PyProof.Rows L2 GxR
/-- what stands when a generator expression has been made -/
def GReady (X : Cx) (pins : List (Addr × Obj)) (σ : L2.St) (J : It) (H2 : Hp) (te : TE) (caps : L2.St) (k : Nat) (a : Addr) (s5 : Shared) : Prop :=
  ∃ (g : Nat) (go : Obj) (c : Code), (∀ h : Heap, h.get? a = some go → h.IsGen a g) ∧ s5.gens[g]? = some (.fresh c) ∧
    ∀ A : Around, Room (k + 1) A → A.frames = some X.stack → ∃ G : Cx, G.prog = X.prog ∧ G.w = X.w ∧ (∀ H' s', Inv G [(a, go)] (none :: caps) H' s' → Inv X pins σ H' s') ∧ Inv G [(a, go)] (none :: caps) H2 s5 ∧
      ∀ (L : Nat) (Pv : Nat → Hp → Prop) (Ye : Nat → V → Hp → Prop), (∀ i H, i < L → Pv i H → J.go i H ∧ ∀ y H', J.yld i H y H' → te (some y :: caps) H' (Ye i)) → (∀ H, Pv L H → J.stop L H) → Pv 0 H2 →
        ∀ s', s'.heap = s5.heap → s'.os = s5.os → AllBare s'.gens →
          (GenState.fresh c).Goes (model X.prog X.w) A (fun n s₀ r s₁ => r = .ok .next ∧ GEnd G a go caps L Pv n s₀ s₁) (GYld G a go caps L Pv Ye) (L + 1) (.send .none) s'
section
variable {X : Cx} {pins : List (Addr × Obj)} {σ : L2.St} {H : Hp} {s : Shared}
theorem gen_made {c P : Addr} {elt iter : Expr} {x : Str} {px gpos : Pos} {scope : Scope} {ns : List (Str × Nat)} {wi : TI} {te : TE} {k k' : Nat} {Q' : Value → Shared → Prop} {R : It → Hp → Prop}
    (hr : Room k X.A) (TB : TabB X.base X.mg c P) (hcode : X.env.code = .ref c) (S : GOk X.N X.env.scope scope x ns) (hnd : (x :: ns.map (·.1)).Nodup) (hi : PI X (.Name x px) iter wi)
    (he : ∀ (s : Shared) (H : Hp) (C : Addr) (code : Value) (fp : List Addr) (A : Around), Room k' A → PE (gcx X s H (x :: ns.map (·.1)) (genEnv scope (cloFrom X.env.cells scope.names []) C code builtinsNs X.env) fp A) elt te)
    (hs : ∀ v, genFold iter X.env v = pure v) (I : Inv X pins σ H s) (h : wi σ H fun J H1 => H1 P = some (TabO P) ∧ R J H1)
    (hQ : ∀ J H2 a s5, R J H2 → GReady X pins σ J H2 te (capsOf σ ns) k' a s5 → Q' (.ref a) s5) :
    wpAny (model X.prog X.w) X.A (eval (.GeneratorExp elt [⟨.Name x px, iter, [], 0⟩] scope gpos) X.env) Q' X.xe s := by
  have hfree : ∀ y ∈ scope.names, y.2 = .free → ∃ c, X.env.cells.lookup y.1 = some c := fun y hy e => by
    rcases S.free y hy e with k | k
    · exact I.ok.has _ (.inl k)
    · exact I.ok.has _ (.inr k)
  refine wpAny_GeneratorExp_make S.co (closure_ok hfree) S.cell S.dot S.kind (by have := hr.dp; omega) (thn (hi.run pins s σ H _ I h) fun xv s1 hx => thn hx fun itv s2 h2 => ?_) hs
  obtain ⟨it, fp, tn, J, H2, e, I2, T, st2, f2, hP, q⟩ := h2
  subst e
  obtain ⟨⟨ps, hPs, ht⟩, _, _⟩ := I2.hok P _ hP
  have hPlt : P < s2.heap.objs.size := Heap.lt_size hPs
  have cd : PySem.W.CodeHd s2.heap c P := TB.code.keeps fun b u e => I2.bk b u e
  have cont : ∀ (code : Value) (h3 : Heap) (tk : Nat), Heap.ExtBut P s2.heap h3 → s2.heap.objs.size ≤ h3.objs.size → tabPhi P h3 →
      wpAny (model X.prog X.w) X.A (builtinsFor X.env.globals X.env.builtins) (fun bi s₄ =>
        ∀ h', h'.Ns s₄.heap.objs.size (fun y => if y = ".0" then some (.ref it) else none) → Heap.SameBut s₄.heap.objs.size (s₄.heap.push { cls := .type "frame", data := .dict #[] }) h' →
          Q' (.ref h'.objs.size) { s₄ with
            gens := s₄.gens.push (.fresh (.compStart (.GeneratorExp elt [⟨.Name x px, iter, [], 0⟩] scope gpos) 0 (.ref it) .none (genEnv scope (cloFrom X.env.cells scope.names []) s₄.heap.objs.size code bi X.env))),
            toks := s₄.toks + 1 + 1 + 1,
            heap := h'.push { cls := .type "generator", data := .fields #[.int s₄.gens.size 0, .str "<genexpr>" (s₄.toks + 1), .str (X.env.qual ++ "<genexpr>") (s₄.toks + 1 + 1)] } }) X.xe { s2 with heap := h3, toks := tk } := by
    intro code h3 tk hx hsz hp3
    obtain ⟨bm, ob, e1, e2, e3, e4, e5, e6, e7, e8⟩ := TB.bm
    have keep3 : ∀ b u, b ≠ P → s2.heap.get? b = some u → h3.get? b = some u := fun b u hb e => hx b u hb e
    refine wpAny_builtinsFor (m := X.mg) (by rw [I2.ok.glob]; exact (I2.mod.glob.keeps I2.bk).extBut hx TB.gP) e1 e2 (keep3 _ _ e4 (I2.bk _ _ e5)) e6 e7 e8 ?_
    intro h' hn' hs'
    have hn' : h'.Ns h3.objs.size (fun y => if y = ".0" then some (.ref it) else none) := hn'
    have hs' : Heap.SameBut h3.objs.size (h3.push { cls := .type "frame", data := .dict #[] }) h' := hs'
    have hsz' : h'.objs.size = h3.objs.size + 1 := by rw [hs'.1, Heap.size_push]
    have keep' : ∀ b o, h3.get? b = some o → h'.get? b = some o := fun b o e => hs'.extBut b o (Nat.ne_of_lt (Heap.lt_size e)) (Heap.get?_push_of_some _ e)
    generalize hgo : ({ cls := .type "generator", data := .fields #[.int s2.gens.size 0, .str "<genexpr>" (tk + 1), .str (X.env.qual ++ "<genexpr>") (tk + 1 + 1)] } : Obj) = go
    have hgen : ∀ h : Heap, h.get? h'.objs.size = some go → h.IsGen h'.objs.size s2.gens.size := fun h e => ⟨go, _, _, e, by rw [← hgo], by rw [← hgo], by rw [← hgo]⟩
    have hgd : ∀ v, go.data ≠ .cell v := fun v z => by rw [← hgo] at z; cases z
    have hself : (h'.push go).get? h'.objs.size = some go := Heap.get?_push_size _ (by rw [← hgo]; rfl)
    have keep5 : ∀ b o, b ≠ P → s2.heap.get? b = some o → (h'.push go).get? b = some o := fun b o hb e => Heap.get?_push_of_some _ (keep' b o (keep3 b o hb e))
    have phi5 : tabPhi P (h'.push go) := tab_stay _ _ hp3 fun o e => Heap.get?_push_of_some _ (keep' _ o e)
    have CP : fp = fp := rfl
    have hfo : ∀ b ∈ fp, ∃ o, s2.heap.get? b = some o := fun b hb => let ⟨o, e, _⟩ := T.obj _ _ st2 b hb; ⟨o, e⟩
    have fpP : ∀ b ∈ fp, b ≠ P := fun b hb z => by
      obtain ⟨f0, _⟩ := f2 b hb
      rw [z, hP] at f0
      cases f0
    refine hQ J H2 h'.objs.size _ q ?_
    refine ⟨s2.gens.size, go, _, hgen, Array.getElem?_push_size .., fun A hA hfr => ?_⟩
    have hAf : (A.over (.compLoop (.GeneratorExp elt [⟨.Name x px, iter, [], 0⟩] scope gpos) 0 (.ref it) .none (genEnv scope (cloFrom X.env.cells scope.names []) h3.objs.size code builtinsNs X.env)) []).frames = some ((genEnv scope (cloFrom X.env.cells scope.names []) h3.objs.size code builtinsNs X.env) :: X.stack) := by
      show pushEnvs [(genEnv scope (cloFrom X.env.cells scope.names []) h3.objs.size code builtinsNs X.env)] (pushEnvs [] A.frames) = _
      rw [hfr]
      rfl
    have hAr : Room k' (A.over (.compLoop (.GeneratorExp elt [⟨.Name x px, iter, [], 0⟩] scope gpos) 0 (.ref it) .none (genEnv scope (cloFrom X.env.cells scope.names []) h3.objs.size code builtinsNs X.env)) []) := by
      refine ⟨hA.hd, ?_, ?_⟩
      · have := hA.dp
        show A.depth + 1 + 3 * k' + 5 < _
        omega
      · have := hA.un
        show A.units + 3 + 16 * k' + 200 < _
        omega
    have I5 := inv_gen (s5 := { s2 with gens := s2.gens.push (.fresh (.compStart (.GeneratorExp elt [⟨.Name x px, iter, [], 0⟩] scope gpos) 0 (.ref it) .none (genEnv scope (cloFrom X.env.cells scope.names []) h3.objs.size code builtinsNs X.env))), toks := tk + 1 + 1 + 1, heap := h'.push go }) (code := code) (it := .ref it) (A := A.over (.compLoop (.GeneratorExp elt [⟨.Name x px, iter, [], 0⟩] scope gpos) 0 (.ref it) .none (genEnv scope (cloFrom X.env.cells scope.names []) h3.objs.size code builtinsNs X.env)) []) (a := h'.objs.size)
      I2 S hP f2 hfo hAf hAr.hd hsz (by rw [hsz']; exact Nat.lt_succ_self _) rfl (I2.bare.push rfl) keep5 phi5 (hn'.push _) hself hgd
    refine ⟨gcx X s2 H2 (x :: ns.map (·.1)) (genEnv scope (cloFrom X.env.cells scope.names []) h3.objs.size code builtinsNs X.env) fp (A.over (.compLoop (.GeneratorExp elt [⟨.Name x px, iter, [], 0⟩] scope gpos) 0 (.ref it) .none (genEnv scope (cloFrom X.env.cells scope.names []) h3.objs.size code builtinsNs X.env)) []), rfl, rfl, fun H' s' J' => inv_back I2 f2 J', I5, fun L Pv Ye step stop pv s' eh eo eb => ⟨rfl, ?_⟩⟩
    refine seg_gstart (G := gcx X s2 H2 (x :: ns.map (·.1)) (genEnv scope (cloFrom X.env.cells scope.names []) h3.objs.size code builtinsNs X.env) fp (A.over (.compLoop (.GeneratorExp elt [⟨.Name x px, iter, [], 0⟩] scope gpos) 0 (.ref it) .none (genEnv scope (cloFrom X.env.cells scope.names []) h3.objs.size code builtinsNs X.env)) [])) (fp := fp) (tn := tn) (J := J) rfl rfl rfl rfl rfl (S.co) T ?_ ?_ (fun b hb z => ?_) step stop s' s' H2 (inv_same I5 eh eo eb) ?_ (fun b hb => (f2 b hb).1) pv
    · refine pg_name (i := 0) hnd rfl (.inl S.loc) (.inr S.loc)
    · exact he s2 H2 h3.objs.size code fp (A.over (.compLoop (.GeneratorExp elt [⟨.Name x px, iter, [], 0⟩] scope gpos) 0 (.ref it) .none (genEnv scope (cloFrom X.env.cells scope.names []) h3.objs.size code builtinsNs X.env)) []) hAr
    · obtain ⟨o, e⟩ := hfo b hb
      have h1 := Heap.lt_size e
      rw [← z, hsz'] at h1
      have h1' : h3.objs.size + 1 < s2.heap.objs.size := h1
      omega
    · rw [eh]
      exact T.keep _ _ _ st2 fun b hb o e => keep5 b o (fpP b hb) e
  refine ⟨I2.nolimit, ?_⟩
  cases hf : codeAmong gpos ps.toList with
  | none =>
    refine wpAny_genexprCodeX hcode (cd.code hPs ht) (cd.tab hPs) hf fun c' h' tk hx hge hlt hco' _ htab' _ => ?_
    obtain ⟨o1, vs, f1, tf, fl, tg, inF, tx, tt, op, _, _, _, _, _, _, _, _, _, htr, _⟩ := hco'
    exact cont _ h' tk hx (Nat.le_trans hge (Nat.le_of_lt hlt)) ⟨_, htab'.2, htr⟩
  | some cv =>
    refine wpAny_genexprCode_hit hcode (cd.code hPs ht) hf ?_
    exact cont cv s2.heap s2.toks (Heap.ExtBut.refl _ _) (Nat.le_refl _) ⟨ps, hPs, ht⟩

theorem codeAny_allG {A0 : Around} {a : Addr} {g : Nat} {go : Obj} {G : Cx} {caps : L2.St} {L : Nat} {Pv : Nat → Hp → Prop} {Ye : Nat → V → Hp → Prop} {Qf : Hp → Prop} {R' : Result → Shared → Prop} {prog : Program} {w : World}
    (hG : G.prog = prog ∧ G.w = w) (hh : A0.handled = none) (hroom : A0.depth < recursionLimit) (hgen : ∀ h : Heap, h.get? a = some go → h.IsGen a g)
    (hYe : ∀ i y H, Ye i y H → ∃ b, y = .bl b ∧ if b = true then Pv (i + 1) H else Qf H)
    (hfalse : ∀ H s, Inv G [(a, go)] (none :: caps) H s → Qf H → R' (.ok (.ret (.bool false))) s) (htrue : ∀ H s, Inv G [(a, go)] (none :: caps) H s → Pv L H → R' (.ok (.ret (.bool true))) s) :
    ∀ (k i : Nat) (s : Shared) (gs : GenState), L - i = k → i ≤ L → (∃ H, Inv G [(a, go)] (none :: caps) H s) → s.gens[g]? = some gs →
      (∀ s', s'.heap = s.heap → s'.os = s.os → AllBare s'.gens → gs.Goes (model prog w) A0.in1.in1 (fun n s₀ r s₁ => r = .ok .next ∧ GEnd G a go caps L Pv n s₀ s₁) (GYld G a go caps L Pv Ye) (L - i + 1) (.send .none) s') →
      codeAny (model prog w) A0 (.builtin "all.loop" ⟨[.ref a], []⟩) R' s := by
  have pin : ∀ {H : Hp} {σ : L2.St} {s : Shared}, Inv G [(a, go)] σ H s → s.heap.IsGen a g := fun I => hgen _ (I.pin (a, go) (List.mem_append_right _ (List.mem_singleton.mpr rfl))).1
  intro k
  induction k with
  | zero =>
    intro i s gs hk hi ⟨H, I⟩ hgs hgo
    have hin : i = L := by omega
    subst hin
    refine codeAny_builtin F.entry_all_loop ?_
    rw [Around.under_plainId F.plain_all_loop _]
    show wpAny _ A0.in1 (pyNext (.ref a) >>= _) _ _ s
    refine wpAny_bind (wpAny_pyNext_genexpQ (n := i - i + 1) (P := GEnd G a go caps i Pv) hh I.nolimit hroom (pin I) hgs (hgo _ rfl rfl (bare_set I.bare rfl)) (fun v s₁ gs' hb hv => ?_) (fun s₁ hp h' hk => ?_))
    · obtain ⟨j, y, H2, hl, hj, _⟩ := hv
      have hj' : i - i + 1 - 1 + j = i := hj
      omega
    · obtain ⟨_, H2, I2, pv⟩ := hp
      refine wpAny_bind (wpAny_rule (wpAny_pure ?_))
      exact htrue H2 _ (inv_same ((inv_same I2 rfl rfl (s' := s₁.setGen g .finished) (bare_set I2.bare rfl)).kept (t' := s₁.toks) hk) rfl rfl (bare_set I2.bare rfl)) pv
  | succ k ih =>
    intro i s gs hk hi ⟨H, I⟩ hgs hgo
    have hlt : i < L := by omega
    refine codeAny_builtin F.entry_all_loop ?_
    rw [Around.under_plainId F.plain_all_loop _]
    show wpAny _ A0.in1 (pyNext (.ref a) >>= _) _ _ s
    have hsz : g + 1 ≤ s.gens.size := (Array.getElem?_eq_some_iff.mp hgs).1
    refine wpAny_bind (GenW.wpAny_gsz hsz (wpAny_pyNext_genexpQ (n := L - i + 1) (P := GEnd G a go caps L Pv) hh I.nolimit hroom (pin I) hgs (hgo _ rfl rfl (bare_set I.bare rfl)) (fun v s₁ gs' hb hv => ?_) (fun s₁ hp h' hk => ?_)))
    · obtain ⟨j, y, H2, hl, hj, r2, I2, ye, kap⟩ := hv
      have hj' : L - i + 1 - 1 + j = L := hj
      have hji : j = i := by omega
      subst hji
      obtain ⟨b, eb, hb2⟩ := hYe j y H2 ye
      subst eb
      have r2' : v = Value.bool b := r2
      subst r2'
      intro hz
      rw [GenW.setGen_size] at hz
      refine wpAny_bind (wpAny_holding (wpAny_truthy_bool ?_))
      refine wpAny_bind (wpAny_letGo ?_)
      have I3 : Inv G [(a, go)] (none :: caps) H2 (s₁.setGen g gs') := inv_same I2 rfl rfl (bare_set I2.bare hb)
      cases b with
      | true =>
        rw [if_pos rfl] at hb2
        simp only [if_true]
        refine wpAny_pure ⟨plainId_quiet F.plain_all_loop _, ih (j + 1) _ gs' (by omega) hl ⟨H2, I3⟩ (setGen_at hz) fun s' eh eo eb => ?_⟩
        have e : L - j = L - (j + 1) + 1 := by omega
        have := kap s' eh eo eb hb2
        rw [e] at this
        exact this
      | false =>
        rw [if_neg Bool.false_ne_true] at hb2
        simp only [Bool.false_eq_true, if_false]
        refine wpAny_bind (wpAny_rule (wpAny_pure ?_))
        exact hfalse H2 _ I3 hb2
    · obtain ⟨h0, _⟩ := hp
      have h0' : L - i + 1 = 1 := h0
      omega
end
end Gx
namespace Gx
open PySem PySem.Spec PyProof.Rows L2 GxR
/-- all(elt for x in iter): Pv i, what holds when i items have passed -/
def rAllG (te : TE) (caps : L2.St) (Q : VK) : It → Hp → Prop := fun J H1 => ∃ (L : Nat) (Pv : Nat → Hp → Prop), Pv 0 H1 ∧ (∀ H, Pv L H → J.stop L H ∧ Q (.bl true) H) ∧
    ∀ i H, i < L → Pv i H → J.go i H ∧ ∀ y H', J.yld i H y H' → te (some y :: caps) H' fun z H2 => ∃ b, z = .bl b ∧ if b = true then Pv (i + 1) H2 else Q (.bl false) H2
def tAllG (P : Addr) (wi : TI) (te : TE) (ns : List (Str × Nat)) : TE := fun σ H Q => wi σ H fun J H1 => H1 P = some (TabO P) ∧ rAllG te (capsOf σ ns) Q J H1
section
variable {X : Cx}
theorem pe_allG {c P : Addr} {elt iter : Expr} {x : Str} {px p pos gpos : Pos} {scope : Scope} {ns : List (Str × Nat)} {wi : TI} {te : TE} {k' : Nat}
    (hr : Room (k' + 3) X.A) (hg : Gl X "all") (hm : X.mg "all" = none) (TB : TabB X.base X.mg c P) (hcode : X.env.code = .ref c) (S : GOk X.N X.env.scope scope x ns) (hnd : (x :: ns.map (·.1)).Nodup) (hi : PI X (.Name x px) iter wi)
    (he : ∀ (s : Shared) (H : Hp) (C : Addr) (code : Value) (fp : List Addr) (A : Around), Room k' A → PE (gcx X s H (x :: ns.map (·.1)) (genEnv scope (cloFrom X.env.cells scope.names []) C code builtinsNs X.env) fp A) elt te)
    (hs : ∀ v, genFold iter X.env v = pure v := by intro _; rfl) (hb : bootBuiltins "all" = some (.builtin "all") := by decide +kernel)
    (hst : starEach [.GeneratorExp elt [⟨.Name x px, iter, [], 0⟩] scope gpos] X.env = (false, eval (.GeneratorExp elt [⟨.Name x px, iter, [], 0⟩] scope gpos) X.env) :: starEach [] X.env := by rfl) :
    PE X (.Call (.Name "all" p) [.GeneratorExp elt [⟨.Name x px, iter, [], 0⟩] scope gpos] [] pos) (tAllG P wi te ns) := by
  refine ⟨fun pins s σ H Q I h => ?_⟩
  refine wpAny_Call_Name_kw (ld_blt I hg hm hb ?_)
  refine PyProof.Rows.callWith_builtin1 ?_ hst (by rfl)
  rw [hst]
  show wpAny _ _ (spliced ((false, eval (.GeneratorExp elt [⟨.Name x px, iter, [], 0⟩] scope gpos) X.env) :: backTo pos (starEach [] X.env))) _ _ s
  refine Calls.spliced_cons (gen_made (R := rAllG te (capsOf σ ns) Q) hr TB hcode S hnd hi he hs I h fun J H1 a s5 hR hG => ?_)
  obtain ⟨g, go, c5, hgen, hgs, hA⟩ := hG
  have hr1 : Room (k' + 1) X.A.in1.in1 := hr.in1.in1
  obtain ⟨G, hG1, hG2, back, I5, goes⟩ := hA X.A.in1.in1 hr1 (by rw [show X.A.in1.in1.frames = X.A.frames from rfl]; exact I.ok.frames)
  obtain ⟨L, Pv, p0, hstop, hstep⟩ := hR
  refine Calls.spliced_nil ?_
  refine call_function_tree F.kind_all F.plain_all F.entry_all (F.args_all1 _) ?_
  unfold Builtin.«all»
  refine wpAny_bind (m := oneArg "all" _) (wpAny_pure ?_)
  refine wpAny_bind (wpAny_pyIter_gen (hgen _ (I5.pin (a, go) (List.mem_append_right _ (List.mem_singleton.mpr rfl))).1) ?_)
  refine wpAny_pure ⟨plainId_quiet F.plain_all_loop _, ?_⟩
  refine codeAny_allG (G := G) (L := L) (Pv := Pv) (Qf := fun H => Q (.bl false) H) (Ye := fun i z H2 => ∃ b, z = .bl b ∧ if b = true then Pv (i + 1) H2 else Q (.bl false) H2) ⟨hG1, hG2⟩ hr.hd (by have := hr.dp; show X.A.depth < recursionLimit; omega) hgen (fun i y H h => h) (fun H' s' J' q => ?_) (fun H' s' J' q => ?_) L 0 s5 (.fresh c5) rfl (Nat.zero_le _) ⟨H1, I5⟩ hgs
    (goes L Pv _ (fun i H' hi hp => hstep i H' hi hp) (fun H' hp => (hstop H' hp).1) p0)
  · exact ⟨.bl false, H', back H' s' J', rfl, q⟩
  · exact ⟨.bl true, H', back H' s' J', rfl, (hstop H' q).2⟩
end
end Gx
end

section
set_option Elab.async false
set_option linter.all false
set_option maxRecDepth 100000
set_option maxHeartbeats 4000000
/-! Defs that lean on «no repr is under way» (their callers' guards are empty), and the end of a law whose tables are open things. -/
namespace Gx
open PySem PySem.Spec PyProof.Rows L2 GxR
structure FnG (P : Program) (w : World) (K : PySem.W.Frag) (mg : Str → Option Value) (base : Heap) (k : Nat) (f : Addr) (fd : FuncData) (ps : List Str) (sp : Sp) : Prop where
  len : ∀ vs H Q E, sp vs H Q E → vs.length = ps.length
  run : ∀ (A : Around) (outer : List Env) (s : Shared) (H : Hp) (args : Args) (us : List Value) (vs : List V) (Q : VK) (E : XK), Room k A → A.guards = some [] → Env0 P w K mg base A outer s H → BindsTo s fd args (ps.zip us) → Vals vs us → sp vs H Q E →
    codeAny (model P w) A (.call (.ref f) args) (CR CX0 outer P w H s Q E) s
section
variable {P : Program} {w : World} {K : PySem.W.Frag} {mg : Str → Option Value} {base : Heap} {k : Nat} {f : Addr}
theorem fnG_mono {j : Nat} {fd : FuncData} {ps : List Str} {sp : Sp} (F : FnG P w K mg base j f fd ps sp) (h : j ≤ k) : FnG P w K mg base k f fd ps sp :=
  ⟨F.len, fun A outer s H args us vs Q E hr => F.run A outer s H args us vs Q E (hr.mono h)⟩
theorem fnG_of {x qual : Str} {st : Stmt} {fd : FuncData} {N ps : List Str} {sp : Sp} (F : Fun K x qual st f fd) (S : FnScope N ps (defScope st)) (len : ∀ vs H Q E, sp vs H Q E → vs.length = ps.length)
    (hbody : ∀ (cdv : Value) (A : Around) (outer : List Env) (s : Shared) (H : Hp) (vs : List V) (Q : VK) (E : XK), Room k (A.deeper (envOfC qual (defScope st) s.heap.objs.size f cdv)) → A.guards = some [] → sp vs H Q E →
      ∃ t, PSs (cxOf CX0 P w K mg base N qual (defScope st) f cdv A outer s H E).nox (defBody st) t ∧ t { nx := fun _ H' => Q .non H', rt := Q } (start N vs) H) : FnG P w K mg base (k + 1) f fd ps sp := by
  obtain ⟨oc, od, kV, doc, pm, an, cdv, ct, osl, rfl, lk, hcd⟩ := F.ex
  refine ⟨len, fun A outer s H args us vs Q E hr hg e0 hb r hsp => ?_⟩
  have KX : K.In s.heap := e0.mod.kin.keeps fun b o e => (e0.bs b o e).1
  refine codeAny_call_function hr.depth (KX _ _ lk) rfl S.co S.gen rfl (PySem.W.codeRec_of KX hcd) (hb _ _ _ _ ?_)
  refine wpAny_newFunctionEnv_cells S.kind (fun y hy => ?_) fun env he s1 x => ?_
  · rcases S.par y.1 (List.of_mem_zip hy).1 with q | q
    · exact .inl q
    · exact .inr ⟨q, PySem.W.cellsFrom_some _ _ _ (.inl q)⟩
  · subst he
    refine ⟨(e0.mod.nolimit.keeps fun b o e => (e0.bs b o e).1).keeps x.toInCall.keep, codeAny_func ?_⟩
    obtain ⟨t, ht, hq⟩ := hbody cdv A outer s H vs Q E (hr.deeper _) hg hsp
    have I : Inv (cxOf CX0 P w K mg base N qual (defScope st) f cdv A outer s H E) [] (start N vs) H s1 := inv_start S hr.hd e0 (len _ _ _ _ hsp) r x
    refine wpAny_mono (ht.nox.run [] s1 (start N vs) H _ I hq) (fun fl s' hs => ?_) fun e s' hs => hs
    cases fl with
    | ret u => exact let ⟨v, σ', H', J, rv, q⟩ := hs; ⟨v, H', J.os, J.bare, J.base, J.hok, rv, q⟩
    | next => exact let ⟨σ', H', J, q⟩ := hs; ⟨V.non, H', J.os, J.bare, J.base, J.hok, rfl, q⟩
    | brk => exact let ⟨_, _, _, q⟩ := hs; q.elim
    | cont => exact let ⟨_, _, _, q⟩ := hs; q.elim
end
/-- a def that may be called by its name: positionally (G: with the guards known) -/
structure Cal (P : Program) (w : World) (K : PySem.W.Frag) (mg : Str → Option Value) (base : Heap) (k : Nat) (x : Str) (ps : List Str) (sp : Sp) : Prop where
  ex : ∃ f fd, FnOk P w K mg base CX0 k f fd ps sp ∧ mg x = some (.ref f) ∧ PySem.W.keepIn K (.ref f) = true ∧ Binds K fd ps []
structure CalG (P : Program) (w : World) (K : PySem.W.Frag) (mg : Str → Option Value) (base : Heap) (k : Nat) (x : Str) (ps : List Str) (sp : Sp) : Prop where
  ex : ∃ f fd, FnG P w K mg base k f fd ps sp ∧ mg x = some (.ref f) ∧ PySem.W.keepIn K (.ref f) = true ∧ Binds K fd ps []
/-- .. with all its arguments by keywords, in the order ks -/
structure CalK (P : Program) (w : World) (K : PySem.W.Frag) (mg : Str → Option Value) (base : Heap) (k : Nat) (x : Str) (ps ks : List Str) (gV : List V → List V → List V) (sp : Sp) : Prop where
  ex : ∃ f fd g, FnOk P w K mg base CX0 k f fd ps sp ∧ mg x = some (.ref f) ∧ PySem.W.keepIn K (.ref f) = true ∧ KBinds K fd ps ks g gV
section
variable {X : Cx} {k : Nat} {x : Str} {ps : List Str} {sp : Sp}
theorem pe_cal {e : Expr} {es : List Expr} {p pos : Pos} {t : TA} (C : Cal X.prog X.w X.K X.mg X.base k x ps sp) (hr : Room k X.A) (ha : PA X (e :: es) t) (hg : Gl X x := by rfl) (hdb : (x == ("__debug__" : Str)) = false := by decide)
    (he : starEach (e :: es) X.env = (false, eval e X.env) :: starEach es X.env := by rfl) (hpl : (backTo pos (starEach es X.env)).any (·.1) = false := by rfl) : PE X (.Call (.Name x p) (e :: es) [] pos) (tCall sp [] E0 t) := by
  obtain ⟨f, fd, F, hm, hk, hb⟩ := C.ex
  exact pe_call F hr hg hm hk hb .nil pass0 ha hdb he hpl
theorem pe_calG {e : Expr} {es : List Expr} {p pos : Pos} {t : TA} (C : CalG X.prog X.w X.K X.mg X.base k x ps sp) (hr : Room k X.A) (hgd : X.A.guards = some []) (ha : PA X (e :: es) t) (hg : Gl X x := by rfl) (hdb : (x == ("__debug__" : Str)) = false := by decide)
    (he : starEach (e :: es) X.env = (false, eval e X.env) :: starEach es X.env := by rfl) (hpl : (backTo pos (starEach es X.env)).any (·.1) = false := by rfl) : PE X (.Call (.Name x p) (e :: es) [] pos) (tCall sp [] E0 t) := by
  obtain ⟨f, fd, F, hm, hk, hb⟩ := C.ex
  refine ⟨fun pins s σ H Q I h => ?_⟩
  refine wpAny_Call_Name_kw (ld_glob I hg hm ?_ hdb)
  refine PySem.W.callWith_K (h₀ := X.base) I.ok.mod.kin hk (thn (ha.run pos pins s σ H _ I h) fun us s1 ⟨vs, H1, I1, r, q⟩ => ⟨I1.kIn, ?_⟩) he hpl
  have q' : sp (vs ++ []) H1 Q E0 := q
  rw [List.append_nil] at q'
  have hl : (us ++ []).length = ps.length := by rw [List.append_nil, ← r.length]; exact F.len _ _ _ _ q'
  have hbt := hb s1 us I1.kIn hl
  rw [List.append_nil] at hbt
  refine wpAny_call (codeAny_mono (F.run X.A X.stack s1 H1 ⟨us, []⟩ us vs Q E0 hr hgd I1.env0 hbt r q') fun r s' hq => ?_)
  cases r with
  | error e => exact False.elim hq
  | ok fl =>
    cases fl with
    | ret u => exact I1.after hq
    | next => exact False.elim hq
    | brk => exact False.elim hq
    | cont => exact False.elim hq
theorem pe_calK {kws : List Keyword} {p pos : Pos} {tk : TA} {ks : List Str} {gV : List V → List V → List V} (C : CalK X.prog X.w X.K X.mg X.base k x ps ks gV sp) (hr : Room k X.A) (hkw : PK X kws tk) (hg : Gl X x := by rfl) (hall : (backToKw pos (keywordEach kws X.env)).all (·.1.isSome) = true := by rfl) (hks : (backToKw pos (keywordEach kws X.env)).filterMap (·.1) = ks := by rfl)
    (hdb : (x == ("__debug__" : Str)) = false := by decide) (hpl : ((backTo pos (starEach [] X.env)).any (·.1) || (backToKw pos (keywordEach kws X.env)).any (·.1.isNone)) = false := by rfl) :
    PE X (.Call (.Name x p) [] kws pos) (tCallK sp gV E0 tNil tk) := by
  obtain ⟨f, fd, g, F, hm, hk, hb⟩ := C.ex
  refine ⟨fun pins s σ H Q I h => ?_⟩
  refine wpAny_Call_Name_kw (ld_glob I hg hm ?_ hdb)
  refine PySem.W.callWith_KW0 (h₀ := X.base) I.ok.mod.kin hk hall (thn (hkw.run pos pins s σ H _ I h) fun ws s2 ⟨zs, H2, I2, rz, q2⟩ => ⟨I2.kIn, ?_⟩) hpl
  rw [hks]
  exact run_fnk F hr hb pass0 I2 .nil rz q2
end
/-- the keywords' values in the parameters' order -/
def gVof (idx : List Nat) (n : Nat) : List V → List V → List V
  | [], zs => if zs.length = n then idx.map (fun i => zs.getD i .non) else []
  | _ :: _, _ => []
def gOf (idx : List Nat) (n : Nat) : List Value → List Value → List Value
  | [], zs => if zs.length = n then idx.map (fun i => zs.getD i .none) else []
  | _ :: _, _ => []
theorem vals_getD {zs : List V} {ws : List Value} (r : Vals zs ws) (i : Nat) : RelV (zs.getD i .non) (ws.getD i .none) := by
  rw [List.getD_eq_getElem?_getD, List.getD_eq_getElem?_getD]
  cases e : zs[i]? with
  | none => rw [r.none_of e]; exact rfl
  | some x => obtain ⟨u, h1, h2⟩ := r.get e; rw [h1]; exact h2
theorem vals_idx {zs : List V} {ws : List Value} (r : Vals zs ws) : ∀ idx : List Nat, Vals (idx.map fun i => zs.getD i .non) (idx.map fun i => ws.getD i .none)
  | [] => .nil
  | i :: l => .cons (vals_getD r i) (vals_idx r l)
theorem kbinds_mk {K : PySem.W.Frag} {x qual : Str} {st : Stmt} {f : Addr} {fd : FuncData} {ps ks : List Str} (F : Fun K x qual st f fd) (idx : List Nat) (n : Nat) (hn : ps.length ≠ 0)
    (h : ∀ (kV doc pm : Value) (an : Option Addr) (cdv ct : Value) (ws : List Value), ws.length = n → bindArgs (PySem.W.fnOf x qual (defArgs st) (defBody st) (defScope st) .none kV doc pm an cdv ct) ⟨[], ks.zip ws⟩ = pure (ps.zip (idx.map fun i => ws.getD i .none))) :
    KBinds K fd ps ks (gOf idx n) (gVof idx n) := by
  obtain ⟨oc, od, kV, doc, pm, an, cdv, ct, osl, rfl, lk, hcd⟩ := F.ex
  refine ⟨fun s us ws _ hl => ?_, fun {vs us zs ws} r rz => ?_⟩
  · cases us with
    | cons u us => exact absurd hl.symm hn
    | nil =>
      by_cases e : ws.length = n
      · have e2 : gOf idx n [] ws = idx.map fun i => ws.getD i .none := if_pos e
        rw [e2]
        exact .of_eq (h kV doc pm an cdv ct ws e)
      · have e2 : gOf idx n [] ws = [] := if_neg e
        rw [e2] at hl
        exact absurd hl.symm hn
  · cases r with
    | cons _ _ => exact .nil
    | nil =>
      by_cases e : ws.length = n
      · have e2 : gOf idx n [] ws = idx.map fun i => ws.getD i .none := if_pos e
        have e3 : gVof idx n [] zs = idx.map fun i => zs.getD i .non := if_pos (rz.length.trans e)
        rw [e2, e3]
        exact vals_idx rz idx
      · have e2 : gOf idx n [] ws = [] := if_neg e
        have e3 : gVof idx n [] zs = [] := if_neg (fun z => e (rz.length.symm.trans z))
        rw [e2, e3]
        exact .nil
/-! ### the end of a law -/
section
variable {P : Program} {w : World} {K : PySem.W.Frag} {mg mb : Str → Option Value} {k : Nat} {fa a : Addr} {cs : List (Addr × Addr)} {fd : FuncData} {x : Str} {sp : Sp} {s1 : Shared} {vs : List Value} {ns : List Int}
/-- what is tracked at the law's entry: the script (unless it is written), the tables -/
def H0 (cs : List (Addr × Addr)) (a : Addr) (wr : Bool) (o : Obj) (xs : List V) : Hp := fun b => if b = a ∧ wr = false then some (.frz o (.lst xs)) else if b ∈ cs.map (·.2) then some (TabO b) else none
theorem law_end (KX : K.In s1.heap) (hns : s1.heap.Ns mainGlobals mg) (hb : s1.heap.Ns builtinsNs mb) (hbb : ∀ x : Str, x ≠ "__name__" → mb x = bootBuiltins x) (hlim : s1.heap.NoLimit) (hg : s1.gens = #[])
    (hT : ∀ p ∈ cs, s1.heap.get? p.2 = some { cls := .none, data := .fields #[] }) (nT : ∀ p ∈ cs, K.lookup p.2 = none) (C : ∀ p ∈ cs, PySem.W.CodeHd s1.heap p.1 p.2)
    (hbm : ∃ (bm : Addr) (ob : Obj), mg "__builtins__" = some (.ref bm) ∧ bm ≠ builtinsNs ∧ s1.heap.get? bm = some ob ∧ ob.cls = .type "module" ∧ ob.dict = some builtinsNs ∧ ob.data = .plain)
    (ha : s1.heap.get? a = some { cls := .type "list", data := .seq vs.toArray }) (hi : IntsAre vs ns) (hl : ns.length ≤ sizeLine) (hr : Room k callerA)
    (F : ∀ base : Heap, K.In base → base.Ns mainGlobals mg → (∀ p ∈ cs, TabB base mg p.1 p.2) → FnG P w K mg base k fa fd [x] sp) (hbind : ∀ (s : Shared) (u : Value), BindsTo s fd ⟨[u], []⟩ [(x, u)])
    (hsp : ∀ H : Hp, (∀ p ∈ cs, H p.2 = some (TabO p.2)) → SqL K H a (ns.map V.int) → sp [.ref a] H (fun v H' => v = .bl true ∧ ∀ p ∈ cs, H' p.2 = some (TabO p.2)) E0) :
    codeAny (model P w) callerA (.call (.ref fa) ⟨[.ref a], []⟩) (fun r s' => r = .ok (.ret (.bool true)) ∧ OldK s1.heap s'.heap ∧ s'.os = s1.os ∧ AllBare s'.gens) s1 := by
  have rv := vals_ints hi
  obtain ⟨wr, hwr⟩ : ∃ wr : Bool, wr = (K.lookup a).isSome := ⟨_, rfl⟩
  obtain ⟨H, hH⟩ : ∃ H, H = H0 cs a wr { cls := .type "list", data := .seq vs.toArray } (ns.map V.int) := ⟨_, rfl⟩
  have tabNe : ∀ p ∈ cs, p.2 ≠ a := fun p hp z => by
    have e := hT p hp
    rw [z, ha] at e
    cases e
  have HT : ∀ p ∈ cs, H p.2 = some (TabO p.2) := fun p hp => by
    rw [hH]
    show (if p.2 = a ∧ wr = false then _ else if p.2 ∈ cs.map (·.2) then _ else _) = _
    rw [if_neg fun z => tabNe p hp z.1, if_pos (List.mem_map.mpr ⟨p, hp, rfl⟩)]
  -- an address that is tracked: the script, or a table
  have Hcase : ∀ b, H b = none ∨ (b = a ∧ wr = false ∧ H b = some (.frz { cls := .type "list", data := .seq vs.toArray } (.lst (ns.map V.int)))) ∨ (∃ p ∈ cs, p.2 = b ∧ H b = some (TabO b)) := fun b => by
    by_cases h1 : b = a ∧ wr = false
    · refine .inr (.inl ⟨h1.1, h1.2, ?_⟩)
      rw [hH]
      exact if_pos h1
    · by_cases h2 : b ∈ cs.map (·.2)
      · obtain ⟨p, hp, e⟩ := List.mem_map.mp h2
        refine .inr (.inr ⟨p, hp, e, ?_⟩)
        rw [← e]
        exact HT p hp
      · refine .inl ?_
        rw [hH]
        exact (if_neg h1).trans (if_neg h2)
  have free : ∀ {b : Addr} {o : Obj}, s1.heap.get? b = some o → (∀ z n, o.data ≠ .seq z n) → o.data ≠ .fields #[] → H b = none := fun {b o} e h1 h2 => by
    rcases Hcase b with z | ⟨z, _⟩ | ⟨p, hp, z, _⟩
    · exact z
    · rw [z, ha] at e
      cases e
      exact (h1 _ _ rfl).elim
    · have e2 := hT p hp
      rw [z, e] at e2
      cases e2
      exact (h2 rfl).elim
  have toBase : ∀ {b : Addr} {o : Obj}, s1.heap.get? b = some o → H b = none → (hidT s1.heap H).get? b = some o := fun e n => hidT_get e n
  have nsB : ∀ {b : Addr} {m : Str → Option Value}, s1.heap.Ns b m → (hidT s1.heap H).Ns b m := fun {b m} ⟨o, es, ep, e, d, r⟩ =>
    ⟨o, es, ep, toBase e (free e (fun z n q => by rw [d] at q; cases q) fun q => by rw [d] at q; cases q), d, r⟩
  have kinB : K.In (hidT s1.heap H) := fun b o e => toBase (KX b o e) (by
    rcases Hcase b with z | ⟨z, hw, _⟩ | ⟨p, hp, z, _⟩
    · exact z
    · rw [hwr, ← z, e] at hw
      cases hw
    · rw [← z, nT p hp] at e
      cases e)
  have modB : L2.Mod K mg (hidT s1.heap H) := ⟨kinB, nsB hns, ⟨mb, nsB hb, hbb⟩, let ⟨mc, h1, h2⟩ := hlim; ⟨mc, nsB h1, h2⟩⟩
  have TB : ∀ p ∈ cs, TabB (hidT s1.heap H) mg p.1 p.2 := fun p hp => by
    have e0 := hT p hp
    refine ⟨?_, ?_, fun z => ?_⟩
    · obtain ⟨o, us, file, tf, flags, tg, inF, text, tt, e1, r1, r2, r3, rest⟩ := C p hp
      refine ⟨o, us, file, tf, flags, tg, inF, text, tt, toBase e1 (free e1 (fun z n q => ?_) fun q => ?_), r1, r2, r3, rest⟩
      · rw [r2] at q; cases q
      · rw [r2] at q; cases q; simp at r3
    · obtain ⟨bm, ob, b1, b2, b3, b4, b5, b6⟩ := hbm
      refine ⟨bm, ob, b1, b2, fun q => ?_, fun q => ?_, toBase b3 (free b3 (fun z n q => by rw [b6] at q; cases q) fun q => by rw [b6] at q; cases q), b4, b5, b6⟩
      · obtain ⟨o, es, ep, e, hd, _⟩ := hns
        rw [q, e] at b3
        cases b3
        rw [hd] at b6
        cases b6
      · rw [q, e0] at b3
        cases b3
        cases b6
    · obtain ⟨o, es, ep, e, hd, _⟩ := hns
      rw [z, e0] at e
      cases e
      cases hd
  have okH : HOk P w H s1.heap := fun b u e => by
    rcases Hcase b with z | ⟨z, _, z2⟩ | ⟨p, hp, z, z2⟩
    · rw [z] at e; cases e
    · rw [z2] at e; cases e
      rw [z]
      exact ⟨ha, by rw [List.length_map]; exact hl, vs, _, rv, ha⟩
    · rw [z2] at e; cases e
      exact tab_ok ⟨#[], by rw [← z]; exact hT p hp, trivial⟩
  have e0 : Env0 P w K mg (hidT s1.heap H) callerA [] s1 H := ⟨rfl, modB, fun b o e => of_hidT e, Nat.le_of_eq (hidT_size _ _), trivial, fun b hb => absurd (show b ∈ ([] : List Addr) from hb) (by simp), okH, .of_eq hg⟩
  have hS : SqL K H a (ns.map V.int) := by
    cases hk : K.lookup a with
    | some o =>
      have e := KX a o hk
      rw [ha] at e
      cases e
      exact .inr ⟨_, vs.toArray, _, hk, rfl, rfl, rfl, by rw [List.size_toArray, hi.length]; exact hl, by simpa using rv⟩
    | none =>
      refine .inl (.inr ⟨{ cls := .type "list", data := .seq vs.toArray }, ?_⟩)
      rw [hH]
      exact if_pos ⟨rfl, by rw [hwr, hk]; rfl⟩
  refine codeAny_mono ((F _ kinB (nsB hns) TB).run callerA [] s1 H ⟨[.ref a], []⟩ [.ref a] [.ref a] _ _ hr rfl e0 (hbind s1 (.ref a)) (.cons rfl .nil) (hsp H HT hS)) fun r s' h => ?_
  cases r with
  | error e => exact False.elim h
  | ok fl =>
    cases fl with
    | next => exact False.elim h
    | brk => exact False.elim h
    | cont => exact False.elim h
    | ret u =>
      obtain ⟨v, H', os, bare, un, okH', r', q1, q2⟩ := h
      subst q1
      obtain rfl : u = Value.bool true := r'
      have grown : ∀ p ∈ cs, ∃ more : Array Value, s'.heap.get? p.2 = some { cls := .none, data := .fields more } := fun p hp => let ⟨⟨ps, e, _⟩, _⟩ := okH' p.2 _ (q2 p hp); ⟨ps, e⟩
      have other : ∀ b o, (∀ p ∈ cs, p.2 ≠ b) → s1.heap.get? b = some o → s'.heap.get? b = some o := fun b o nb e => by
        rcases Hcase b with z | ⟨z, _, z2⟩ | ⟨p, hp, z, _⟩
        · exact un.keep b o e z (by intro z; cases z) (by simp)
        · have e1 := (okH b _ z2).1
          rw [e] at e1
          cases e1
          exact (okH' b _ (un.frzs b _ _ z2)).1
        · exact (nb p hp z).elim
      refine ⟨rfl, ⟨fun b o e => ?_, fun b o e => ?_⟩, os, bare⟩
      · by_cases hb : ∃ p ∈ cs, p.2 = b
        · obtain ⟨p, hp, ep⟩ := hb
          obtain ⟨more, hm⟩ := grown p hp
          subst ep
          rw [hT p hp] at e
          cases e
          exact .inr (.inl ⟨((C p hp).tab (hT p hp)).isCodeTable, rfl, #[], more, rfl, by rw [Array.empty_append]; exact hm⟩)
        · exact .inl (other b o (fun p hp z => hb ⟨p, hp, z⟩) e)
      · by_cases hb : ∃ p ∈ cs, p.2 = b
        · obtain ⟨p, hp, ep⟩ := hb
          obtain ⟨more, hm⟩ := grown p hp
          rw [← ep]
          exact ⟨_, hm⟩
        · exact ⟨o, other b o (fun p hp z => hb ⟨p, hp, z⟩) e⟩
end
/-- what is to be shown of the law at the head's heap; tn: the defs whose tables may grow, their code objects and tables -/
def LawE (l : PySem.W.OpenLaw) (q : Program) (w : World) (K : PySem.W.Frag) (k n : Nat) (x : Str) (mg : Str → Option Value) (fa : Addr) : Prop :=
  ∃ (fd : FuncData) (tn : List (Str × Addr × Addr)) (sp : Sp), (∀ p ∈ tn, PySem.W.tabIn K p.1 = some p.2 ∧ ((recsOf q).any fun e => e.name == p.1) = true ∧ K.lookup p.2.2 = none) ∧ (∀ (s : Shared) (u : Value), BindsTo s fd ⟨[u], []⟩ [(x, u)]) ∧
    (∀ (H : Hp) (a : Addr) (ns : List Int), ns.length ≤ n → (∀ z ∈ ns, Builtin.Int.intBits z ≤ 1048576) → (∀ p ∈ tn, H p.2.2 = some (TabO p.2.2)) → SqL K H a (ns.map V.int) → sp [.ref a] H (fun v H' => v = .bl true ∧ ∀ p ∈ tn, H' p.2.2 = some (TabO p.2.2)) E0) ∧
    ∀ base : Heap, K.In base → base.Ns mainGlobals mg → (∀ p ∈ tn, TabB base mg p.2.1 p.2.2) → FnG l.prog w K mg base k fa fd [x] sp
theorem walk_E {l : PySem.W.OpenLaw} {n k : Nat} {q : Program} {loose : List Str} {XP : (Str → Option Value) → Heap → Prop} {YP : World → Heap → Prop} {d : DefRec} {K : Params → PySem.W.Frag} {x : Str}
    (hn : l.most = some n) (hn2 : n ≤ sizeLine) (hdf : d.params.defaults = []) (hr : Room k callerA) (hY : ∀ (w : World) (h : Heap), YP w h → (K w.params).In h)
    (F : ∀ (w : World) (mg : Str → Option Value) (fa : Addr) (h : Heap), (K w.params).In h → h.Ns mainGlobals mg → mg d.name = some (.ref fa) → LawE l q w (K w.params) k n x mg fa) :
    PySem.W.WalkO q loose XP YP l.row.toRowW d [] (fun f vs => PySem.call f vs) := by
  refine Att.attach_callB hn hdf fun w s₀ s1 mg mb fa o pm cd doc a vs ns G Y ho hd hcd hmg hobj hints hlen hbits hg => ?_
  have KX := hY w _ Y
  obtain ⟨fd, tn, sp, hT, hb, hsp, hF⟩ := F w mg fa _ KX G.T.g hmg
  have key : ∀ p ∈ tn, PySem.W.CodeHd s1.heap p.2.1 p.2.2 ∧ s1.heap.get? p.2.2 = some { cls := .none, data := .fields #[] } := fun p hp => by
    obtain ⟨h1, h2, _⟩ := hT p hp
    cases e : (recsOf q).find? (fun e => e.name == p.1) with
    | none =>
      rw [List.find?_eq_none] at e
      obtain ⟨z, z1, z2⟩ := List.any_eq_true.mp h2
      exact absurd z2 (e z z1)
    | some d0 => exact PySem.W.tab_of G.T KX e h1
  have tr : ∀ p ∈ tn.map (·.2), ∃ y ∈ tn, y.2 = p := fun p hp => let ⟨y, h1, h2⟩ := List.mem_map.mp hp; ⟨y, h1, h2⟩
  refine law_end (cs := tn.map (·.2)) KX G.T.g G.T.b G.T.builtins G.T.nolimit hg (fun p hp => ?_) (fun p hp => ?_) (fun p hp => ?_) G.T.bmain hobj hints (Nat.le_trans hlen hn2) hr (fun base h1 h2 h3 => hF base h1 h2 fun p hp => h3 p.2 (List.mem_map.mpr ⟨p, hp, rfl⟩)) hb fun H hH hS => ?_
  · obtain ⟨y, hy, e⟩ := tr p hp
    rw [← e]
    exact (key y hy).2
  · obtain ⟨y, hy, e⟩ := tr p hp
    rw [← e]
    exact (hT y hy).2.2
  · obtain ⟨y, hy, e⟩ := tr p hp
    rw [← e]
    exact (key y hy).1
  · have := hsp H a ns hlen hbits (fun p hp => hH p.2 (List.mem_map.mpr ⟨p, hp, rfl⟩)) hS
    have e : (fun (v : V) (H' : Hp) => v = V.bl true ∧ ∀ p ∈ tn.map (·.2), H' p.2 = some (TabO p.2)) = fun v H' => v = V.bl true ∧ ∀ p ∈ tn, H' p.2.2 = some (TabO p.2.2) := by
      funext v H'
      exact propext ⟨fun ⟨a, b⟩ => ⟨a, fun p hp => b p.2 (List.mem_map.mpr ⟨p, hp, rfl⟩)⟩, fun ⟨a, b⟩ => ⟨a, fun p hp => by
        obtain ⟨y, hy, e⟩ := tr p hp
        rw [← e]
        exact b y hy⟩⟩
    rw [e]
    exact this
end Gx
end

section
set_option Elab.async false
set_option linter.all false
set_option maxRecDepth 100000
set_option maxHeartbeats 4000000
/-! More rules: ** of great ints, repr of nested data of ints, xs[i] op= e, chains of three, != of types. -/
namespace Gx
open PySem PySem.Spec PyProof.Rows L2 GxR
/-! ### repr -/
mutual
def nod : PyData → Nat
  | .list xs => nodAll xs + 3
  | .tuple xs => nodAll xs + 3
  | _ => 1
def nodAll : List PyData → Nat
  | [] => 0
  | x :: xs => nod x + 2 + nodAll xs
end
mutual
def intsP (B : Nat) : PyData → Prop
  | .int i => i.natAbs < 2 ^ B
  | .list xs => intsAll B xs
  | .tuple xs => intsAll B xs
  | _ => False
def intsAll (B : Nat) : List PyData → Prop
  | [] => True
  | x :: xs => intsP B x ∧ intsAll B xs
end
mutual
theorem ints_shown {B : Nat} (hB : 0 < B) : ∀ d : PyData, intsP B d → d.shown.length ≤ (B + 1) * nod d
  | .int i, h => by
    have h' : i.natAbs < 2 ^ B := h
    have e := int_text_length_le (a := i) hB (PySem.Flt.log2_lt_of hB h')
    show (Str.ofString (toString i)).length ≤ (B + 1) * 1
    rw [PySem.ofString_length, Nat.mul_one]
    exact e
  | .list xs, h => by
    have h1 := ints_shownAll hB xs h
    have h2 := listText_len_le (PyData.shownAll xs)
    have h3 := PyData.shownAll_length xs
    have e : (B + 1) * (nodAll xs + 3) = (B + 1) * nodAll xs + (B + 1) * 3 := Nat.mul_add ..
    show (listText (PyData.shownAll xs)).length ≤ (B + 1) * (nodAll xs + 3)
    omega
  | .tuple xs, h => by
    have h1 := ints_shownAll hB xs h
    have h2 := tupleText_len_le (PyData.shownAll xs)
    have h3 := PyData.shownAll_length xs
    have e : (B + 1) * (nodAll xs + 3) = (B + 1) * nodAll xs + (B + 1) * 3 := Nat.mul_add ..
    show (tupleText (PyData.shownAll xs)).length ≤ (B + 1) * (nodAll xs + 3)
    omega
  | .none, h => h.elim
  | .bool _, h => h.elim
  | .str _, h => h.elim
  | .dict _, h => h.elim
theorem ints_shownAll {B : Nat} (hB : 0 < B) : ∀ xs : List PyData, intsAll B xs → ((PyData.shownAll xs).map (·.length)).sum + 2 * xs.length ≤ (B + 1) * nodAll xs
  | [], _ => by simp [PyData.shownAll]
  | x :: xs, h => by
    have h1 := ints_shown hB x h.1
    have h2 := ints_shownAll hB xs h.2
    have e : (B + 1) * nodAll (x :: xs) = (B + 1) * nod x + (B + 1) * 2 + (B + 1) * nodAll xs := by
      show (B + 1) * (nod x + 2 + nodAll xs) = _
      rw [Nat.mul_add, Nat.mul_add]
    rw [e]
    simp only [PyData.shownAll, List.map_cons, List.sum_cons, List.length_cons]
    omega
end
mutual
theorem ints_show {B : Nat} (h2 : B ≤ 1900) (hB : 0 < B) : ∀ d : PyData, intsP B d → d.showable = true ∧ d.hasDict = false
  | .int i, h => by
    have h' : i.natAbs < 2 ^ B := h
    exact ⟨decide_eq_true (Nat.lt_of_lt_of_le (PySem.Flt.log2_lt_of hB h') (by omega)), rfl⟩
  | .list xs, h => ints_showAll h2 hB xs h
  | .tuple xs, h => ints_showAll h2 hB xs h
  | .none, h => h.elim
  | .bool _, h => h.elim
  | .str _, h => h.elim
  | .dict _, h => h.elim
theorem ints_showAll {B : Nat} (h2 : B ≤ 1900) (hB : 0 < B) : ∀ xs : List PyData, intsAll B xs → PyData.showableAll xs = true ∧ PyData.hasDictAll xs = false
  | [], _ => ⟨rfl, rfl⟩
  | x :: xs, h => by
    obtain ⟨a1, a2⟩ := ints_show h2 hB x h.1
    obtain ⟨b1, b2⟩ := ints_showAll h2 hB xs h.2
    exact ⟨by simp only [PyData.showableAll, a1, b1, Bool.and_self], by simp only [PyData.hasDictAll, a2, b2, Bool.or_self]⟩
end
section
variable {X : Cx}
/-- repr of a list or a tuple of ints, at any depth -/
def rRepr (K : PySem.W.Frag) : List V → Hp → VK → Prop := fun vs H Q => ∃ (a : Addr) (d : PyData) (B : Nat), vs = [.ref a] ∧ Dp K H (.ref a) d ∧ intsP B d ∧ 0 < B ∧ B ≤ 1900 ∧ (B + 1) * nod d ≤ 16777216 ∧ d.depth ≤ 30 ∧ Q (.str d.shown) H
theorem cr_repr {k : Nat} (hr : Room k X.A) (hg : X.A.guards = some []) : CallR X (.builtin "repr") (rRepr X.K) := by
  intro pins s σ H vs us Q I r h
  obtain ⟨a, d, B, rfl, hd, hi, h0, hB, hn, hdp, q⟩ := h
  cases r with
  | cons r1 rr =>
    cases rr
    cases (show _ = Value.ref a from r1)
    obtain ⟨as, R⟩ := Dp.reads I d (.ref a) (.ref a) hd rfl
    obtain ⟨s1, s2⟩ := ints_show hB h0 d hi
    refine repr_of_reads' R s1 (PyData.noDict_hsm s2) hg (by have := hr.un; omega) (fun b o e => e) (fun h' u tk hk => ⟨.str d.shown, H, I.kept hk, ⟨u, rfl⟩, q⟩) ?_
    have := ints_shown h0 d hi
    show d.shown.length ≤ 16777216
    omega
/-! ### ** -/
def CPowW (i j : Int) : Prop := 0 ≤ j ∧ ∃ b : Nat, i.natAbs < 2 ^ b ∧ 0 < b ∧ (b : Int) * j ≤ 134217728
theorem op_powW : OpR X (binaryOp .Pow) (rI CPowW fun i j => .int (i ^ j.toNat)) := opI fun i j _ _ _ _ _ hc q => by
  obtain ⟨h0, b, hb, b0, hm⟩ := hc
  refine pow_int h0 ?_ q
  have h1 : Builtin.Int.intBits i ≤ b := by
    unfold Builtin.Int.intBits
    split
    · omega
    · have := PySem.Flt.log2_lt_of b0 hb
      omega
  have h2 : (Builtin.Int.intBits i : Int) * j ≤ (b : Int) * j := Int.mul_le_mul_of_nonneg_right (by omega) h0
  exact Int.le_trans h2 hm
/-! ### xs[i] op= e -/
def rGetL (K : PySem.W.Frag) : V → V → Hp → VK → Prop := fun x y H Q => ∃ p xs i v, x = .ref p ∧ y = .int i ∧ SqL K H p xs ∧ 0 ≤ i ∧ xs[i.toNat]? = some v ∧ Q v H
theorem get_list : PGet X (rGetL X.K) := by
  intro pins s σ H x y v u Q I rx ry h
  obtain ⟨p, xs, i, z, rfl, rfl, hq, h0, he, q⟩ := h
  cases rx
  obtain ⟨t, rfl⟩ := ry
  obtain ⟨its, r, pl, hz⟩ := I.list hq
  obtain ⟨w, ew, rw'⟩ := r.get he
  have hl := r.length
  have hn := line63
  have hlt := (List.getElem?_eq_some_iff.mp he).1
  exact wpAny_getItem_list pl.isList h0 (by omega) (by simpa using ew) ⟨z, H, I, rw', q⟩
/-! ### a < b < c <= d -/
def tChain3 (r r' r'' : R2) (ta tb tc td : TE) : TE := fun σ H Q => ta σ H fun x H1 => tb σ H1 fun y H2 => r x y H2 fun z H3 => ∃ k, z = .bl k ∧
  (if k = true then tc σ H3 fun x2 H4 => r' y x2 H4 fun z2 H5 => ∃ k2, z2 = .bl k2 ∧ (if k2 = true then td σ H5 fun x3 H6 => r'' x2 x3 H6 Q else Q (.bl false) H5) else Q (.bl false) H3)
theorem pe_chain3 {op op' op'' : CmpOp} {r r' r'' : R2} {a b c d : Expr} {ta tb tc td : TE} {pos : Pos} (ho : OpR X (compareOp op) r) (ho' : OpR X (compareOp op') r') (ho'' : OpR X (compareOp op'') r'') (ha : PE X a ta) (hb : PE X b tb) (hc : PE X c tc) (hd : PE X d td)
    (hm : lastMarks [op, op', op''] [b, c, d] = false := by with_unfolding_all rfl) : PE X (.Compare a [op, op', op''] [b, c, d] pos) (tChain3 r r' r'' ta tb tc td) := by
  refine ⟨fun pins s σ H Q I h => ?_⟩
  refine Compare_chain (thn (ha.run pins s σ H _ I h) fun v s1 ⟨x, H1, I1, r1, q1⟩ => chain_link (thn (hb.run pins s1 σ H1 _ I1 q1) fun u s2 ⟨y, H2, I2, r2, q2⟩ =>
    thn (ho pins s2 σ H2 x y v u _ I2 r1 r2 q2) fun d s3 ⟨z, H3, I3, r3, k, e, q3⟩ => ?_)) hm
  subst e
  cases r3
  refine wpAny_truthy_bool ?_
  cases k with
  | false => exact ite_ff ⟨.bl false, H3, I3, rfl, q3⟩
  | true =>
    refine ite_tt (chain_link (thn (hc.run pins s3 σ H3 _ I3 q3) fun w' s4 ⟨x2, H4, I4, r4, q4⟩ => thn (ho' pins s4 σ H4 y x2 u w' _ I4 r2 r4 q4) fun d2 s5 ⟨z2, H5, I5, r5, k2, e2, q5⟩ => ?_))
    subst e2
    cases r5
    refine wpAny_truthy_bool ?_
    cases k2 with
    | false => exact ite_ff ⟨.bl false, H5, I5, rfl, q5⟩
    | true => exact ite_tt (chain_last (thn (hd.run pins s5 σ H5 _ I5 q5) fun w2 s6 ⟨x3, H6, I6, r6, q6⟩ => ho'' pins s6 σ H6 x2 x3 w' w2 Q I6 r4 r6 q6))
/-! ### != of types -/
theorem slot_type_ne : Slot "type" (cmpInfo .NotEq).2.1 "object.__ne__" :=
  .of (owner := "object") (n := "__ne__") (by rw [typeLookup_type, builtinLookup_eq_fast]; kernel_rfl) (by decide +kernel) (by decide +kernel) (by decide +kernel)
    (by first | exact .inl (by decide +kernel) | exact .inr (by decide +kernel)) (by rw [isSubtype_type]; kernel_rfl)
theorem ne_type_same {prog : Program} {w : World} {A : Around} {E : Value → Shared → Prop} {s : Shared} {Q : Value → Shared → Prop} {T : String} (hX : ∀ s' : Shared, s'.TypeIs (.type T) "type") (h : Q (.bool false) s) :
    wpAny (model prog w) A (compareOp .NotEq (.type T) (.type T)) Q E s := by
  show wpAny _ A (richCompare .NotEq _ _) Q E s
  refine wpAny_richCompare_same (T := "type") (hX s) (hX s) slot_type_ne ?_
  refine wpAny_call_entry slot_type_ne (hX s) F.entry_object_ne ?_ (F.args_object_ne_2 _ _)
  unfold Builtin.«object.__ne__»
  refine wpAny_bind (wpAny_of_eq (a := (Value.type T, [Value.type T])) (by simp [slotArgs]) ?_)
  refine wpAny_bind (wpAny_cRoomFor_or (.inl rfl) ?_)
  refine wpAny_bind (wpAny_callSpecialIfBound?_slot (hX s) TypeEq.slot_type_eq (call_gives TypeEq.slot_type_eq (hX s) F.entry_object_eq (F.args_object_eq_2 _ _) (TypeEq.object_eq_same rfl (by simp)) ?_))
  refine wpAny_bind (wpAny_truthy_bool ?_)
  exact wpAny_pure ⟨.bool false, rfl, (by intro e; cases e), h⟩
end
end Gx
end

section
set_option Elab.async false
set_option linter.all false
set_option maxRecDepth 100000
set_option maxHeartbeats 4000000
/-! Defs of the text by their names. -/
namespace Gx
open PySem PySem.Spec PyProof.Rows L2 GxR
/-- a def whose code object stands at c -/
structure FunC (K : PySem.W.Frag) (x qual : Str) (st : Stmt) (f : Addr) (fd : FuncData) (c : Addr) : Prop where
  ex : ∃ (oc : Value) (od : Option Addr) (kV doc pm : Value) (an : Option Addr) (ct : Value) (osl : Array (Option Value)),
    fd = PySem.W.fnOf x qual (defArgs st) (defBody st) (defScope st) .none kV doc pm an (.ref c) ct ∧ K.lookup f = some ⟨oc, od, .func fd, osl⟩ ∧ PySem.W.codeIn K (.ref c) qual = true
  kp : PySem.W.keepIn K (.ref f) = true
theorem FunC.fn {K : PySem.W.Frag} {x qual : Str} {st : Stmt} {f : Addr} {fd : FuncData} {c : Addr} (F : FunC K x qual st f fd c) : Fun K x qual st f fd :=
  ⟨let ⟨oc, od, kV, doc, pm, an, ct, osl, h⟩ := F.ex; ⟨oc, od, kV, doc, pm, an, .ref c, ct, osl, h⟩, F.kp⟩
theorem FunC.ok {P : Program} {w : World} {K : PySem.W.Frag} {mg : Str → Option Value} {base : Heap} {x qual : Str} {st : Stmt} {f : Addr} {fd : FuncData} {c : Addr} {N ps : List Str} {k : Nat} {sp : Sp} (F : FunC K x qual st f fd c) (S : FnScope N ps (defScope st)) (len : ∀ vs H Q E, sp vs H Q E → vs.length = ps.length)
    (hbody : ∀ (A : Around) (outer : List Env) (s : Shared) (H : Hp) (vs : List V) (Q : VK) (E : XK), Room k (A.deeper (envOfC qual (defScope st) s.heap.objs.size f (.ref c))) → sp vs H Q E →
      ∃ t, PSs (cxOf CX0 P w K mg base N qual (defScope st) f (.ref c) A outer s H E).nox (defBody st) t ∧ t { nx := fun _ H' => Q .non H', rt := Q } (start N vs) H) : FnOk P w K mg base CX0 (k + 1) f fd ps sp := by
  obtain ⟨oc, od, kV, doc, pm, an, ct, osl, rfl, lk, hcd⟩ := F.ex
  refine fn_of lk hcd S len fun A outer s H vs Q E hr hsp => ?_
  obtain ⟨t, h, q⟩ := hbody A outer s H vs Q E hr hsp
  exact ⟨t, h.nox, q⟩
/-- the def x stands at its name -/
structure DF (K : PySem.W.Frag) (mg : Str → Option Value) (x : Str) (st : Stmt) : Prop where
  ex : ∃ f fd, Fun K x x st f fd ∧ mg x = some (.ref f)
structure DC (K : PySem.W.Frag) (mg : Str → Option Value) (x : Str) (st : Stmt) (c : Addr) : Prop where
  ex : ∃ f fd, FunC K x x st f fd c ∧ mg x = some (.ref f)
section
variable {K : PySem.W.Frag} {mg : Str → Option Value} {h : Heap}
theorem df_mk {x : Str} {st : Stmt} {f : Addr} {oc : Value} {od an : Option Addr} {osl : Array (Option Value)} {kV doc pm cdv ct : Value} (X : K.In h) (G : h.Ns mainGlobals mg) (a : PySem.W.nsIn K mainGlobals x = some (some (.ref f)))
    (l : K.lookup f = some ⟨oc, od, .func (PySem.W.fnOf x x (defArgs st) (defBody st) (defScope st) .none kV doc pm an cdv ct), osl⟩) (c : PySem.W.codeIn K cdv x = true) (k : PySem.W.keepIn K (.ref f) = true) : DF K mg x st :=
  ⟨⟨f, _, fun_mk l c k, PySem.W.mg_of X G a⟩⟩
theorem dc_mk {x : Str} {st : Stmt} {f cc : Addr} {oc : Value} {od an : Option Addr} {osl : Array (Option Value)} {kV doc pm ct : Value} (X : K.In h) (G : h.Ns mainGlobals mg) (a : PySem.W.nsIn K mainGlobals x = some (some (.ref f)))
    (l : K.lookup f = some ⟨oc, od, .func (PySem.W.fnOf x x (defArgs st) (defBody st) (defScope st) .none kV doc pm an (.ref cc) ct), osl⟩) (c : PySem.W.codeIn K (.ref cc) x = true) (k : PySem.W.keepIn K (.ref f) = true) : DC K mg x st cc :=
  ⟨⟨f, _, ⟨⟨oc, od, kV, doc, pm, an, ct, osl, rfl, l, c⟩, k⟩, PySem.W.mg_of X G a⟩⟩
end
section
variable {P : Program} {w : World} {K : PySem.W.Frag} {mg : Str → Option Value} {base : Heap} {k : Nat} {x : Str} {ps : List Str} {sp : Sp} {st : Stmt}
theorem cal_mk (D : DF K mg x st) (hb : ∀ f fd, Fun K x x st f fd → Binds K fd ps []) (F : ∀ f fd, Fun K x x st f fd → FnOk P w K mg base CX0 k f fd ps sp) : Cal P w K mg base k x ps sp :=
  let ⟨f, fd, F0, m⟩ := D.ex; ⟨⟨f, fd, F f fd F0, m, F0.kp, hb f fd F0⟩⟩
theorem calG_mk (D : DF K mg x st) (hb : ∀ f fd, Fun K x x st f fd → Binds K fd ps []) (F : ∀ f fd, Fun K x x st f fd → FnG P w K mg base k f fd ps sp) : CalG P w K mg base k x ps sp :=
  let ⟨f, fd, F0, m⟩ := D.ex; ⟨⟨f, fd, F f fd F0, m, F0.kp, hb f fd F0⟩⟩
theorem calC_mk {c : Addr} (D : DC K mg x st c) (hb : ∀ f fd, Fun K x x st f fd → Binds K fd ps []) (F : ∀ f fd, FunC K x x st f fd c → FnOk P w K mg base CX0 k f fd ps sp) : Cal P w K mg base k x ps sp :=
  let ⟨f, fd, F0, m⟩ := D.ex; ⟨⟨f, fd, F f fd F0, m, F0.kp, hb f fd F0.fn⟩⟩
theorem calK_mk {ks : List Str} {g : List Value → List Value → List Value} {gV : List V → List V → List V} (D : DF K mg x st) (hb : ∀ f fd, Fun K x x st f fd → KBinds K fd ps ks g gV) (F : ∀ f fd, Fun K x x st f fd → FnOk P w K mg base CX0 k f fd ps sp) : CalK P w K mg base k x ps ks gV sp :=
  let ⟨f, fd, F0, m⟩ := D.ex; ⟨⟨f, fd, g, F f fd F0, m, F0.kp, hb f fd F0⟩⟩
end
section
variable {X : Cx}
/-- a module's int -/
theorem pe_gi {x : Str} {n : Int} {pos : Pos} (h : ∃ t, X.mg x = some (.int n t)) (hg : Gl X x := by rfl) (hd : (x == ("__debug__" : Str)) = false := by decide) : PE X (.Name x pos) (tC (.int n)) :=
  let ⟨t, e⟩ := h; pe_glob hg e ⟨t, rfl⟩ hd
def rNeTy : R2 := fun x y H Q => ∃ n, x = .ty n ∧ y = .ty n ∧ (∀ s' : Shared, s'.TypeIs (.type n) "type") ∧ Q (.bl false) H
theorem op_neTy : OpR X (compareOp .NotEq) rNeTy := by
  intro pins s σ H x y v u Q I rx ry h
  obtain ⟨n, rfl, rfl, hm, q⟩ := h
  cases (show v = Value.type n from rx)
  cases (show u = Value.type n from ry)
  exact ne_type_same hm ⟨.bl false, H, I, rfl, q⟩
end
/-- the scope of a generator expression, decided -/
def gokB (N : List Str) (sc scope : Scope) (x : Str) (ns : List (Str × Nat)) : Bool :=
  decide (scope.kind = .function) && !scope.isCoroutine && scope.names.all (fun y => decide (y.2 ≠ .cell)) && decide (scope.names.lookup (".0" : Str) = some NameKind.local) && decide (scope.names.lookup x = some .local) &&
  scope.names.all (fun y => decide (y.2 = .free → sc.names.lookup y.1 = some .cell ∨ sc.names.lookup y.1 = some .free)) && ns.all (fun p => decide (N[p.2]? = some p.1) && decide ((p.1, NameKind.free) ∈ scope.names)) && scope.names.all (fun y => decide (scope.names.lookup y.1 = some y.2))
theorem gok_by {N : List Str} {sc scope : Scope} {x : Str} {ns : List (Str × Nat)} (h : gokB N sc scope x ns = true) : GOk N sc scope x ns := by
  unfold gokB at h
  simp only [Bool.and_eq_true, List.all_eq_true, decide_eq_true_eq, Bool.not_eq_true'] at h
  obtain ⟨⟨⟨⟨⟨⟨⟨h1, h2⟩, h3⟩, h4⟩, h5⟩, h6⟩, h7⟩, h8⟩ := h
  exact ⟨h1, h2, fun y hy => h3 y hy, h4, h5, fun y hy => h6 y hy, fun p hp => h7 p hp, fun y hy => h8 y hy⟩
end Gx
namespace Gx
open PySem PySem.Spec PyProof.Rows L2 GxR
section
variable {K : PySem.W.Frag} {mg : Str → Option Value} {h : Heap} {Goal : Prop}
theorem with_df {x : Str} {st : Stmt} {f : Addr} {oc : Value} {od an : Option Addr} {osl : Array (Option Value)} {kV doc pm cdv ct : Value} (X : K.In h) (G : h.Ns mainGlobals mg) (a : PySem.W.nsIn K mainGlobals x = some (some (.ref f)))
    (l : K.lookup f = some ⟨oc, od, .func (PySem.W.fnOf x x (defArgs st) (defBody st) (defScope st) .none kV doc pm an cdv ct), osl⟩) (c : PySem.W.codeIn K cdv x = true) (k : PySem.W.keepIn K (.ref f) = true) (go : DF K mg x st → Goal) : Goal := go (df_mk X G a l c k)
theorem tab_mk {x qual : Str} {st : Stmt} {f cc tt : Addr} {oc e : Value} {od an dd : Option Addr} {osl sl : Array (Option Value)} {kV doc pm ct : Value} {vs : Array Value} (a : PySem.W.nsIn K mainGlobals x = some (some (.ref f)))
    (l : K.lookup f = some ⟨oc, od, .func (PySem.W.fnOf qual qual (defArgs st) (defBody st) (defScope st) .none kV doc pm an (.ref cc) ct), osl⟩) (lc : K.lookup cc = some ⟨e, dd, .fields vs, sl⟩) (hv : vs[11]? = some (.ref tt)) : PySem.W.tabIn K x = some (cc, tt) := by
  unfold PySem.W.tabIn
  rw [a]
  simp only [l, PySem.W.fnOf, lc, hv]
theorem with_dc {x : Str} {st : Stmt} {f cc tt : Addr} {oc e : Value} {od an dd : Option Addr} {osl sl : Array (Option Value)} {kV doc pm ct : Value} {vs : Array Value} (X : K.In h) (G : h.Ns mainGlobals mg) (a : PySem.W.nsIn K mainGlobals x = some (some (.ref f)))
    (l : K.lookup f = some ⟨oc, od, .func (PySem.W.fnOf x x (defArgs st) (defBody st) (defScope st) .none kV doc pm an (.ref cc) ct), osl⟩) (c : PySem.W.codeIn K (.ref cc) x = true) (k : PySem.W.keepIn K (.ref f) = true)
    (lc : K.lookup cc = some ⟨e, dd, .fields vs, sl⟩) (hv : vs[11]? = some (.ref tt)) (n : K.lookup tt = none) (go : ∀ c P, DC K mg x st c → PySem.W.tabIn K x = some (c, P) → K.lookup P = none → Goal) : Goal := go cc tt (dc_mk X G a l c k) (tab_mk a l lc hv) n
theorem with_bl {x : Str} (X : K.In h) (G : h.Ns mainGlobals mg) (a : PySem.W.nsIn K mainGlobals x = some none) (go : mg x = none → Goal) : Goal := go (PySem.W.mg_none_of X G a)
theorem with_gi {x : Str} {n : Int} {t : Tok} (X : K.In h) (G : h.Ns mainGlobals mg) (a : PySem.W.nsIn K mainGlobals x = some (some (.int n t))) (go : (∃ t, mg x = some (.int n t)) → Goal) : Goal := go ⟨t, PySem.W.mg_of X G a⟩
theorem with_bf {x : Str} {id : String} (X : K.In h) (G : h.Ns mainGlobals mg) (a : PySem.W.nsIn K mainGlobals x = some (some (.builtin id))) (go : mg x = some (.builtin id) → Goal) : Goal := go (PySem.W.mg_of X G a)
end
end Gx
end

section
set_option Elab.async false
set_option linter.all false
set_option maxRecDepth 100000
set_option maxHeartbeats 4000000
/-! *= and //= of great ints; repr of ints, truth values, None and of nested data of these. -/
namespace Gx
open PySem PySem.Spec PyProof.Rows L2 GxR
section
variable {X : Cx}
def ipIC (C : Int → Int → Prop) (f : Int → Int → Int) : TIp := fun x y H Q => ∃ i j, x = .int i ∧ y = .int j ∧ C i j ∧ Q (.int (f i j)) H
theorem ip_mulW : PIp X .Mult (ipIC CMulW fun i j => i * j) := by
  intro pins s σ H x y v u Q I r1 r2 h
  obtain ⟨i, j, e1, e2, hc, q⟩ := h
  subst e1; subst e2
  obtain ⟨t, rfl⟩ := r1
  obtain ⟨t', rfl⟩ := r2
  refine PySem.AutoIntOps.imul_0 ?_ hc.ok
  exact ⟨.int _, H, I.tok _, ⟨_, rfl⟩, q⟩
theorem ip_fdivW : PIp X .FloorDiv (ipIC CDivW fun i j => i / j) := by
  intro pins s σ H x y v u Q I r1 r2 h
  obtain ⟨i, j, e1, e2, hc, q⟩ := h
  subst e1; subst e2
  obtain ⟨t, rfl⟩ := r1
  obtain ⟨t', rfl⟩ := r2
  have h1 : (0 : Int) < j := hc.1
  exact ifloordiv_int (by omega) (by rw [Int.fdiv_eq_ediv_of_nonneg i (by omega)]; exact ⟨.int _, H, I.tok _, ⟨_, rfl⟩, q⟩) (.inl (PyProof.noPylong_of_log2 hc.2))
end
mutual
/-- ints below 2 ^ B, truth values, None, and lists and tuples of these -/
def shP (B : Nat) : PyData → Prop
  | .int i => i.natAbs < 2 ^ B
  | .none => True
  | .bool _ => True
  | .list xs => shAll B xs
  | .tuple xs => shAll B xs
  | _ => False
def shAll (B : Nat) : List PyData → Prop
  | [] => True
  | x :: xs => shP B x ∧ shAll B xs
end
mutual
theorem sh_shown {B : Nat} (hB : 4 ≤ B) : ∀ d : PyData, shP B d → d.shown.length ≤ (B + 1) * nod d
  | .int i, h => by
    have h' : i.natAbs < 2 ^ B := h
    have e := int_text_length_le (a := i) (by omega) (PySem.Flt.log2_lt_of (by omega) h')
    show (Str.ofString (toString i)).length ≤ (B + 1) * 1
    rw [PySem.ofString_length, Nat.mul_one]
    exact e
  | .none, _ => by
    show (PyData.shown .none).length ≤ (B + 1) * 1
    rw [Nat.mul_one]
    exact Nat.le_trans (show (PyData.shown .none).length ≤ 5 by decide) (by omega)
  | .bool b, _ => by
    show (PyData.shown (.bool b)).length ≤ (B + 1) * 1
    rw [Nat.mul_one]
    exact Nat.le_trans (show (PyData.shown (.bool b)).length ≤ 5 by cases b <;> decide) (by omega)
  | .list xs, h => by
    have h1 := sh_shownAll hB xs h
    have h2 := listText_len_le (PyData.shownAll xs)
    have h3 := PyData.shownAll_length xs
    have e : (B + 1) * (nodAll xs + 3) = (B + 1) * nodAll xs + (B + 1) * 3 := Nat.mul_add ..
    show (listText (PyData.shownAll xs)).length ≤ (B + 1) * (nodAll xs + 3)
    omega
  | .tuple xs, h => by
    have h1 := sh_shownAll hB xs h
    have h2 := tupleText_len_le (PyData.shownAll xs)
    have h3 := PyData.shownAll_length xs
    have e : (B + 1) * (nodAll xs + 3) = (B + 1) * nodAll xs + (B + 1) * 3 := Nat.mul_add ..
    show (tupleText (PyData.shownAll xs)).length ≤ (B + 1) * (nodAll xs + 3)
    omega
  | .str _, h => h.elim
  | .dict _, h => h.elim
theorem sh_shownAll {B : Nat} (hB : 4 ≤ B) : ∀ xs : List PyData, shAll B xs → ((PyData.shownAll xs).map (·.length)).sum + 2 * xs.length ≤ (B + 1) * nodAll xs
  | [], _ => by simp [PyData.shownAll]
  | x :: xs, h => by
    have h1 := sh_shown hB x h.1
    have h2 := sh_shownAll hB xs h.2
    have e : (B + 1) * nodAll (x :: xs) = (B + 1) * nod x + (B + 1) * 2 + (B + 1) * nodAll xs := by
      show (B + 1) * (nod x + 2 + nodAll xs) = _
      rw [Nat.mul_add, Nat.mul_add]
    rw [e]
    simp only [PyData.shownAll, List.map_cons, List.sum_cons, List.length_cons]
    omega
end
mutual
theorem sh_show {B : Nat} (h2 : B ≤ 1900) (hB : 0 < B) : ∀ d : PyData, shP B d → d.showable = true ∧ d.hasDict = false
  | .int i, h => by
    have h' : i.natAbs < 2 ^ B := h
    exact ⟨decide_eq_true (Nat.lt_of_lt_of_le (PySem.Flt.log2_lt_of hB h') (by omega)), rfl⟩
  | .none, _ => ⟨rfl, rfl⟩
  | .bool _, _ => ⟨rfl, rfl⟩
  | .list xs, h => sh_showAll h2 hB xs h
  | .tuple xs, h => sh_showAll h2 hB xs h
  | .str _, h => h.elim
  | .dict _, h => h.elim
theorem sh_showAll {B : Nat} (h2 : B ≤ 1900) (hB : 0 < B) : ∀ xs : List PyData, shAll B xs → PyData.showableAll xs = true ∧ PyData.hasDictAll xs = false
  | [], _ => ⟨rfl, rfl⟩
  | x :: xs, h => by
    obtain ⟨a1, a2⟩ := sh_show h2 hB x h.1
    obtain ⟨b1, b2⟩ := sh_showAll h2 hB xs h.2
    exact ⟨by simp only [PyData.showableAll, a1, b1, Bool.and_self], by simp only [PyData.hasDictAll, a2, b2, Bool.or_self]⟩
end
/-- how repr writes a value: what it asks -/
structure Shows (d : PyData) : Prop where
  ex : ∃ B, shP B d ∧ 4 ≤ B ∧ B ≤ 1900 ∧ (B + 1) * nod d ≤ 16777216
  dp : d.depth ≤ 30
section
variable {X : Cx}
def rReprD (K : PySem.W.Frag) : List V → Hp → VK → Prop := fun vs H Q => ∃ (x : V) (d : PyData), vs = [x] ∧ Dp K H x d ∧ Shows d ∧ Q (.str d.shown) H
theorem cr_reprD {k : Nat} (hr : Room k X.A) (hg : X.A.guards = some []) : CallR X (.builtin "repr") (rReprD X.K) := by
  intro pins s σ H vs us Q I r h
  obtain ⟨x, d, rfl, hd, ⟨⟨B, hi, h0, hB, hn⟩, hdp⟩, q⟩ := h
  obtain ⟨s1, s2⟩ := sh_show hB (by omega) d hi
  cases r with
  | cons r1 rr =>
    cases rr
    cases hd with
    | non =>
      cases r1
      exact PySem.P.repr_of_none ⟨.str _, H, I.tok _, ⟨_, rfl⟩, q⟩
    | bl b =>
      cases (show _ = Value.bool b from r1)
      refine PySem.P.repr_of_bool ⟨.str _, H, I.tok _, ⟨_, rfl⟩, ?_⟩
      cases b <;> exact q
    | int i =>
      obtain ⟨t, rfl⟩ := r1
      have h' : i.natAbs < 2 ^ B := hi
      exact PySem.P.repr_of_int (Nat.lt_of_lt_of_le (PySem.Flt.log2_lt_of (by omega) h') (by omega)) ⟨.str _, H, I.tok _, ⟨_, rfl⟩, q⟩
    | str x => exact hi.elim
    | lst h1 h2 =>
      rename_i a xs ds
      cases (show _ = Value.ref a from r1)
      obtain ⟨as, R⟩ := Dp.reads I (.list ds) (.ref a) (.ref a) (.lst h1 h2) rfl
      refine repr_of_reads' R s1 (PyData.noDict_hsm s2) hg (by have := hr.un; omega) (fun b o e => e) (fun h' u tk hk => ⟨.str _, H, I.kept hk, ⟨u, rfl⟩, q⟩) ?_
      have := sh_shown h0 _ hi
      show (PyData.shown (.list ds)).length ≤ 16777216
      omega
    | tup h1 h2 =>
      rename_i a xs ds
      cases (show _ = Value.ref a from r1)
      obtain ⟨as, R⟩ := Dp.reads I (.tuple ds) (.ref a) (.ref a) (.tup h1 h2) rfl
      refine repr_of_reads' R s1 (PyData.noDict_hsm s2) hg (by have := hr.un; omega) (fun b o e => e) (fun h' u tk hk => ⟨.str _, H, I.kept hk, ⟨u, rfl⟩, q⟩) ?_
      have := sh_shown h0 _ hi
      show (PyData.shown (.tuple ds)).length ≤ 16777216
      omega
end
end Gx
end

section
set_option Elab.async false
set_option linter.all false
set_option maxRecDepth 100000
set_option maxHeartbeats 4000000
namespace K09
open PySem PySem.Spec PyProof.Rows L2 GxR Gx
def topS (i : Nat) : Stmt := PySem.Challenge.pw_topups_k09_contents_without_a_history.main.body.getD i (.Pass ⟨0, 0, 0, 0⟩)
abbrev s_is_integer : Stmt := topS 11
theorem sc_is_integer : FnScope ["thing"] ["thing"] (defScope s_is_integer) := ⟨rfl, rfl, rfl, by decide +kernel, rfl, by decide +kernel, by decide +kernel⟩
theorem bd_is_integer {K : PySem.W.Frag} : ∀ f fd, Fun K "is_integer" "is_integer" s_is_integer f fd → Binds K fd ["thing"] [] := fun f fd F => F.binds fun _ _ _ _ _ _ us hl => match us, hl with | [_], _ => rfl
abbrev s_is_within : Stmt := topS 12
theorem sc_is_within : FnScope ["thing", "least", "most"] ["thing", "least", "most"] (defScope s_is_within) := ⟨rfl, rfl, rfl, by decide +kernel, rfl, by decide +kernel, by decide +kernel⟩
theorem bd_is_within {K : PySem.W.Frag} : ∀ f fd, Fun K "is_within" "is_within" s_is_within f fd → Binds K fd ["thing", "least", "most"] [] := fun f fd F => F.binds fun _ _ _ _ _ _ us hl => match us, hl with | [_, _, _], _ => rfl
abbrev s_is_pair_in_lowest_terms : Stmt := topS 13
theorem sc_is_pair_in_lowest_terms : FnScope ["thing", "one", "other"] ["thing"] (defScope s_is_pair_in_lowest_terms) := ⟨rfl, rfl, rfl, by decide +kernel, rfl, by decide +kernel, by decide +kernel⟩
theorem bd_is_pair_in_lowest_terms {K : PySem.W.Frag} : ∀ f fd, Fun K "is_pair_in_lowest_terms" "is_pair_in_lowest_terms" s_is_pair_in_lowest_terms f fd → Binds K fd ["thing"] [] := fun f fd F => F.binds fun _ _ _ _ _ _ us hl => match us, hl with | [_], _ => rfl
abbrev s_is_kept : Stmt := topS 14
theorem sc_is_kept : FnScope ["thing"] ["thing"] (defScope s_is_kept) := ⟨rfl, rfl, rfl, by decide +kernel, rfl, by decide +kernel, by decide +kernel⟩
theorem bd_is_kept {K : PySem.W.Frag} : ∀ f fd, Fun K "is_kept" "is_kept" s_is_kept f fd → Binds K fd ["thing"] [] := fun f fd F => F.binds fun _ _ _ _ _ _ us hl => match us, hl with | [_], _ => rfl
abbrev s_is_list_of_liquids : Stmt := topS 15
theorem sc_is_list_of_liquids : FnScope ["thing", "liquids"] ["thing", "liquids"] (defScope s_is_list_of_liquids) := ⟨rfl, rfl, rfl, by decide +kernel, rfl, by decide +kernel, by decide +kernel⟩
theorem bd_is_list_of_liquids {K : PySem.W.Frag} : ∀ f fd, Fun K "is_list_of_liquids" "is_list_of_liquids" s_is_list_of_liquids f fd → Binds K fd ["thing", "liquids"] [] := fun f fd F => F.binds fun _ _ _ _ _ _ us hl => match us, hl with | [_, _], _ => rfl
abbrev s_is_row : Stmt := topS 16
theorem sc_is_row : FnScope ["thing", "liquids"] ["thing", "liquids"] (defScope s_is_row) := ⟨rfl, rfl, rfl, by decide +kernel, rfl, by decide +kernel, by decide +kernel⟩
theorem bd_is_row {K : PySem.W.Frag} : ∀ f fd, Fun K "is_row" "is_row" s_is_row f fd → Binds K fd ["thing", "liquids"] [] := fun f fd F => F.binds fun _ _ _ _ _ _ us hl => match us, hl with | [_, _], _ => rfl
abbrev s_check_kept : Stmt := topS 17
theorem sc_check_kept : FnScope ["kept"] ["kept"] (defScope s_check_kept) := ⟨rfl, rfl, rfl, by decide +kernel, rfl, by decide +kernel, by decide +kernel⟩
theorem bd_check_kept {K : PySem.W.Frag} : ∀ f fd, Fun K "check_kept" "check_kept" s_check_kept f fd → Binds K fd ["kept"] [] := fun f fd F => F.binds fun _ _ _ _ _ _ us hl => match us, hl with | [_], _ => rfl
abbrev s_check_row : Stmt := topS 18
theorem sc_check_row : FnScope ["row", "liquids"] ["row", "liquids"] (defScope s_check_row) := ⟨rfl, rfl, rfl, by decide +kernel, rfl, by decide +kernel, by decide +kernel⟩
theorem bd_check_row {K : PySem.W.Frag} : ∀ f fd, Fun K "check_row" "check_row" s_check_row f fd → Binds K fd ["row", "liquids"] [] := fun f fd F => F.binds fun _ _ _ _ _ _ us hl => match us, hl with | [_, _], _ => rfl
abbrev s_check_number : Stmt := topS 19
theorem sc_check_number : FnScope ["number", "least", "most"] ["number", "least", "most"] (defScope s_check_number) := ⟨rfl, rfl, rfl, by decide +kernel, rfl, by decide +kernel, by decide +kernel⟩
theorem bd_check_number {K : PySem.W.Frag} : ∀ f fd, Fun K "check_number" "check_number" s_check_number f fd → Binds K fd ["number", "least", "most"] [] := fun f fd F => F.binds fun _ _ _ _ _ _ us hl => match us, hl with | [_, _, _], _ => rfl
abbrev s_common_divisor : Stmt := topS 20
theorem sc_common_divisor : FnScope ["numbers", "divisor", "number"] ["numbers"] (defScope s_common_divisor) := ⟨rfl, rfl, rfl, by decide +kernel, rfl, by decide +kernel, by decide +kernel⟩
theorem bd_common_divisor {K : PySem.W.Frag} : ∀ f fd, Fun K "common_divisor" "common_divisor" s_common_divisor f fd → Binds K fd ["numbers"] [] := fun f fd F => F.binds fun _ _ _ _ _ _ us hl => match us, hl with | [_], _ => rfl
abbrev s_without_divisor : Stmt := topS 21
theorem sc_without_divisor : FnScope ["numbers", "divisor", "number"] ["numbers"] (defScope s_without_divisor) := ⟨rfl, rfl, rfl, by decide +kernel, rfl, by decide +kernel, by decide +kernel⟩
theorem bd_without_divisor {K : PySem.W.Frag} : ∀ f fd, Fun K "without_divisor" "without_divisor" s_without_divisor f fd → Binds K fd ["numbers"] [] := fun f fd F => F.binds fun _ _ _ _ _ _ us hl => match us, hl with | [_], _ => rfl
abbrev s_is_content : Stmt := topS 23
theorem sc_is_content : FnScope ["thing"] ["thing"] (defScope s_is_content) := ⟨rfl, rfl, rfl, by decide +kernel, rfl, by decide +kernel, by decide +kernel⟩
theorem bd_is_content {K : PySem.W.Frag} : ∀ f fd, Fun K "is_content" "is_content" s_is_content f fd → Binds K fd ["thing"] [] := fun f fd F => F.binds fun _ _ _ _ _ _ us hl => match us, hl with | [_], _ => rfl
abbrev s_is_list_of_amounts : Stmt := topS 24
theorem sc_is_list_of_amounts : FnScope ["thing"] ["thing"] (defScope s_is_list_of_amounts) := ⟨rfl, rfl, rfl, by decide +kernel, rfl, by decide +kernel, by decide +kernel⟩
theorem bd_is_list_of_amounts {K : PySem.W.Frag} : ∀ f fd, Fun K "is_list_of_amounts" "is_list_of_amounts" s_is_list_of_amounts f fd → Binds K fd ["thing"] [] := fun f fd F => F.binds fun _ _ _ _ _ _ us hl => match us, hl with | [_], _ => rfl
abbrev s_check_content : Stmt := topS 25
theorem sc_check_content : FnScope ["content"] ["content"] (defScope s_check_content) := ⟨rfl, rfl, rfl, by decide +kernel, rfl, by decide +kernel, by decide +kernel⟩
theorem bd_check_content {K : PySem.W.Frag} : ∀ f fd, Fun K "check_content" "check_content" s_check_content f fd → Binds K fd ["content"] [] := fun f fd F => F.binds fun _ _ _ _ _ _ us hl => match us, hl with | [_], _ => rfl
abbrev s_history_of : Stmt := topS 27
theorem sc_history_of : FnScope ["content", "kept", "histories"] ["content", "kept"] (defScope s_history_of) := ⟨rfl, rfl, rfl, by decide +kernel, rfl, by decide +kernel, by decide +kernel⟩
theorem bd_history_of {K : PySem.W.Frag} : ∀ f fd, Fun K "history_of" "history_of" s_history_of f fd → Binds K fd ["content", "kept"] [] := fun f fd F => F.binds fun _ _ _ _ _ _ us hl => match us, hl with | [_, _], _ => rfl
abbrev s_all_histories : Stmt := topS 28
theorem sc_all_histories : FnScope ["content", "kept", "number"] ["content", "kept", "number"] (defScope s_all_histories) := ⟨rfl, rfl, rfl, by decide +kernel, rfl, by decide +kernel, by decide +kernel⟩
theorem bd_all_histories {K : PySem.W.Frag} : ∀ f fd, Fun K "all_histories" "all_histories" s_all_histories f fd → Binds K fd ["content", "kept", "number"] [] := fun f fd F => F.binds fun _ _ _ _ _ _ us hl => match us, hl with | [_, _, _], _ => rfl
abbrev s_stuck_at : Stmt := topS 29
theorem sc_stuck_at : FnScope ["content", "kept", "undone", "left"] ["content", "kept"] (defScope s_stuck_at) := ⟨rfl, rfl, rfl, by decide +kernel, rfl, by decide +kernel, by decide +kernel⟩
theorem bd_stuck_at {K : PySem.W.Frag} : ∀ f fd, Fun K "stuck_at" "stuck_at" s_stuck_at f fd → Binds K fd ["content", "kept"] [] := fun f fd F => F.binds fun _ _ _ _ _ _ us hl => match us, hl with | [_, _], _ => rfl
abbrev s_short_histories : Stmt := topS 30
theorem sc_short_histories : FnScope ["content", "kept", "undone", "left", "start", "row"] ["content", "kept"] (defScope s_short_histories) := ⟨rfl, rfl, rfl, by decide +kernel, rfl, by decide +kernel, by decide +kernel⟩
theorem bd_short_histories {K : PySem.W.Frag} : ∀ f fd, Fun K "short_histories" "short_histories" s_short_histories f fd → Binds K fd ["content", "kept"] [] := fun f fd F => F.binds fun _ _ _ _ _ _ us hl => match us, hl with | [_, _], _ => rfl
abbrev s_histories_of_length : Stmt := topS 31
theorem sc_histories_of_length : FnScope ["content", "kept", "number", "histories", "start", "row"] ["content", "kept", "number"] (defScope s_histories_of_length) := ⟨rfl, rfl, rfl, by decide +kernel, rfl, by decide +kernel, by decide +kernel⟩
theorem bd_histories_of_length {K : PySem.W.Frag} : ∀ f fd, Fun K "histories_of_length" "histories_of_length" s_histories_of_length f fd → Binds K fd ["content", "kept", "number"] [] := fun f fd F => F.binds fun _ _ _ _ _ _ us hl => match us, hl with | [_, _, _], _ => rfl
abbrev s_undone_and_left : Stmt := topS 32
theorem sc_undone_and_left : FnScope ["content", "kept", "undone", "left", "liquid"] ["content", "kept"] (defScope s_undone_and_left) := ⟨rfl, rfl, rfl, by decide +kernel, rfl, by decide +kernel, by decide +kernel⟩
theorem bd_undone_and_left {K : PySem.W.Frag} : ∀ f fd, Fun K "undone_and_left" "undone_and_left" s_undone_and_left f fd → Binds K fd ["content", "kept"] [] := fun f fd F => F.binds fun _ _ _ _ _ _ us hl => match us, hl with | [_, _], _ => rfl
abbrev s_last_liquid : Stmt := topS 33
theorem sc_last_liquid : FnScope ["content", "kept", "stays", "marked", "fitting", "liquid", "amount"] ["content", "kept"] (defScope s_last_liquid) := ⟨rfl, rfl, rfl, by decide +kernel, rfl, by decide +kernel, by decide +kernel⟩
theorem bd_last_liquid {K : PySem.W.Frag} : ∀ f fd, Fun K "last_liquid" "last_liquid" s_last_liquid f fd → Binds K fd ["content", "kept"] [] := fun f fd F => F.binds fun _ _ _ _ _ _ us hl => match us, hl with | [_, _], _ => rfl
abbrev s_can_be_last : Stmt := topS 34
theorem sc_can_be_last : FnScope ["content", "kept", "liquid", "stays", "whole"] ["content", "kept", "liquid"] (defScope s_can_be_last) := ⟨rfl, rfl, rfl, by decide +kernel, rfl, by decide +kernel, by decide +kernel⟩
theorem bd_can_be_last {K : PySem.W.Frag} : ∀ f fd, Fun K "can_be_last" "can_be_last" s_can_be_last f fd → Binds K fd ["content", "kept", "liquid"] [] := fun f fd F => F.binds fun _ _ _ _ _ _ us hl => match us, hl with | [_, _, _], _ => rfl
abbrev s_content_before : Stmt := topS 35
theorem sc_content_before : FnScope ["content", "kept", "liquid", "stays", "whole", "amounts", "amount"] ["content", "kept", "liquid"] (defScope s_content_before) := ⟨rfl, rfl, rfl, by decide +kernel, rfl, by decide +kernel, by decide +kernel⟩
theorem bd_content_before {K : PySem.W.Frag} : ∀ f fd, Fun K "content_before" "content_before" s_content_before f fd → Binds K fd ["content", "kept", "liquid"] [] := fun f fd F => F.binds fun _ _ _ _ _ _ us hl => match us, hl with | [_, _, _], _ => rfl
abbrev s_is_pure : Stmt := topS 36
theorem sc_is_pure : FnScope ["content"] ["content"] (defScope s_is_pure) := ⟨rfl, rfl, rfl, by decide +kernel, rfl, by decide +kernel, by decide +kernel⟩
theorem bd_is_pure {K : PySem.W.Frag} : ∀ f fd, Fun K "is_pure" "is_pure" s_is_pure f fd → Binds K fd ["content"] [] := fun f fd F => F.binds fun _ _ _ _ _ _ us hl => match us, hl with | [_], _ => rfl
abbrev s_is_power : Stmt := topS 37
theorem sc_is_power : FnScope ["number", "base"] ["number", "base"] (defScope s_is_power) := ⟨rfl, rfl, rfl, by decide +kernel, rfl, by decide +kernel, by decide +kernel⟩
theorem bd_is_power {K : PySem.W.Frag} : ∀ f fd, Fun K "is_power" "is_power" s_is_power f fd → Binds K fd ["number", "base"] [] := fun f fd F => F.binds fun _ _ _ _ _ _ us hl => match us, hl with | [_, _], _ => rfl
abbrev s_topped_row : Stmt := topS 39
theorem sc_topped_row : FnScope ["content", "kept", "row"] ["content", "kept", "row"] (defScope s_topped_row) := ⟨rfl, rfl, rfl, by decide +kernel, rfl, by decide +kernel, by decide +kernel⟩
theorem bd_topped_row {K : PySem.W.Frag} : ∀ f fd, Fun K "topped_row" "topped_row" s_topped_row f fd → Binds K fd ["content", "kept", "row"] [] := fun f fd F => F.binds fun _ _ _ _ _ _ us hl => match us, hl with | [_, _, _], _ => rfl
abbrev s_contents_along : Stmt := topS 40
theorem sc_contents_along : FnScope ["content", "kept", "row"] ["content", "kept", "row"] (defScope s_contents_along) := ⟨rfl, rfl, rfl, by decide +kernel, rfl, by decide +kernel, by decide +kernel⟩
theorem bd_contents_along {K : PySem.W.Frag} : ∀ f fd, Fun K "contents_along" "contents_along" s_contents_along f fd → Binds K fd ["content", "kept", "row"] [] := fun f fd F => F.binds fun _ _ _ _ _ _ us hl => match us, hl with | [_, _, _], _ => rfl
abbrev s_content_behind : Stmt := topS 41
theorem sc_content_behind : FnScope ["content", "kept", "liquid", "stays", "whole", "mixture", "amount"] ["content", "kept", "liquid"] (defScope s_content_behind) := ⟨rfl, rfl, rfl, by decide +kernel, rfl, by decide +kernel, by decide +kernel⟩
theorem bd_content_behind {K : PySem.W.Frag} : ∀ f fd, Fun K "content_behind" "content_behind" s_content_behind f fd → Binds K fd ["content", "kept", "liquid"] [] := fun f fd F => F.binds fun _ _ _ _ _ _ us hl => match us, hl with | [_, _, _], _ => rfl
abbrev s_contents_by : Stmt := topS 42
theorem sc_contents_by : FnScope ["content", "keeps", "row", "contents", "kept", "liquid"] ["content", "keeps", "row"] (defScope s_contents_by) := ⟨rfl, rfl, rfl, by decide +kernel, rfl, by decide +kernel, by decide +kernel⟩
theorem bd_contents_by {K : PySem.W.Frag} : ∀ f fd, Fun K "contents_by" "contents_by" s_contents_by f fd → Binds K fd ["content", "keeps", "row"] [] := fun f fd F => F.binds fun _ _ _ _ _ _ us hl => match us, hl with | [_, _, _], _ => rfl
abbrev s__law_jar : Stmt := topS 44
theorem sc__law_jar : FnScope ["script", "k", "cell_here"] ["script", "k"] (defScope s__law_jar) := ⟨rfl, rfl, rfl, by decide +kernel, rfl, by decide +kernel, by decide +kernel⟩
theorem bd__law_jar {K : PySem.W.Frag} : ∀ f fd, Fun K "_law_jar" "_law_jar" s__law_jar f fd → Binds K fd ["script", "k"] [] := fun f fd F => F.binds fun _ _ _ _ _ _ us hl => match us, hl with | [_, _], _ => rfl
abbrev s__law_dip : Stmt := topS 45
theorem sc__law_dip : FnScope ["jar", "many", "digit", "mixed"] ["jar", "many"] (defScope s__law_dip) := ⟨rfl, rfl, rfl, by decide +kernel, rfl, by decide +kernel, by decide +kernel⟩
theorem bd__law_dip {K : PySem.W.Frag} : ∀ f fd, Fun K "_law_dip" "_law_dip" s__law_dip f fd → Binds K fd ["jar", "many"] [] := fun f fd F => F.binds fun _ _ _ _ _ _ us hl => match us, hl with | [_, _], _ => rfl
abbrev s__law_gcd : Stmt := topS 46
theorem sc__law_gcd : FnScope ["one", "two"] ["one", "two"] (defScope s__law_gcd) := ⟨rfl, rfl, rfl, by decide +kernel, rfl, by decide +kernel, by decide +kernel⟩
theorem bd__law_gcd {K : PySem.W.Frag} : ∀ f fd, Fun K "_law_gcd" "_law_gcd" s__law_gcd f fd → Binds K fd ["one", "two"] [] := fun f fd F => F.binds fun _ _ _ _ _ _ us hl => match us, hl with | [_, _], _ => rfl
abbrev s__law_plain : Stmt := topS 47
theorem sc__law_plain : FnScope ["numbers_here", "divisor", "number_here"] ["numbers_here"] (defScope s__law_plain) := ⟨rfl, rfl, rfl, by decide +kernel, rfl, by decide +kernel, by decide +kernel⟩
theorem bd__law_plain {K : PySem.W.Frag} : ∀ f fd, Fun K "_law_plain" "_law_plain" s__law_plain f fd → Binds K fd ["numbers_here"] [] := fun f fd F => F.binds fun _ _ _ _ _ _ us hl => match us, hl with | [_], _ => rfl
abbrev s__law_part : Stmt := topS 48
theorem sc__law_part : FnScope ["top", "bottom", "divisor"] ["top", "bottom"] (defScope s__law_part) := ⟨rfl, rfl, rfl, by decide +kernel, rfl, by decide +kernel, by decide +kernel⟩
theorem bd__law_part {K : PySem.W.Frag} : ∀ f fd, Fun K "_law_part" "_law_part" s__law_part f fd → Binds K fd ["top", "bottom"] [] := fun f fd F => F.binds fun _ _ _ _ _ _ us hl => match us, hl with | [_, _], _ => rfl
abbrev s__law_step : Stmt := topS 49
theorem sc__law_step : FnScope ["numbers_here", "stays", "whole", "spot", "poured", "found", "part"] ["numbers_here", "stays", "whole", "spot"] (defScope s__law_step) := ⟨rfl, rfl, rfl, by decide +kernel, rfl, by decide +kernel, by decide +kernel⟩
theorem bd__law_step {K : PySem.W.Frag} : ∀ f fd, Fun K "_law_step" "_law_step" s__law_step f fd → Binds K fd ["numbers_here", "stays", "whole", "spot"] [] := fun f fd F => F.binds fun _ _ _ _ _ _ us hl => match us, hl with | [_, _, _, _], _ => rfl
abbrev s__law_walk : Stmt := topS 50
theorem sc__law_walk : FnScope ["numbers_here", "share_here", "spots", "found", "spot"] ["numbers_here", "share_here", "spots"] (defScope s__law_walk) := ⟨rfl, rfl, rfl, by decide +kernel, rfl, by decide +kernel, by decide +kernel⟩
theorem bd__law_walk {K : PySem.W.Frag} : ∀ f fd, Fun K "_law_walk" "_law_walk" s__law_walk f fd → Binds K fd ["numbers_here", "share_here", "spots"] [] := fun f fd F => F.binds fun _ _ _ _ _ _ us hl => match us, hl with | [_, _, _], _ => rfl
abbrev s__law_share : Stmt := topS 51
theorem sc__law_share : FnScope ["jar", "way_here", "whole", "stays"] ["jar"] (defScope s__law_share) := ⟨rfl, rfl, rfl, by decide +kernel, rfl, by decide +kernel, by decide +kernel⟩
theorem bd__law_share {K : PySem.W.Frag} : ∀ f fd, Fun K "_law_share" "_law_share" s__law_share f fd → Binds K fd ["jar"] [] := fun f fd F => F.binds fun _ _ _ _ _ _ us hl => match us, hl with | [_], _ => rfl
abbrev s__law_pure : Stmt := topS 52
theorem sc__law_pure : FnScope ["many", "spot", "here"] ["many", "spot"] (defScope s__law_pure) := ⟨rfl, rfl, rfl, by decide +kernel, rfl, by decide +kernel, by decide +kernel⟩
theorem bd__law_pure {K : PySem.W.Frag} : ∀ f fd, Fun K "_law_pure" "_law_pure" s__law_pure f fd → Binds K fd ["many", "spot"] [] := fun f fd F => F.binds fun _ _ _ _ _ _ us hl => match us, hl with | [_, _], _ => rfl
abbrev s__law_spots : Stmt := topS 53
theorem sc__law_spots : FnScope ["jar", "many", "size", "turn"] ["jar", "many", "size"] (defScope s__law_spots) := ⟨rfl, rfl, rfl, by decide +kernel, rfl, by decide +kernel, by decide +kernel⟩
theorem bd__law_spots {K : PySem.W.Frag} : ∀ f fd, Fun K "_law_spots" "_law_spots" s__law_spots f fd → Binds K fd ["jar", "many", "size"] [] := fun f fd F => F.binds fun _ _ _ _ _ _ us hl => match us, hl with | [_, _, _], _ => rfl
abbrev s__law_filled : Stmt := topS 54
theorem sc__law_filled : FnScope ["jar", "many", "most", "found", "pot", "turn"] ["jar", "many", "most"] (defScope s__law_filled) := ⟨rfl, rfl, rfl, by decide +kernel, rfl, by decide +kernel, by decide +kernel⟩
theorem bd__law_filled {K : PySem.W.Frag} : ∀ f fd, Fun K "_law_filled" "_law_filled" s__law_filled f fd → Binds K fd ["jar", "many", "most"] [] := fun f fd F => F.binds fun _ _ _ _ _ _ us hl => match us, hl with | [_, _, _], _ => rfl
abbrev s__law_known : Stmt := topS 55
theorem sc__law_known : FnScope ["jar", "many", "share_here", "size", "start_here", "spots"] ["jar", "many", "share_here", "size"] (defScope s__law_known) := ⟨rfl, rfl, rfl, by decide +kernel, rfl, by decide +kernel, by decide +kernel⟩
theorem bd__law_known {K : PySem.W.Frag} : ∀ f fd, Fun K "_law_known" "_law_known" s__law_known f fd → Binds K fd ["jar", "many", "share_here", "size"] [] := fun f fd F => F.binds fun _ _ _ _ _ _ us hl => match us, hl with | [_, _, _, _], _ => rfl
abbrev s__law_power : Stmt := topS 56
theorem sc__law_power : FnScope ["number_here", "times", "found", "turn"] ["number_here", "times"] (defScope s__law_power) := ⟨rfl, rfl, rfl, by decide +kernel, rfl, by decide +kernel, by decide +kernel⟩
theorem bd__law_power {K : PySem.W.Frag} : ∀ f fd, Fun K "_law_power" "_law_power" s__law_power f fd → Binds K fd ["number_here", "times"] [] := fun f fd F => F.binds fun _ _ _ _ _ _ us hl => match us, hl with | [_, _], _ => rfl
abbrev s__law_height : Stmt := topS 57
theorem sc__law_height : FnScope ["bottom_here", "whole", "times"] ["bottom_here", "whole"] (defScope s__law_height) := ⟨rfl, rfl, rfl, by decide +kernel, rfl, by decide +kernel, by decide +kernel⟩
theorem bd__law_height {K : PySem.W.Frag} : ∀ f fd, Fun K "_law_height" "_law_height" s__law_height f fd → Binds K fd ["bottom_here", "whole"] [] := fun f fd F => F.binds fun _ _ _ _ _ _ us hl => match us, hl with | [_, _], _ => rfl
abbrev s__law_lasts : Stmt := topS 58
theorem sc__law_lasts : FnScope ["pot", "share_here", "stays", "whole", "least", "great", "odd", "spot", "part"] ["pot", "share_here"] (defScope s__law_lasts) := ⟨rfl, rfl, rfl, by decide +kernel, rfl, by decide +kernel, by decide +kernel⟩
theorem bd__law_lasts {K : PySem.W.Frag} : ∀ f fd, Fun K "_law_lasts" "_law_lasts" s__law_lasts f fd → Binds K fd ["pot", "share_here"] [] := fun f fd F => F.binds fun _ _ _ _ _ _ us hl => match us, hl with | [_, _], _ => rfl
abbrev s__law_back : Stmt := topS 59
theorem sc__law_back : FnScope ["pot", "share_here", "undone", "found", "poured", "later", "part"] ["pot", "share_here"] (defScope s__law_back) := ⟨rfl, rfl, rfl, by decide +kernel, rfl, by decide +kernel, by decide +kernel⟩
theorem bd__law_back {K : PySem.W.Frag} : ∀ f fd, Fun K "_law_back" "_law_back" s__law_back f fd → Binds K fd ["pot", "share_here"] [] := fun f fd F => F.binds fun _ _ _ _ _ _ us hl => match us, hl with | [_, _], _ => rfl
abbrev s__law_right : Stmt := topS 60
theorem sc__law_right : FnScope ["pot", "share_here", "before", "due", "found", "told"] ["pot", "share_here"] (defScope s__law_right) := ⟨rfl, rfl, rfl, by decide +kernel, rfl, by decide +kernel, by decide +kernel⟩
theorem bd__law_right {K : PySem.W.Frag} : ∀ f fd, Fun K "_law_right" "_law_right" s__law_right f fd → Binds K fd ["pot", "share_here"] [] := fun f fd F => F.binds fun _ _ _ _ _ _ us hl => match us, hl with | [_, _], _ => rfl
abbrev s__law_made : Stmt := topS 61
theorem sc__law_made : FnScope ["jar", "many", "share_here", "way_here", "pot", "found", "spot", "other_spot"] ["jar", "many", "share_here"] (defScope s__law_made) := ⟨rfl, rfl, rfl, by decide +kernel, rfl, by decide +kernel, by decide +kernel⟩
theorem bd__law_made {K : PySem.W.Frag} : ∀ f fd, Fun K "_law_made" "_law_made" s__law_made f fd → Binds K fd ["jar", "many", "share_here"] [] := fun f fd F => F.binds fun _ _ _ _ _ _ us hl => match us, hl with | [_, _, _], _ => rfl
abbrev s_law : Stmt := topS 62
theorem sc_law : FnScope ["script", "k", "jar", "turn", "share_here", "whole", "one", "two", "pot", "told"] ["script"] (defScope s_law) := ⟨rfl, rfl, rfl, by decide +kernel, rfl, by decide +kernel, by decide +kernel⟩
theorem bd_law {K : PySem.W.Frag} : ∀ f fd, Fun K "law" "law" s_law f fd → Binds K fd ["script"] [] := fun f fd F => F.binds fun _ _ _ _ _ _ us hl => match us, hl with | [_], _ => rfl
end K09
end

section
set_option linter.all false
set_option maxHeartbeats 1000000
/-! The mathematics of contents: common divisors, contents without one, top-ups. -/
namespace Ma
def gcdF (d : Nat) (ns : List Int) : Nat := ns.foldl (fun d n => Nat.gcd d n.natAbs) d
def gcdN (ns : List Int) : Nat := gcdF 0 ns
theorem dvd_gcdF {e : Nat} : ∀ (ns : List Int) (d : Nat), e ∣ gcdF d ns ↔ e ∣ d ∧ ∀ n ∈ ns, e ∣ n.natAbs
  | [], d => by simp [gcdF]
  | n :: r, d => by
    have h := dvd_gcdF (e := e) r (Nat.gcd d n.natAbs)
    show e ∣ gcdF (Nat.gcd d n.natAbs) r ↔ _
    rw [h, Nat.dvd_gcd_iff]
    constructor
    · rintro ⟨⟨a, b⟩, c⟩
      refine ⟨a, fun m hm => ?_⟩
      rcases List.mem_cons.mp hm with z | z
      · rw [z]; exact b
      · exact c m z
    · rintro ⟨a, b⟩
      exact ⟨⟨a, b n List.mem_cons_self⟩, fun m hm => b m (List.mem_cons_of_mem _ hm)⟩
theorem dvd_gcdN {e : Nat} {ns : List Int} : e ∣ gcdN ns ↔ ∀ n ∈ ns, e ∣ n.natAbs := by
  unfold gcdN
  rw [dvd_gcdF]
  exact ⟨fun h => h.2, fun h => ⟨Nat.dvd_zero e, h⟩⟩
theorem gcdF_take {ns : List Int} {i : Nat} {n : Int} (d : Nat) (h : ns[i]? = some n) : gcdF d (ns.take (i + 1)) = Nat.gcd (gcdF d (ns.take i)) n.natAbs := by
  rw [List.take_add_one, h]
  unfold gcdF
  rw [List.foldl_append]
  rfl
theorem gcdN_take {ns : List Int} {i : Nat} {n : Int} (h : ns[i]? = some n) : gcdN (ns.take (i + 1)) = Nat.gcd (gcdN (ns.take i)) n.natAbs := gcdF_take 0 h
theorem gcdN_dvd {ns : List Int} {n : Int} (h : n ∈ ns) : ((gcdN ns : Nat) : Int) ∣ n := by
  have := (dvd_gcdN (e := gcdN ns) (ns := ns)).mp (Nat.dvd_refl _) n h
  exact Int.ofNat_dvd_left.mpr this
/-- numbers from 0 on, not all 0 -/
structure Amt (ns : List Int) : Prop where
  nn : ∀ n ∈ ns, 0 ≤ n
  pos : 0 < ns.sum
structure Con (ns : List Int) : Prop where
  len : 0 < ns.length
  le8 : ns.length ≤ 8
  nn : ∀ n ∈ ns, 0 ≤ n
  g : gcdN ns = 1
theorem sum_nn : ∀ {ns : List Int}, (∀ n ∈ ns, 0 ≤ n) → 0 ≤ ns.sum
  | [], _ => by simp
  | n :: r, h => by
    rw [List.sum_cons]
    have h1 := h n List.mem_cons_self
    have h2 := sum_nn (ns := r) fun m hm => h m (List.mem_cons_of_mem _ hm)
    omega
theorem le_sum : ∀ {ns : List Int} {n : Int}, (∀ n ∈ ns, 0 ≤ n) → n ∈ ns → n ≤ ns.sum
  | [], _, _, h => by cases h
  | m :: r, n, h, hm => by
    rw [List.sum_cons]
    have h1 := h m List.mem_cons_self
    have hr : ∀ n ∈ r, 0 ≤ n := fun m hm => h m (List.mem_cons_of_mem _ hm)
    have h2 := sum_nn hr
    rcases List.mem_cons.mp hm with z | z
    · rw [z]; omega
    · have := le_sum hr z
      omega
theorem sum_zero {ns : List Int} (h : ∀ n ∈ ns, 0 ≤ n) (hs : ns.sum = 0) : ∀ n ∈ ns, n = 0 := fun n hn => by
  have := le_sum h hn
  have := h n hn
  omega
theorem gcdN_pos {ns : List Int} (h : Amt ns) : 0 < gcdN ns := by
  rcases Nat.eq_zero_or_pos (gcdN ns) with z | z
  · exfalso
    have h0 : ∀ n ∈ ns, n = 0 := fun n hn => by
      have := gcdN_dvd hn
      rw [z] at this
      exact Int.zero_dvd.mp this
    have : ns.sum = 0 := by
      clear h z
      induction ns with
      | nil => rfl
      | cons m r ih =>
        rw [List.sum_cons, h0 m List.mem_cons_self, ih fun n hn => h0 n (List.mem_cons_of_mem _ hn)]
        rfl
    have := h.pos
    omega
  · exact z
theorem Con.amt {ns : List Int} (h : Con ns) : Amt ns := by
  refine ⟨h.nn, ?_⟩
  have h1 := sum_nn h.nn
  by_cases z : ns.sum = 0
  · exfalso
    have h0 := sum_zero h.nn z
    have : 2 ∣ gcdN ns := dvd_gcdN.mpr fun n hn => by rw [h0 n hn]; exact ⟨0, rfl⟩
    rw [h.g] at this
    omega
  · omega
def plain (ns : List Int) : List Int := ns.map fun n => n / ((gcdN ns : Nat) : Int)
theorem plain_len (ns : List Int) : (plain ns).length = ns.length := List.length_map _
theorem plain_mul {ns : List Int} {n : Int} (h : n ∈ ns) : n / ((gcdN ns : Nat) : Int) * ((gcdN ns : Nat) : Int) = n := Int.ediv_mul_cancel (gcdN_dvd h)
theorem sum_div {g : Int} (hg : 0 < g) : ∀ {ns : List Int}, (∀ n ∈ ns, g ∣ n) → (ns.map fun n => n / g).sum * g = ns.sum
  | [], _ => by simp
  | n :: r, h => by
    rw [List.map_cons, List.sum_cons, List.sum_cons, Int.add_mul, sum_div hg (ns := r) fun m hm => h m (List.mem_cons_of_mem _ hm), Int.ediv_mul_cancel (h n List.mem_cons_self)]
theorem plain_sum {ns : List Int} (h : Amt ns) : (plain ns).sum * ((gcdN ns : Nat) : Int) = ns.sum := sum_div (by have := gcdN_pos h; omega) fun n hn => gcdN_dvd hn
theorem plain_con {ns : List Int} (h : Amt ns) (h1 : 0 < ns.length) (h8 : ns.length ≤ 8) : Con (plain ns) := by
  have hg := gcdN_pos h
  refine ⟨by rw [plain_len]; exact h1, by rw [plain_len]; exact h8, fun n hn => ?_, ?_⟩
  · obtain ⟨m, hm, e⟩ := List.mem_map.mp hn
    rw [← e]
    exact Int.ediv_nonneg (h.nn m hm) (Int.natCast_nonneg _)
  · have key : gcdN (plain ns) * gcdN ns ∣ gcdN ns := dvd_gcdN.mpr fun n hn => by
      have h2 : gcdN (plain ns) ∣ (n / ((gcdN ns : Nat) : Int)).natAbs := dvd_gcdN.mp (Nat.dvd_refl _) _ (List.mem_map.mpr ⟨n, hn, rfl⟩)
      have h3 := Nat.mul_dvd_mul_right h2 (gcdN ns)
      have h4 : (n / ((gcdN ns : Nat) : Int)).natAbs * gcdN ns = n.natAbs := by
        have := congrArg Int.natAbs (plain_mul hn)
        rw [Int.natAbs_mul, Int.natAbs_natCast] at this
        exact this
      rw [h4] at h3
      exact h3
    have h5 := Nat.le_of_dvd hg key
    have h6 : gcdN (plain ns) * gcdN ns ≤ 1 * gcdN ns := by omega
    have h7 := Nat.le_of_mul_le_mul_right h6 hg
    have h8 : gcdN (plain ns) ≠ 0 := fun z => by
      rw [z, Nat.zero_mul] at key
      have := Nat.eq_zero_of_zero_dvd key
      omega
    omega
theorem plain_sum_le {ns : List Int} (h : Amt ns) : (plain ns).sum ≤ ns.sum := by
  have e := plain_sum h
  have hg := gcdN_pos h
  have h1 : 0 ≤ (plain ns).sum := sum_nn fun n hn => by
    obtain ⟨m, hm, e⟩ := List.mem_map.mp hn
    rw [← e]
    exact Int.ediv_nonneg (h.nn m hm) (Int.natCast_nonneg _)
  have h2 : (plain ns).sum * 1 ≤ (plain ns).sum * ((gcdN ns : Nat) : Int) := Int.mul_le_mul_of_nonneg_left (by omega) h1
  omega
theorem plain_of_one {ns : List Int} (h : gcdN ns = 1) : plain ns = ns := by
  unfold plain
  rw [h]
  conv => rhs; rw [← List.map_id ns]
  exact List.map_congr_left fun n _ => by simp
/-! ### top-ups -/
structure Kep (a b : Int) : Prop where
  a1 : 1 ≤ a
  ab : a < b
  b100 : b ≤ 100
  g : Nat.gcd a.natAbs b.natAbs = 1
def pre (ns : List Int) (a b : Int) (c : Nat) : List Int := (ns.map fun n => n * a).set c ((ns.getD c 0) * a + (b - a) * ns.sum)
def step (ns : List Int) (a b : Int) (c : Nat) : List Int := plain (pre ns a b c)
theorem sum_map_mul (a : Int) : ∀ ns : List Int, (ns.map fun n => n * a).sum = ns.sum * a
  | [] => by simp
  | n :: r => by rw [List.map_cons, List.sum_cons, List.sum_cons, sum_map_mul a r, Int.add_mul]
theorem sum_set (v : Int) : ∀ (ns : List Int) (c : Nat), c < ns.length → (ns.set c v).sum = ns.sum - ns.getD c 0 + v
  | [], c, h => by simp at h
  | n :: r, 0, _ => by
    rw [List.set_cons_zero, List.sum_cons, List.sum_cons]
    show v + r.sum = n + r.sum - n + v
    omega
  | n :: r, c + 1, h => by
    rw [List.set_cons_succ, List.sum_cons, List.sum_cons, sum_set v r c (by simpa using h)]
    show n + (r.sum - r.getD c 0 + v) = n + r.sum - r.getD c 0 + v
    omega
theorem pre_len (ns : List Int) (a b : Int) (c : Nat) : (pre ns a b c).length = ns.length := by unfold pre; simp
theorem pre_sum {ns : List Int} {a b : Int} {c : Nat} (h : c < ns.length) : (pre ns a b c).sum = b * ns.sum := by
  unfold pre
  rw [sum_set _ _ _ (by simpa using h), sum_map_mul]
  have e : (ns.map fun n => n * a).getD c 0 = ns.getD c 0 * a := by
    rw [List.getD_eq_getElem?_getD, List.getD_eq_getElem?_getD, List.getElem?_map, List.getElem?_eq_getElem h]
    rfl
  rw [e, Int.sub_mul, Int.mul_comm ns.sum a]
  omega
theorem pre_nn {ns : List Int} {a b : Int} {c : Nat} (hn : ∀ n ∈ ns, 0 ≤ n) (ha : 0 ≤ a) (hb : a ≤ b) : ∀ n ∈ pre ns a b c, 0 ≤ n := fun n hm => by
  unfold pre at hm
  rcases List.mem_or_eq_of_mem_set hm with z | z
  · obtain ⟨m, h1, e⟩ := List.mem_map.mp z
    rw [← e]
    exact Int.mul_nonneg (hn m h1) ha
  · rw [z]
    have h1 : 0 ≤ ns.getD c 0 := by
      rw [List.getD_eq_getElem?_getD]
      cases q : ns[c]? with
      | none => exact Int.le_refl _
      | some m => exact hn m (List.mem_of_getElem? q)
    have h2 := Int.mul_nonneg h1 ha
    have h3 := Int.mul_nonneg (show 0 ≤ b - a by omega) (sum_nn hn)
    omega
theorem pre_amt {ns : List Int} {a b : Int} {c : Nat} (h : Con ns) (k : Kep a b) (hc : c < ns.length) : Amt (pre ns a b c) := by
  refine ⟨pre_nn h.nn (by have := k.a1; omega) (by have := k.ab; omega), ?_⟩
  rw [pre_sum hc]
  exact Int.mul_pos (by have := k.a1; have := k.ab; omega) h.amt.pos
theorem step_con {ns : List Int} {a b : Int} {c : Nat} (h : Con ns) (k : Kep a b) (hc : c < ns.length) : Con (step ns a b c) :=
  plain_con (pre_amt h k hc) (by rw [pre_len]; exact h.len) (by rw [pre_len]; exact h.le8)
theorem step_len (ns : List Int) (a b : Int) (c : Nat) : (step ns a b c).length = ns.length := by unfold step; rw [plain_len, pre_len]
theorem step_sum {ns : List Int} {a b : Int} {c : Nat} (h : Con ns) (k : Kep a b) (hc : c < ns.length) : (step ns a b c).sum ≤ 100 * ns.sum := by
  have h1 := plain_sum_le (pre_amt h k hc)
  rw [pre_sum hc] at h1
  have h2 : b * ns.sum ≤ 100 * ns.sum := Int.mul_le_mul_of_nonneg_right k.b100 (Int.le_of_lt h.amt.pos)
  have e : step ns a b c = plain (pre ns a b c) := rfl
  rw [e]
  omega
/-- the contents behind 0, 1 .. all top-ups -/
def walk (ns : List Int) (a b : Int) : List Nat → List (List Int)
  | [] => [ns]
  | c :: r => ns :: walk (step ns a b c) a b r
end Ma
end

section
set_option Elab.async false
set_option linter.all false
set_option maxRecDepth 100000
set_option maxHeartbeats 4000000
namespace K09
open PySem PySem.Spec PyProof.Rows L2 GxR Gx Ma
abbrev LI (H : Hp) (a : Addr) (ns : List Int) : Prop := H a = some (.lst (ns.map V.int))
structure Bl (mg : Str → Option Value) : Prop where
  abs : mg "abs" = none
  all : mg "all" = none
  bool : mg "bool" = none
  enumerate : mg "enumerate" = none
  int : mg "int" = none
  isinstance : mg "isinstance" = none
  len : mg "len" = none
  list : mg "list" = none
  max : mg "max" = none
  min : mg "min" = none
  range : mg "range" = none
  repr : mg "repr" = none
  sum : mg "sum" = none
  tuple : mg "tuple" = none
  type : mg "type" = none
  zip : mg "zip" = none
  MOST_LIQUIDS : ∃ t, mg "MOST_LIQUIDS" = some (.int 8 t)
  MOST_PARTS : ∃ t, mg "MOST_PARTS" = some (.int 100 t)
  MOST_TOP_UPS : ∃ t, mg "MOST_TOP_UPS" = some (.int 60 t)
  gcd : mg "gcd" = some (.builtin "math.gcd")
theorem same_new {H : Hp} {p : Addr} {o : HO} (h : H p = none) : Same H (upd H p o) := fun b x e => by
  rw [upd_ne (ne_of_none e h)]
  exact e
section
variable {P : Program} {w : World} {K : PySem.W.Frag} {mg : Str → Option Value} {base : Heap}

def sp_is_integer : Sp := fun vs H Q _ => ∃ i, vs = [V.int i] ∧ Q (.bl true) H

theorem ok_is_integer {f : Addr} {fd : FuncData}  (F : Fun K "is_integer" "is_integer" s_is_integer f fd) (B : Bl mg)  : FnOk P w K mg base CX0 1 f fd ["thing"] (sp_is_integer) := by
  refine F.ok sc_is_integer (fun vs H Q E h => ?_) (fun cdv A outer s H vs Q E hr h => ?_)
  · obtain ⟨i, rfl, _⟩ := h; rfl
  · obtain ⟨i, rfl, q⟩ := h
    have nd := sc_is_integer.nd
    refine ⟨_, (pss_one (ps_ret (pe_and (pe_callB call_isi (by rfl) B.isinstance (by decide +kernel) (pa_cons (pv 0) (pa_cons (pe_bltn (v := .ty "int") (by rfl) B.int (by decide +kernel) rfl) pa_nil))) (pe_one (pe_not (pe_callB call_isi (by rfl) B.isinstance (by decide +kernel) (pa_cons (pv 0) (pa_cons (pe_bltn (v := .ty "bool") (by rfl) B.bool (by decide +kernel) rfl) pa_nil)))))))), ?_⟩
    refine ⟨.int i, rfl, .int i, .ty "int", .type "int", .type "int", true, rfl, .ty _, .base (.int i), kit_ty (by decide +kernel), true, rfl, iteT ?_⟩
    exact ⟨.int i, rfl, .int i, .ty "bool", .type "int", .type "bool", false, rfl, .ty _, .base (.int i), kit_ty (by decide +kernel), false, rfl, q⟩

def sp_is_within : Sp := fun vs H Q _ => ∃ i lo hi, vs = [V.int i, V.int lo, V.int hi] ∧ lo ≤ i ∧ i ≤ hi ∧ Q (.bl true) H

theorem ok_is_within {f : Addr} {fd : FuncData}  (F : Fun K "is_within" "is_within" s_is_within f fd) (B : Bl mg) (C_is_integer : Cal P w K mg base 1 "is_integer" ["thing"] sp_is_integer) : FnOk P w K mg base CX0 2 f fd ["thing", "least", "most"] (sp_is_within) := by
  refine F.ok sc_is_within (fun vs H Q E h => ?_) (fun cdv A outer s H vs Q E hr h => ?_)
  · obtain ⟨i, lo, hi, rfl, _⟩ := h; rfl
  · obtain ⟨i, lo, hi, rfl, h1, h2, q⟩ := h
    have nd := sc_is_within.nd
    refine ⟨_, (pss_one (ps_ret (pe_and (pe_cal C_is_integer (hr.mono (by decide)) (pa_cons (pv 0) pa_nil)) (pe_one (pe_chain op_le op_le (pv 1) (pv 0) (pv 2)))))), ?_⟩
    refine ⟨.int i, rfl, i, rfl, true, rfl, iteT ?_⟩
    refine ⟨.int lo, rfl, .int i, rfl, lo, i, rfl, rfl, _, rfl, ?_⟩
    rw [decide_eq_true h1]
    refine iteT ⟨.int hi, rfl, i, hi, rfl, rfl, ?_⟩
    show Q (.bl (decide (i ≤ hi))) H
    rw [decide_eq_true h2]
    exact q

end
end K09
end

section
set_option Elab.async false
set_option linter.all false
set_option maxRecDepth 100000
set_option maxHeartbeats 4000000
namespace K09
open PySem PySem.Spec PyProof.Rows L2 GxR Gx Ma
section
variable {P : Program} {w : World} {K : PySem.W.Frag} {mg : Str → Option Value} {base : Heap}

def sp_is_pair : Sp := fun vs H Q _ => ∃ t a b, vs = [V.ref t] ∧ H t = some (.tup [.int a, .int b]) ∧ Nat.gcd a.natAbs b.natAbs = 1 ∧ Q (.bl true) H
def sp_is_kept : Sp := fun vs H Q _ => ∃ t a b, vs = [V.ref t] ∧ H t = some (.tup [.int a, .int b]) ∧ Kep a b ∧ Q (.bl true) H

theorem ok_is_pair_in_lowest_terms {f : Addr} {fd : FuncData}  (F : Fun K "is_pair_in_lowest_terms" "is_pair_in_lowest_terms" s_is_pair_in_lowest_terms f fd) (B : Bl mg) (C_is_integer : Cal P w K mg base 1 "is_integer" ["thing"] sp_is_integer) : FnOk P w K mg base CX0 2 f fd ["thing"] (sp_is_pair) := by
  refine F.ok sc_is_pair_in_lowest_terms (fun vs H Q E h => ?_) (fun cdv A outer s H vs Q E hr h => ?_)
  · obtain ⟨t, a, b, rfl, _⟩ := h; rfl
  · obtain ⟨t, a, b, rfl, ht, hg, q⟩ := h
    have nd := sc_is_pair_in_lowest_terms.nd
    refine ⟨_, (pss_cons (ps_if (PW.pt (pw_or (pt_cmpR op_neTy (pe_typeOf (by rfl) B.type (pv 0)) (pe_bltn (v := .ty "tuple") (by rfl) B.tuple (by decide +kernel) rfl) (nomark _)) (pw_or1 (pt_cmpR op_ne (pe_callB call_len_seq (by rfl) B.len PySem.boot_len (pa_cons (pv 0) pa_nil)) pe_int (nomark _)))))
      (pss_one (ps_ret pe_bl)) pss_nil)
      (pss_cons (ps_asg (pv 0) (pg_tup (by rfl) (pgs_cons (pg_name (i := 1) nd rfl (Or.inl rfl)) (pgs_cons (pg_name (i := 2) nd rfl (Or.inl rfl)) pgs_nil))))
      (pss_one (ps_ret (pe_and (pe_cal C_is_integer (hr.mono (by decide)) (pa_cons (pv 1) pa_nil)) (pe_and (pe_cal C_is_integer (hr.mono (by decide)) (pa_cons (pv 2) pa_nil)) (pe_one (pe_cmpR op_eq (pe_callBfun cr_gcd (by rfl) B.gcd (pa_cons (pv 1) (pa_cons (pv 2) pa_nil))) pe_int (nomark _))))))))), ?_⟩
    refine ⟨.ref t, rfl, "tuple", by simp only [zTyV, ht], "tuple", rfl, rfl, TypeEq.meta_tuple, false, rfl, iteF ?_⟩
    refine ⟨.ref t, rfl, t, _, rfl, .inr (SqT.of ht), rfl, _, rfl, iteNS rfl ?_⟩
    refine ⟨.ref t, rfl, t, [_, _], rfl, SqT.of ht, rfl, _, _, rfl, _, _, rfl, rfl, ?_⟩
    refine ⟨.int a, rfl, a, rfl, true, rfl, iteT ?_⟩
    refine ⟨.int b, rfl, b, rfl, true, rfl, iteT ?_⟩
    refine ⟨.int a, rfl, .int b, rfl, a, b, rfl, rfl, ?_⟩
    show Q (.bl (decide (V.int ((Nat.gcd a.natAbs b.natAbs : Nat) : Int) = V.int 1))) H
    rw [hg]
    exact q

theorem ok_is_kept {f : Addr} {fd : FuncData}  (F : Fun K "is_kept" "is_kept" s_is_kept f fd) (B : Bl mg) (C_is_pair_in_lowest_terms : Cal P w K mg base 2 "is_pair_in_lowest_terms" ["thing"] sp_is_pair) : FnOk P w K mg base CX0 3 f fd ["thing"] (sp_is_kept) := by
  refine F.ok sc_is_kept (fun vs H Q E h => ?_) (fun cdv A outer s H vs Q E hr h => ?_)
  · obtain ⟨t, a, b, rfl, _⟩ := h; rfl
  · obtain ⟨t, a, b, rfl, ht, k, q⟩ := h
    have nd := sc_is_kept.nd
    refine ⟨_, (pss_one (ps_ret (pe_and (pe_cal C_is_pair_in_lowest_terms (hr.mono (by decide)) (pa_cons (pv 0) pa_nil)) (pe_one (pe_chain3 op_le op_lt op_le pe_int (pe_ix ix_tup (pv 0) pe_int (fun _ _ => rfl)) (pe_ix ix_tup (pv 0) pe_int (fun _ _ => rfl)) (pe_gi B.MOST_PARTS)))))), ?_⟩
    refine ⟨.ref t, rfl, t, a, b, rfl, ht, k.g, true, rfl, iteT ?_⟩
    refine ⟨.ref t, rfl, t, _, 0, .int a, rfl, rfl, SqT.of ht, rfl, 1, a, rfl, rfl, _, rfl, ?_⟩
    rw [decide_eq_true k.a1]
    refine iteT ⟨.ref t, rfl, t, _, 1, .int b, rfl, rfl, SqT.of ht, rfl, a, b, rfl, rfl, _, rfl, ?_⟩
    rw [decide_eq_true k.ab]
    refine iteT ⟨b, 100, rfl, rfl, ?_⟩
    show Q (.bl (decide (b ≤ 100))) H
    rw [decide_eq_true k.b100]
    exact q

def sp_is_row (T : Addr) : Sp := fun vs H Q _ => ∃ l cs k, vs = [V.ref l, V.int k] ∧ LI H l cs ∧ cs.length ≤ 60 ∧ (∀ c ∈ cs, 0 ≤ c ∧ c ≤ k - 1) ∧ H T = some (TabO T) ∧ Q (.bl true) H
theorem map_get {ns : List Int} {i : Nat} {y : V} (h : (ns.map V.int)[i]? = some y) : ∃ n, ns[i]? = some n ∧ y = .int n := by
  rw [List.getElem?_map] at h
  cases e : ns[i]? with
  | none => rw [e] at h; cases h
  | some n => rw [e] at h; exact ⟨n, rfl, (Option.some.inj h).symm⟩
theorem get_map {ns : List Int} {i : Nat} {n : Int} (h : ns[i]? = some n) : (ns.map V.int)[i]? = some (.int n) := by
  rw [List.getElem?_map, h]; rfl
/-- all(..) over a list that stands still -/
theorem all_list {te : TE} {caps : L2.St} {Q : VK} {a : Addr} {xs : List V} {H : Hp} (hL : H a = some (.lst xs)) (h : ∀ (i : Nat) (y : V), xs[i]? = some y → ∀ R : VK, R (.bl true) H → te (some y :: caps) H R) (q : Q (.bl true) H) : rAllG te caps Q (Itl K a) H := by
  refine ⟨xs.length, fun _ H' => H' = H, rfl, fun H' e => ?_, fun i H' hi e => ?_⟩
  · subst e
    exact ⟨⟨xs, SqL.of hL, Nat.le_refl _⟩, q⟩
  · subst e
    refine ⟨⟨xs, xs[i], SqL.of hL, List.getElem?_eq_getElem hi⟩, fun y H2 hy => ?_⟩
    obtain ⟨e2, hy⟩ := hy
    subst e2
    exact h i y (hy xs (SqL.of hL)) _ ⟨true, rfl, iteT rfl⟩

def sp_is_list_of_liquids (T : Addr) : Sp := fun vs H Q _ => ∃ l cs k, vs = [V.ref l, V.int k] ∧ LI H l cs ∧ (∀ c ∈ cs, 0 ≤ c ∧ c ≤ k - 1) ∧ H T = some (TabO T) ∧ Q (.bl true) H
theorem ok_is_list_of_liquids {f : Addr} {fd : FuncData} {c : Addr} (F : FunC K "is_list_of_liquids" "is_list_of_liquids" s_is_list_of_liquids f fd c) (B : Bl mg) (C_is_within : Cal P w K mg base 2 "is_within" ["thing", "least", "most"] sp_is_within) {T : Addr} (TB_is_list_of_liquids : TabB base mg c T) : FnOk P w K mg base CX0 6 f fd ["thing", "liquids"] (sp_is_list_of_liquids T) := by
  refine F.ok sc_is_list_of_liquids (fun vs H Q E h => ?_) (fun A outer s H vs Q E hr h => ?_)
  · obtain ⟨l, cs, k, rfl, _⟩ := h; rfl
  · obtain ⟨l, cs, k, rfl, hl, hc, hT, q⟩ := h
    have hcode : (cxOf CX0 P w K mg base ["thing", "liquids"] "is_list_of_liquids" (defScope s_is_list_of_liquids) f (.ref c) A outer s H E).nox.env.code = .ref c := rfl
    have nd := sc_is_list_of_liquids.nd
    refine ⟨_, (pss_cons (ps_if (pt_cmpR op_neTy (pe_typeOf (by rfl) B.type (pv 0)) (pe_bltn (v := .ty "list") (by rfl) B.list (by decide +kernel) rfl) (nomark _))
      (pss_one (ps_ret pe_bl)) pss_nil)
      (pss_one (ps_ret (pe_allG (ns := [("liquids", 1)]) (k' := 2) (hr.mono (by decide)) (by rfl) B.all TB_is_list_of_liquids hcode (gok_by (N := ["thing", "liquids"]) (sc := defScope s_is_list_of_liquids) (by decide +kernel)) (by decide) (pi_list (pv 0)) (fun s H C code fp A hq => (pe_cal C_is_within (hq.mono (by decide)) (pa_cons (pv 0) (pa_cons pe_int (pa_cons (pe_op op_sub (pv 1) pe_int) pa_nil))))))))), ?_⟩
    refine ⟨.ref l, rfl, "list", by simp only [zTyV, hl], "list", rfl, rfl, TypeEq.meta_list, false, rfl, iteF ?_⟩
    refine ⟨.ref l, rfl, l, rfl, ⟨_, SqL.of hl⟩, hT, all_list hl (fun i y hy R r => ?_) q⟩
    obtain ⟨n, hn, rfl⟩ := map_get hy
    obtain ⟨h1, h2⟩ := hc n (List.mem_of_getElem? hn)
    exact ⟨.int n, rfl, .int k, rfl, k, 1, rfl, rfl, n, 0, k - 1, rfl, h1, h2, r⟩

theorem ok_is_row {f : Addr} {fd : FuncData}  (F : Fun K "is_row" "is_row" s_is_row f fd) (B : Bl mg) {T : Addr} (C_is_list_of_liquids : Cal P w K mg base 6 "is_list_of_liquids" ["thing", "liquids"] (sp_is_list_of_liquids T)) : FnOk P w K mg base CX0 7 f fd ["thing", "liquids"] (sp_is_row T) := by
  refine F.ok sc_is_row (fun vs H Q E h => ?_) (fun cdv A outer s H vs Q E hr h => ?_)
  · obtain ⟨l, cs, k, rfl, _⟩ := h; rfl
  · obtain ⟨l, cs, k, rfl, hl, h60, hc, hT, q⟩ := h
    have nd := sc_is_row.nd
    refine ⟨_, (pss_one (ps_ret (pe_and (pe_cal C_is_list_of_liquids (hr.mono (by decide)) (pa_cons (pv 0) (pa_cons (pv 1) pa_nil))) (pe_one (pe_cmpR op_le (pe_callB call_len_seq (by rfl) B.len PySem.boot_len (pa_cons (pv 0) pa_nil)) (pe_gi B.MOST_TOP_UPS) (nomark _)))))), ?_⟩
    refine ⟨.ref l, rfl, .int k, rfl, l, cs, k, rfl, hl, hc, hT, true, rfl, iteT ?_⟩
    refine ⟨.ref l, rfl, l, _, rfl, .inl (SqL.of hl), _, _, rfl, rfl, ?_⟩
    show Q (.bl (decide (((cs.map V.int).length : Int) ≤ 60))) H
    rw [decide_eq_true (by rw [List.length_map]; omega)]
    exact q

def sp_check_kept : Sp := fun vs H Q _ => ∃ t a b, vs = [V.ref t] ∧ H t = some (.tup [.int a, .int b]) ∧ Kep a b ∧ Q .non H
def sp_check_row (T : Addr) : Sp := fun vs H Q _ => ∃ l cs k, vs = [V.ref l, V.int k] ∧ LI H l cs ∧ cs.length ≤ 60 ∧ (∀ c ∈ cs, 0 ≤ c ∧ c ≤ k - 1) ∧ H T = some (TabO T) ∧ Q .non H
def sp_check_liquid : Sp := fun vs H Q _ => ∃ i k, vs = [V.int i, V.int k] ∧ 0 ≤ i ∧ i ≤ k - 1 ∧ Q .non H
def sp_check_number : Sp := fun vs H Q _ => ∃ i lo hi, vs = [V.int i, V.int lo, V.int hi] ∧ lo ≤ i ∧ i ≤ hi ∧ Q .non H

theorem ok_check_kept {f : Addr} {fd : FuncData}  (F : Fun K "check_kept" "check_kept" s_check_kept f fd) (B : Bl mg) (C_is_kept : Cal P w K mg base 3 "is_kept" ["thing"] sp_is_kept) : FnOk P w K mg base CX0 4 f fd ["kept"] (sp_check_kept) := by
  refine F.ok sc_check_kept (fun vs H Q E h => ?_) (fun cdv A outer s H vs Q E hr h => ?_)
  · obtain ⟨t, a, b, rfl, _⟩ := h; rfl
  · obtain ⟨t, a, b, rfl, ht, k, q⟩ := h
    have nd := sc_check_kept.nd
    refine ⟨_, (pss_one (ps_if (pt_not (pt_val (pe_cal C_is_kept (hr.mono (by decide)) (pa_cons (pv 0) pa_nil))))
      (pss_one ps_never) pss_nil)), ?_⟩
    exact ⟨.ref t, rfl, t, a, b, rfl, ht, k, true, rfl, iteF q⟩

theorem ok_check_row {f : Addr} {fd : FuncData}  (F : Fun K "check_row" "check_row" s_check_row f fd) (B : Bl mg) {T : Addr} (C_is_row : Cal P w K mg base 7 "is_row" ["thing", "liquids"] (sp_is_row T)) : FnOk P w K mg base CX0 8 f fd ["row", "liquids"] (sp_check_row T) := by
  refine F.ok sc_check_row (fun vs H Q E h => ?_) (fun cdv A outer s H vs Q E hr h => ?_)
  · obtain ⟨l, cs, k, rfl, _⟩ := h; rfl
  · obtain ⟨l, cs, k, rfl, hl, h60, hc, hT, q⟩ := h
    have nd := sc_check_row.nd
    refine ⟨_, (pss_one (ps_if (pt_not (pt_val (pe_cal C_is_row (hr.mono (by decide)) (pa_cons (pv 0) (pa_cons (pv 1) pa_nil)))))
      (pss_one ps_never) pss_nil)), ?_⟩
    exact ⟨.ref l, rfl, .int k, rfl, l, cs, k, rfl, hl, h60, hc, hT, true, rfl, iteF q⟩


theorem ok_check_number {f : Addr} {fd : FuncData}  (F : Fun K "check_number" "check_number" s_check_number f fd) (B : Bl mg) (C_is_within : Cal P w K mg base 2 "is_within" ["thing", "least", "most"] sp_is_within) : FnOk P w K mg base CX0 3 f fd ["number", "least", "most"] (sp_check_number) := by
  refine F.ok sc_check_number (fun vs H Q E h => ?_) (fun cdv A outer s H vs Q E hr h => ?_)
  · obtain ⟨i, lo, hi, rfl, _⟩ := h; rfl
  · obtain ⟨i, lo, hi, rfl, h1, h2, q⟩ := h
    have nd := sc_check_number.nd
    refine ⟨_, (pss_one (ps_if (pt_not (pt_val (pe_cal C_is_within (hr.mono (by decide)) (pa_cons (pv 0) (pa_cons (pv 1) (pa_cons (pv 2) pa_nil))))))
      (pss_one ps_never) pss_nil)), ?_⟩
    exact ⟨.int i, rfl, .int lo, rfl, .int hi, rfl, i, lo, hi, rfl, h1, h2, true, rfl, iteF q⟩

def sp_common_divisor : Sp := fun vs H Q _ => ∃ l ns, vs = [V.ref l] ∧ LI H l ns ∧ Q (.int ((gcdN ns : Nat) : Int)) H

theorem ok_common_divisor {f : Addr} {fd : FuncData}  (F : Fun K "common_divisor" "common_divisor" s_common_divisor f fd) (B : Bl mg)  : FnOk P w K mg base CX0 1 f fd ["numbers"] (sp_common_divisor) := by
  refine F.ok sc_common_divisor (fun vs H Q E h => ?_) (fun cdv A outer s H vs Q E hr h => ?_)
  · obtain ⟨l, ns, rfl, _⟩ := h; rfl
  · obtain ⟨l, ns, rfl, hl, q⟩ := h
    have nd := sc_common_divisor.nd
    refine ⟨_, (pss_cons (ps_set (i := 1) nd rfl (Or.inl rfl) pe_int)
      (pss_cons (ps_for PassesOwn.never rfl (pi_list (pv 0)) (pg_name (i := 2) nd rfl (Or.inl rfl)) (pss_one (ps_set (i := 1) nd rfl (Or.inl rfl) (pe_callBfun cr_gcd (by rfl) B.gcd (pa_cons (pv 1) (pa_cons (pv 2) pa_nil))))))
      (pss_one (ps_ret (pv 1))))), ?_⟩
    refine ⟨.ref l, rfl, l, rfl, ⟨_, SqL.of hl⟩, for_list (xs := ns.map V.int) (fun i σ H' => ∃ y, σ = [some (.ref l), some (.int ((gcdN (ns.take i) : Nat) : Int)), y] ∧ H' = H) ⟨none, rfl, rfl⟩ (fun i σ H' _ ⟨_, _, e⟩ => by rw [e]; exact SqL.of hl) (fun i x σ H' hx ⟨y, e1, e2⟩ => ?_) (fun σ H' ⟨y, e1, e2⟩ => ?_)⟩
    · subst e1 e2
      obtain ⟨n, hn, rfl⟩ := map_get hx
      refine ⟨.int ((gcdN (ns.take i) : Nat) : Int), rfl, .int n, rfl, _, n, rfl, some (.int n), ?_, rfl⟩
      rw [gcdN_take hn]
      rfl
    · subst e1 e2
      rw [List.length_map, List.take_length]
      exact ⟨_, rfl, q⟩

def sp_without_divisor : Sp := fun vs H Q _ => ∃ l ns, vs = [V.ref l] ∧ LI H l ns ∧ Amt ns ∧ ns.length ≤ 100 ∧ gcdN ns < 2 ^ 8000 ∧ ∀ p H', Same H H' → H p = none → LI H' p (plain ns) → Q (.ref p) H'

theorem ok_without_divisor {f : Addr} {fd : FuncData}  (F : Fun K "without_divisor" "without_divisor" s_without_divisor f fd) (B : Bl mg) (C_common_divisor : Cal P w K mg base 1 "common_divisor" ["numbers"] sp_common_divisor) : FnOk P w K mg base CX0 2 f fd ["numbers"] (sp_without_divisor) := by
  refine F.ok sc_without_divisor (fun vs H Q E h => ?_) (fun cdv A outer s H vs Q E hr h => ?_)
  · obtain ⟨l, ns, rfl, _⟩ := h; rfl
  · obtain ⟨l, ns, rfl, hl, ha, hz, hg, q⟩ := h
    have nd := sc_without_divisor.nd
    refine ⟨_, (pss_cons (ps_set (i := 1) nd rfl (Or.inr rfl) (pe_cal C_common_divisor (hr.mono (by decide)) (pa_cons (pv 0) pa_nil)))
      (pss_one (ps_ret (pe_lc (own := [("number", 2)]) (g := gName 2) rfl nd (pi_list (pv 0)) (blkOk_by (own := [("number", 2)]) (N := ["numbers", "divisor", "number"]) (sc := defScope s_without_divisor) (by decide +kernel)) (fun _ _ _ _ _ => (pg_name (i := 2) nd rfl (Or.inl rfl))) (fun _ _ _ _ _ => pts_nil) (fun _ _ _ _ _ => (pe_op op_fdivW (pv 2) (pv 1))))))), ?_⟩
    refine ⟨.ref l, rfl, l, ns, rfl, hl, ?_⟩
    refine ⟨.ref l, rfl, l, rfl, ⟨_, SqL.of hl⟩, fun D hD => lc_list (xs := ns.map V.int) (fun i H' => Same H H' ∧ H' D = some (.lst (((plain ns).take i).map V.int))) ⟨same_new hD, upd_same⟩ (fun i H' _ ⟨e, _⟩ => SqL.of (e l _ hl)) (fun i x H' hx ⟨e1, e2⟩ => ?_) (fun H' ⟨e1, e2⟩ => ?_)⟩
    · obtain ⟨n, hn, rfl⟩ := map_get hx
      have hpos := gcdN_pos ha
      refine ⟨rfl, .int n, rfl, .int ((gcdN ns : Nat) : Int), rfl, n, _, rfl, rfl, wide_div (by omega) (b := 8000) (by rw [Int.natAbs_natCast]; exact hg) (by decide) (by decide), _, e2, ?_, fun b x hb => ?_, ?_⟩
      · rw [List.length_map, List.length_take]
        have := plain_len ns
        show min i (plain ns).length < 16777216
        omega
      · rw [upd_ne (ne_of_none hb hD)]
        exact e1 b x hb
      · have hp : (plain ns)[i]? = some (n / ((gcdN ns : Nat) : Int)) := by
          unfold Ma.plain
          rw [List.getElem?_map, hn]
          rfl
        rw [upd_same, List.take_add_one, hp, List.map_append]
        rfl
    · rw [List.length_map, ← plain_len ns, List.take_length] at e2
      exact q D H' e1 hD e2

end
end K09
end

section
set_option Elab.async false
set_option linter.all false
set_option maxRecDepth 100000
set_option maxHeartbeats 4000000
namespace K09
open PySem PySem.Spec PyProof.Rows L2 GxR Gx Ma
section
variable {P : Program} {w : World} {K : PySem.W.Frag} {mg : Str → Option Value} {base : Heap}

def sp_is_list_of_amounts (T : Addr) : Sp := fun vs H Q _ => ∃ l ns, vs = [V.ref l] ∧ LI H l ns ∧ 0 < ns.length ∧ ns.length ≤ 8 ∧ (∀ n ∈ ns, 0 ≤ n) ∧ H T = some (TabO T) ∧ Q (.bl true) H

theorem ok_is_list_of_amounts {f : Addr} {fd : FuncData} {c : Addr} (F : FunC K "is_list_of_amounts" "is_list_of_amounts" s_is_list_of_amounts f fd c) (B : Bl mg) (C_is_integer : Cal P w K mg base 1 "is_integer" ["thing"] sp_is_integer) {T : Addr} (TB_is_list_of_amounts : TabB base mg c T) : FnOk P w K mg base CX0 5 f fd ["thing"] (sp_is_list_of_amounts T) := by
  refine F.ok sc_is_list_of_amounts (fun vs H Q E h => ?_) (fun A outer s H vs Q E hr h => ?_)
  · obtain ⟨l, ns, rfl, _⟩ := h; rfl
  · obtain ⟨l, ns, rfl, hl, h1, h8, hn, hT, q⟩ := h
    have hcode : (cxOf CX0 P w K mg base ["thing"] "is_list_of_amounts" (defScope s_is_list_of_amounts) f (.ref c) A outer s H E).nox.env.code = .ref c := rfl
    have nd := sc_is_list_of_amounts.nd
    refine ⟨_, (pss_cons (ps_if (PW.pt (pw_or (pt_cmpR op_neTy (pe_typeOf (by rfl) B.type (pv 0)) (pe_bltn (v := .ty "list") (by rfl) B.list (by decide +kernel) rfl) (nomark _)) (pw_or1 (pt_not (pt_chain op_le op_le pe_int (pe_callB call_len_seq (by rfl) B.len PySem.boot_len (pa_cons (pv 0) pa_nil)) (pe_gi B.MOST_LIQUIDS))))))
      (pss_one (ps_ret pe_bl)) pss_nil)
      (pss_one (ps_ret (pe_allG (ns := []) (k' := 1) (hr.mono (by decide)) (by rfl) B.all TB_is_list_of_amounts hcode (gok_by (N := ["thing"]) (sc := defScope s_is_list_of_amounts) (by decide +kernel)) (by decide) (pi_list (pv 0)) (fun s H C code fp A hq => (pe_and (pe_cal C_is_integer (hq.mono (by decide)) (pa_cons (pv 0) pa_nil)) (pe_one (pe_cmpR op_ge (pv 0) pe_int (nomark _))))))))), ?_⟩
    refine ⟨.ref l, rfl, "list", by simp only [zTyV, hl], "list", rfl, rfl, TypeEq.meta_list, false, rfl, iteF ?_⟩
    refine ⟨.ref l, rfl, l, _, rfl, .inl (SqL.of hl), 1, _, rfl, rfl, _, rfl, ?_⟩
    rw [decide_eq_true (by rw [List.length_map]; omega)]
    refine iteT ⟨_, 8, rfl, rfl, _, rfl, ?_⟩
    rw [decide_eq_true (by rw [List.length_map]; omega)]
    refine iteF ⟨.ref l, rfl, l, rfl, ⟨_, SqL.of hl⟩, hT, all_list hl (fun i y hy R r => ?_) q⟩
    obtain ⟨n, e, rfl⟩ := map_get hy
    refine ⟨.int n, rfl, n, rfl, true, rfl, iteT ⟨.int n, rfl, n, 0, rfl, rfl, ?_⟩⟩
    show R (.bl (decide (0 ≤ n))) H
    rw [decide_eq_true (hn n (List.mem_of_getElem? e))]
    exact r

def sp_is_content (T : Addr) : Sp := fun vs H Q _ => ∃ l ns, vs = [V.ref l] ∧ LI H l ns ∧ Con ns ∧ H T = some (TabO T) ∧ Q (.bl true) H
def sp_check_content (T : Addr) : Sp := fun vs H Q _ => ∃ l ns, vs = [V.ref l] ∧ LI H l ns ∧ Con ns ∧ H T = some (TabO T) ∧ Q .non H

theorem ok_is_content {f : Addr} {fd : FuncData}  (F : Fun K "is_content" "is_content" s_is_content f fd) (B : Bl mg) {T : Addr} (C_is_list_of_amounts : Cal P w K mg base 5 "is_list_of_amounts" ["thing"] (sp_is_list_of_amounts T)) (C_common_divisor : Cal P w K mg base 1 "common_divisor" ["numbers"] sp_common_divisor) : FnOk P w K mg base CX0 6 f fd ["thing"] (sp_is_content T) := by
  refine F.ok sc_is_content (fun vs H Q E h => ?_) (fun cdv A outer s H vs Q E hr h => ?_)
  · obtain ⟨l, ns, rfl, _⟩ := h; rfl
  · obtain ⟨l, ns, rfl, hl, hc, hT, q⟩ := h
    have nd := sc_is_content.nd
    refine ⟨_, (pss_one (ps_ret (pe_and (pe_cal C_is_list_of_amounts (hr.mono (by decide)) (pa_cons (pv 0) pa_nil)) (pe_one (pe_cmpR op_eq (pe_cal C_common_divisor (hr.mono (by decide)) (pa_cons (pv 0) pa_nil)) pe_int (nomark _)))))), ?_⟩
    refine ⟨.ref l, rfl, l, ns, rfl, hl, hc.len, hc.le8, hc.nn, hT, true, rfl, iteT ⟨.ref l, rfl, l, ns, rfl, hl, rfl, ?_⟩⟩
    rw [hc.g]
    exact q

theorem ok_check_content {f : Addr} {fd : FuncData}  (F : Fun K "check_content" "check_content" s_check_content f fd) (B : Bl mg) {T : Addr} (C_is_content : Cal P w K mg base 6 "is_content" ["thing"] (sp_is_content T)) : FnOk P w K mg base CX0 7 f fd ["content"] (sp_check_content T) := by
  refine F.ok sc_check_content (fun vs H Q E h => ?_) (fun cdv A outer s H vs Q E hr h => ?_)
  · obtain ⟨l, ns, rfl, _⟩ := h; rfl
  · obtain ⟨l, ns, rfl, hl, hc, hT, q⟩ := h
    have nd := sc_check_content.nd
    refine ⟨_, (pss_one (ps_if (pt_not (pt_val (pe_cal C_is_content (hr.mono (by decide)) (pa_cons (pv 0) pa_nil))))
      (pss_one ps_never) pss_nil)), ?_⟩
    exact ⟨.ref l, rfl, l, ns, rfl, hl, hc, hT, true, rfl, iteF q⟩

/-- the fraction of two numbers without a common divisor -/
def fr (a b : Int) : Int × Int := (a / ((Nat.gcd a.natAbs b.natAbs : Nat) : Int), b / ((Nat.gcd a.natAbs b.natAbs : Nat) : Int))
def sp_share_of (T : Addr) : Sp := fun vs H Q _ => ∃ l ns n i, vs = [V.ref l, V.int i] ∧ LI H l ns ∧ Con ns ∧ ns.sum < 2 ^ 8000 ∧ 0 ≤ i ∧ ns[i.toNat]? = some n ∧ H T = some (TabO T) ∧ ∀ p H', Same H H' → H p = none → H' p = some (.tup [.int (fr n ns.sum).1, .int (fr n ns.sum).2]) → Q (.ref p) H'
theorem fr_gcd {n m : Int} (hm : 0 < m) (h : m < 2 ^ 8000) : (0 : Int) < ((Nat.gcd n.natAbs m.natAbs : Nat) : Int) ∧ ((Nat.gcd n.natAbs m.natAbs : Nat) : Int).natAbs < 2 ^ 8000 := by
  have h0 : 0 < m.natAbs := by omega
  have h1 := Nat.gcd_le_right n.natAbs h0
  have h2 := Nat.gcd_pos_of_pos_right n.natAbs h0
  refine ⟨by omega, ?_⟩
  rw [Int.natAbs_natCast]
  omega
theorem atI_map {ns : List Int} {i n : Int} (h0 : 0 ≤ i) (h : ns[i.toNat]? = some n) : atI (ns.map V.int) i = some (.int n) := by
  obtain ⟨j, rfl⟩ := Int.eq_ofNat_of_zero_le h0
  exact atI_nat (get_map h)

def sp_low : Sp := fun vs H Q _ => ∃ a b : Int, vs = [V.int a, V.int b] ∧ 0 < b ∧ b < 2 ^ 8000 ∧ ∀ p H', Same H H' → H p = none → H' p = some (.tup [.int (fr a b).1, .int (fr a b).2]) → Q (.ref p) H'



def pur (k i : Nat) : List Int := (List.replicate k 0).set i 1
theorem rep_flat (v : V) : ∀ k : Nat, (List.replicate k [v]).flatten = List.replicate k v
  | 0 => rfl
  | k + 1 => by rw [List.replicate_succ, List.flatten_cons, rep_flat v k]; rfl
theorem ixN_of {n j : Nat} (h : j < n) : ixN n (j : Int) = some j := by
  unfold ixN
  rw [if_pos (by omega), if_pos (by omega), Int.toNat_natCast]
def sp_pure_content : Sp := fun vs H Q _ => ∃ k i : Nat, vs = [V.int k, V.int i] ∧ 1 ≤ k ∧ k ≤ 8 ∧ i < k ∧ ∀ p H', Same H H' → H p = none → LI H' p (pur k i) → Q (.ref p) H'


end
end K09
end

section
set_option Elab.async false
set_option linter.all false
set_option maxRecDepth 100000
set_option maxHeartbeats 4000000
namespace K09
open PySem PySem.Spec PyProof.Rows L2 GxR Gx Ma
section
variable {P : Program} {w : World} {K : PySem.W.Frag} {mg : Str → Option Value} {base : Heap}

theorem gcd_le_sum {ns : List Int} (h : Amt ns) : ((gcdN ns : Nat) : Int) ≤ ns.sum := by
  have e := plain_sum h
  have hg := gcdN_pos h
  have hs := h.pos
  have h1 : 0 < (Ma.plain ns).sum := by
    by_cases z : 0 < (Ma.plain ns).sum
    · exact z
    · have : (Ma.plain ns).sum * ((gcdN ns : Nat) : Int) ≤ 0 * ((gcdN ns : Nat) : Int) := Int.mul_le_mul_of_nonneg_right (by omega) (by omega)
      omega
  have h2 : 1 * ((gcdN ns : Nat) : Int) ≤ (Ma.plain ns).sum * ((gcdN ns : Nat) : Int) := Int.mul_le_mul_of_nonneg_right (by omega) (by omega)
  omega
def sp_content_behind : Sp := fun vs H Q _ => ∃ l t ns a b, ∃ c : Nat, vs = [V.ref l, V.ref t, V.int c] ∧ LI H l ns ∧ Con ns ∧ H t = some (.tup [.int a, .int b]) ∧ Kep a b ∧ c < ns.length ∧ ns.sum < 2 ^ 7900 ∧ ∀ p H', Same H H' → H p = none → LI H' p (step ns a b c) → Q (.ref p) H'
theorem pow_le_of {m n : Nat} (h : m ≤ n) : (2 : Int) ^ m ≤ 2 ^ n := by
  have := Nat.pow_le_pow_right (show 0 < 2 by decide) h
  exact_mod_cast this
theorem abs_lt {n : Int} {k : Nat} (h0 : 0 ≤ n) (h : n < 2 ^ k) : n.natAbs < 2 ^ k := by
  have e : ((n.natAbs : Nat) : Int) = n := Int.natAbs_of_nonneg h0
  have : ((n.natAbs : Nat) : Int) < ((2 ^ k : Nat) : Int) := by
    rw [e]
    have e2 : ((2 ^ k : Nat) : Int) = (2 : Int) ^ k := by rw [Int.natCast_pow]; rfl
    rw [e2]
    exact h
  exact Int.ofNat_lt.mp this

theorem ok_content_behind {f : Addr} {fd : FuncData}  (F : Fun K "content_behind" "content_behind" s_content_behind f fd) (B : Bl mg) (C_without_divisor : Cal P w K mg base 2 "without_divisor" ["numbers"] sp_without_divisor) : FnOk P w K mg base CX0 3 f fd ["content", "kept", "liquid"] (sp_content_behind) := by
  refine F.ok sc_content_behind (fun vs H Q E h => ?_) (fun cdv A outer s H vs Q E hr h => ?_)
  · obtain ⟨l, t, ns, a, b, c, rfl, _⟩ := h; rfl
  · obtain ⟨l, t, ns, a, b, c, rfl, hl, hc, ht, k, hcl, hz, q⟩ := h
    obtain ⟨k1, k2, k3, k4⟩ := k
    have hs := hc.amt.pos
    have nd := sc_content_behind.nd
    refine ⟨_, (pss_cons (ps_asg (pv 1) (pg_tup (by rfl) (pgs_cons (pg_name (i := 3) nd rfl (Or.inr rfl)) (pgs_cons (pg_name (i := 4) nd rfl (Or.inl rfl)) pgs_nil))))
      (pss_cons (ps_setLc (i := 5) (own := [("amount", 6)]) (g := gName 6) rfl nd rfl rfl (sw_true rfl rfl rfl (by decide +kernel)) (pi_list (pv 0)) (blkOk_by (own := [("amount", 6)]) (N := ["content", "kept", "liquid", "stays", "whole", "mixture", "amount"]) (sc := defScope s_content_behind) (by decide +kernel)) (fun _ _ _ _ _ => (pg_name (i := 6) nd rfl (Or.inl rfl))) (fun _ _ _ _ _ => pts_nil) (fun _ _ _ _ _ => (pe_op op_mulW (pv 6) (pv 3))))
      (pss_cons (ps_augS (pv 5) (pv 2) get_list (pe_op op_mulW (pe_op op_sub (pv 4) (pv 3)) (pe_callB (cr_sum rfl) (by rfl) B.sum (by decide +kernel) (pa_cons (pv 0) pa_nil))) ip_add set_list)
      (pss_one (ps_ret (pe_cal C_without_divisor (hr.mono (by decide)) (pa_cons (pv 5) pa_nil))))))), ?_⟩
    refine ⟨.ref t, rfl, t, [_, _], rfl, SqT.of ht, rfl, _, _, rfl, _, _, rfl, rfl, ?_⟩
    refine ⟨.ref l, rfl, l, rfl, ⟨_, SqL.of hl⟩, fun D hD => lc_list (xs := ns.map V.int) (fun i H' => Same H H' ∧ H' D = some (.lst (((ns.map fun n => n * a).take i).map V.int))) ⟨same_new hD, upd_same⟩ (fun i H' _ ⟨e, _⟩ => SqL.of (e l _ hl)) (fun i x H' hx ⟨e1, e2⟩ => ?_) (fun H' ⟨e1, e2⟩ => ?_)⟩
    · obtain ⟨n, hn, rfl⟩ := map_get hx
      have hm := List.mem_of_getElem? hn
      have hn0 := hc.nn n hm
      have hn1 := le_sum hc.nn hm
      refine ⟨rfl, .int n, rfl, .int a, rfl, n, a, rfl, rfl, wide_mul (a := 7900) (b := 7) (abs_lt hn0 (Int.lt_of_le_of_lt hn1 hz)) (abs_lt (by omega) (by omega)) (by decide) (by decide) (by decide), _, e2, ?_, fun b x hb => ?_, ?_⟩
      · have := hc.le8
        rw [List.length_map, List.length_take, List.length_map]
        show min i ns.length < 16777216
        omega
      · rw [upd_ne (ne_of_none hb hD)]
        exact e1 b x hb
      · have hp : (ns.map fun n => n * a)[i]? = some (n * a) := by
          rw [List.getElem?_map, hn]
          rfl
        rw [upd_same, List.take_add_one, hp, List.map_append]
        rfl
    · have e2 : LI H' D (ns.map fun n => n * a) := by
        show H' D = _
        rw [e2, List.length_map, List.take_of_length_le (by rw [List.length_map]; exact Nat.le_refl _)]
      have hcm : (ns.map fun n => n * a)[c]? = some (ns.getD c 0 * a) := by
        rw [List.getElem?_map, List.getD_eq_getElem?_getD, List.getElem?_eq_getElem hcl]
        rfl
      have hba : (b - a).natAbs < 2 ^ 7 := abs_lt (by omega) (by omega)
      refine ⟨.ref D, rfl, .int c, rfl, D, _, c, .int (ns.getD c 0 * a), rfl, rfl, SqL.of e2, by omega, get_map hcm, ?_⟩
      refine ⟨.int b, rfl, .int a, rfl, b, a, rfl, rfl, .ref l, rfl, l, ns, rfl, SqL.of (e1 l _ hl), b - a, ns.sum, rfl, rfl, wide_mul (a := 7) (b := 7900) hba (abs_lt (by omega) hz) (by decide) (by decide) (by decide), ?_⟩
      refine ⟨_, _, rfl, rfl, D, _, c, c, rfl, rfl, e2, ixN_of (by rw [List.length_map, List.length_map]; exact hcl), ?_⟩
      have hk : Kep a b := ⟨k1, k2, k3, k4⟩
      have ha := pre_amt hc hk hcl
      have hps := pre_sum (a := a) (b := b) hcl
      have e3 : upd H' D (.lst (((ns.map fun n => n * a).map V.int).set c (.int (ns.getD c 0 * a + (b - a) * ns.sum)))) D = some (.lst ((pre ns a b c).map V.int)) := by
        rw [upd_same]
        unfold pre
        rw [List.map_set]
      refine ⟨.ref D, rfl, D, pre ns a b c, rfl, e3, ha, ?_, ?_, fun p H2 s2 np e4 => ?_⟩
      · rw [pre_len]
        have := hc.le8
        omega
      · have h1 := gcd_le_sum ha
        rw [hps] at h1
        have h2 : b * ns.sum ≤ 100 * ns.sum := Int.mul_le_mul_of_nonneg_right k3 (by omega)
        have h3 : (100 : Int) * ns.sum < 2 ^ 8000 := by
          have e : (2 : Int) ^ 8000 = 2 ^ 100 * 2 ^ 7900 := by rw [← Int.pow_add]
          have h4 : (2 : Int) ^ 7 * 2 ^ 7900 ≤ 2 ^ 100 * 2 ^ 7900 := Int.mul_le_mul_of_nonneg_right (pow_le_of (by decide)) (Int.le_of_lt (Int.pow_pos (by decide)))
          have h5 : (128 : Int) * ns.sum ≤ 2 ^ 7 * 2 ^ 7900 := Int.mul_le_mul_of_nonneg_left (Int.le_of_lt hz) (by decide)
          omega
        have h6 := abs_lt (n := ((gcdN (pre ns a b c) : Nat) : Int)) (by omega) (Int.lt_of_le_of_lt (Int.le_trans h1 h2) h3)
        rw [Int.natAbs_natCast] at h6
        exact h6
      · refine q p H2 (fun x u hx => s2 x u ?_) (Same.free (fun x u hx => ?_) np) e4
        · rw [upd_ne (ne_of_none hx hD)]
          exact e1 x u hx
        · rw [upd_ne (ne_of_none hx hD)]
          exact e1 x u hx

end
end K09
end

section
set_option Elab.async false
set_option linter.all false
set_option maxRecDepth 100000
set_option maxHeartbeats 4000000
namespace K09
open PySem PySem.Spec PyProof.Rows L2 GxR Gx Ma
section
variable {P : Program} {w : World} {K : PySem.W.Frag} {mg : Str → Option Value} {base : Heap}

/-- the content behind i top-ups, each by its own kept share -/
def ctn (ns : List Int) (ks : List (Int × Int)) (cs : List Nat) : Nat → List Int
  | 0 => ns
  | i + 1 => step (ctn ns ks cs i) (ks.getD i (1, 2)).1 (ks.getD i (1, 2)).2 (cs.getD i 0)
structure Rowy (ns : List Int) (ks : List (Int × Int)) (cs : List Nat) : Prop where
  con : Con ns
  len : ks.length = cs.length
  c60 : cs.length ≤ 60
  kep : ∀ q ∈ ks, Kep q.1 q.2
  liq : ∀ c ∈ cs, c < ns.length
theorem getD_mem {α : Type} {l : List α} {i : Nat} {d : α} (h : i < l.length) : l.getD i d ∈ l := by
  rw [List.getD_eq_getElem?_getD, List.getElem?_eq_getElem h]
  exact List.getElem_mem h
theorem ctn_len (ns : List Int) (ks : List (Int × Int)) (cs : List Nat) : ∀ i, (ctn ns ks cs i).length = ns.length
  | 0 => rfl
  | i + 1 => by rw [← ctn_len ns ks cs i]; exact step_len ..
theorem ctn_con {ns : List Int} {ks : List (Int × Int)} {cs : List Nat} (R : Rowy ns ks cs) : ∀ i, i ≤ cs.length → Con (ctn ns ks cs i)
  | 0, _ => R.con
  | i + 1, h => by
    have hik : i < ks.length := by have := R.len; omega
    have hic : i < cs.length := by omega
    exact step_con (ctn_con R i (by omega)) (R.kep _ (getD_mem hik)) (by rw [ctn_len]; exact R.liq _ (getD_mem hic))
theorem ctn_sum {ns : List Int} {ks : List (Int × Int)} {cs : List Nat} (R : Rowy ns ks cs) : ∀ i, i ≤ cs.length → (ctn ns ks cs i).sum ≤ 100 ^ i * ns.sum
  | 0, _ => by show ns.sum ≤ 100 ^ 0 * ns.sum; rw [Int.pow_zero, Int.one_mul]; exact Int.le_refl _
  | i + 1, h => by
    have hik : i < ks.length := by have := R.len; omega
    have hic : i < cs.length := by omega
    have h1 := step_sum (ctn_con R i (by omega)) (R.kep _ (getD_mem (d := (1, 2)) hik)) (c := cs.getD i 0) (by rw [ctn_len]; exact R.liq _ (getD_mem hic))
    have h2 := ctn_sum R i (by omega)
    have h3 : (100 : Int) * (ctn ns ks cs i).sum ≤ 100 * (100 ^ i * ns.sum) := Int.mul_le_mul_of_nonneg_left h2 (by decide)
    have e : (100 : Int) ^ (i + 1) * ns.sum = 100 * (100 ^ i * ns.sum) := by rw [Int.pow_succ, Int.mul_comm ((100 : Int) ^ i) 100, Int.mul_assoc]
    rw [e]
    exact Int.le_trans h1 h3
theorem hund_le (i : Nat) (h : i ≤ 60) : (100 : Int) ^ i ≤ 2 ^ 420 := by
  have h1 : (100 : Nat) ^ i ≤ 100 ^ 60 := Nat.pow_le_pow_right (by decide) h
  have h2 : (100 : Nat) ^ 60 ≤ 2 ^ 420 := by decide +kernel
  have h3 : (100 : Nat) ^ i ≤ 2 ^ 420 := Nat.le_trans h1 h2
  exact_mod_cast h3
theorem ctn_small {ns : List Int} {ks : List (Int × Int)} {cs : List Nat} {m : Nat} (R : Rowy ns ks cs) (i : Nat) (hi : i ≤ cs.length) (hz : ns.sum < 2 ^ m) : (ctn ns ks cs i).sum < 2 ^ (m + 420) := by
  have h1 := ctn_sum R i hi
  have hs := R.con.amt.pos
  have h2 : (100 : Int) ^ i * ns.sum ≤ 2 ^ 420 * ns.sum := Int.mul_le_mul_of_nonneg_right (hund_le i (by have := R.c60; omega)) (by omega)
  have h3 : (2 : Int) ^ 420 * ns.sum < 2 ^ 420 * 2 ^ m := Int.mul_lt_mul_of_pos_left hz (Int.pow_pos (by decide))
  have e : (2 : Int) ^ (m + 420) = 2 ^ 420 * 2 ^ m := by rw [Int.pow_add, Int.mul_comm]
  rw [e]
  exact Int.lt_of_le_of_lt (Int.le_trans h1 h2) h3
/-- a list of n + 1 new lists of ints -/
structure Rows (H H' : Hp) (p : Addr) (ps : List Addr) (n : Nat) (v : Nat → List Int) : Prop where
  at_ : H' p = some (.lst (ps.map V.ref))
  len : ps.length = n
  row : ∀ i a, ps[i]? = some a → LI H' a (v i)
  new : ∀ a ∈ ps, H a = none
  nd : ps.Nodup
  out : p ∉ ps
  pnew : H p = none
theorem Rows.grow {H H' H2 : Hp} {p a : Addr} {ps : List Addr} {n : Nat} {v : Nat → List Int} (R : Rows H H' p ps n v) (s : Same H H') (e : Same H' H2) (na : H' a = none) (ha : LI H2 a (v n)) : Rows H (upd H2 p (.lst (ps.map V.ref ++ [.ref a]))) p (ps ++ [a]) (n + 1) v := by
  have hpa : a ≠ p := fun z => by rw [z, R.at_] at na; cases na
  refine ⟨?_, ?_, fun i b hb => ?_, fun b hb => ?_, ?_, fun z => ?_, R.pnew⟩
  · rw [upd_same, List.map_append]
    rfl
  · rw [List.length_append, R.len]
    rfl
  · by_cases hi : i < ps.length
    · rw [List.getElem?_append_left hi] at hb
      have hbp : b ≠ p := fun z => R.out (by rw [← z]; exact List.mem_of_getElem? hb)
      show upd H2 p _ b = _
      rw [upd_ne hbp]
      exact e b _ (R.row i b hb)
    · have hi2 := (List.getElem?_eq_some_iff.mp hb).1
      rw [List.length_append] at hi2
      have e1 : i = ps.length := by
        have : i < ps.length + 1 := hi2
        omega
      rw [e1, List.getElem?_append_right (Nat.le_refl _), Nat.sub_self] at hb
      have e2 : a = b := Option.some.inj hb
      rw [← e2, e1, R.len]
      show upd H2 p _ a = _
      rw [upd_ne hpa]
      exact ha
  · rcases List.mem_append.mp hb with z | z
    · exact R.new b z
    · rw [List.mem_singleton.mp z]
      exact s.free na
  · refine List.nodup_append.mpr ⟨R.nd, List.nodup_cons.mpr ⟨List.not_mem_nil, List.nodup_nil⟩, fun x hx y hy z => ?_⟩
    rw [List.mem_singleton.mp hy] at z
    obtain ⟨i, hi⟩ := List.getElem?_of_mem hx
    have := R.row i x hi
    rw [z] at this
    have t2 : H' a = some _ := this
    rw [na] at t2
    cases t2
  · rcases List.mem_append.mp z with z | z
    · exact R.out z
    · exact hpa (List.mem_singleton.mp z).symm
theorem Rows.last {H H' : Hp} {p : Addr} {ps : List Addr} {n : Nat} {v : Nat → List Int} (R : Rows H H' p ps (n + 1) v) : ∃ a, atI (ps.map V.ref) (-1) = some (.ref a) ∧ LI H' a (v n) ∧ ps[n]? = some a := by
  have hl := R.len
  have hn : n < ps.length := by omega
  have e : ps.map V.ref = (ps.take n).map V.ref ++ [.ref ps[n]] := by
    have e1 : ps = ps.take n ++ [ps[n]] := by
      have := List.take_append_getElem hn
      rw [this, List.take_of_length_le (by omega)]
    conv => lhs; rw [e1]
    rw [List.map_append]
    rfl
  refine ⟨ps[n], ?_, R.row n _ (List.getElem?_eq_getElem hn), List.getElem?_eq_getElem hn⟩
  rw [e]
  exact atI_last _ _
def rowI (cs : List Nat) : List Int := cs.map fun (c : Nat) => (c : Int)
theorem rowI_get {cs : List Nat} {i : Nat} {y : V} (h : ((rowI cs).map V.int)[i]? = some y) : i < cs.length ∧ y = .int ((cs.getD i 0 : Nat) : Int) := by
  obtain ⟨n, hn, rfl⟩ := map_get h
  unfold rowI at hn
  rw [List.getElem?_map] at hn
  cases e : cs[i]? with
  | none => rw [e] at hn; cases hn
  | some c =>
    rw [e] at hn
    refine ⟨(List.getElem?_eq_some_iff.mp e).1, ?_⟩
    rw [List.getD_eq_getElem?_getD, e]
    exact congrArg V.int (Option.some.inj hn).symm
/-- a list of tuples of two ints -/
structure Keeps (H : Hp) (l : Addr) (ts : List Addr) (ks : List (Int × Int)) : Prop where
  at_ : H l = some (.lst (ts.map V.ref))
  len : ts.length = ks.length
  tup : ∀ i t, ts[i]? = some t → H t = some (.tup [.int (ks.getD i (1, 2)).1, .int (ks.getD i (1, 2)).2])
theorem Keeps.same {H H' : Hp} {l : Addr} {ts : List Addr} {ks : List (Int × Int)} (k : Keeps H l ts ks) (e : Same H H') : Keeps H' l ts ks := ⟨e _ _ k.at_, k.len, fun i t h => e _ _ (k.tup i t h)⟩
def sp_contents_by : Sp := fun vs H Q _ => ∃ l kl r ns ts ks cs, vs = [V.ref l, V.ref kl, V.ref r] ∧ LI H l ns ∧ Keeps H kl ts ks ∧ LI H r (rowI cs) ∧ Rowy ns ks cs ∧ ns.sum < 2 ^ 7000 ∧ ∀ p ps H', Same H H' → Rows H H' p ps (cs.length + 1) (ctn ns ks cs) → Q (.ref p) H'
theorem same_upd_new {H H' : Hp} {p : Addr} {o : HO} (e : Same H H') (h : H p = none) : Same H (upd H' p o) := fun b x hb => by
  rw [upd_ne (ne_of_none hb h)]
  exact e b x hb

theorem ok_contents_by {f : Addr} {fd : FuncData}  (F : Fun K "contents_by" "contents_by" s_contents_by f fd) (B : Bl mg) (C_content_behind : Cal P w K mg base 3 "content_behind" ["content", "kept", "liquid"] sp_content_behind) : FnOk P w K mg base CX0 4 f fd ["content", "keeps", "row"] (sp_contents_by) := by
  refine F.ok sc_contents_by (fun vs H Q E h => ?_) (fun cdv A outer s H vs Q E hr h => ?_)
  · obtain ⟨l, kl, r, ns, ts, ks, cs, rfl, _⟩ := h; rfl
  · obtain ⟨l, kl, r, ns, ts, ks, cs, rfl, hl, hk, hr2, R, hz, q⟩ := h
    have h60 := R.c60
    have hlen := R.len
    have nd := sc_contents_by.nd
    refine ⟨_, (pss_cons (ps_set (i := 3) nd rfl (Or.inl rfl) (pe_lst (pa_cons (pe_callTy call_list_of (by rfl) B.list (by decide +kernel) (pa_cons (pv 0) pa_nil)) pa_nil)))
      (pss_cons (ps_for PassesOwn.never rfl (pi_zip (by rfl) B.zip (pa_cons (pv 1) (pa_cons (pv 2) pa_nil))) (pg_tup (by rfl) (pgs_cons (pg_name (i := 4) nd rfl (Or.inl rfl)) (pgs_cons (pg_name (i := 5) nd rfl (Or.inl rfl)) pgs_nil))) (pss_one (ps_expr (pe_bm PySem.F.plainAttrs_list PySem.F.slot_list_append PySem.F.type_list_append mt_append (pv 3) (pa_cons (pe_cal C_content_behind (hr.mono (by decide)) (pa_cons (pe_ix ix_list (pv 3) (pe_un un_neg pe_int) (fun _ _ => rfl)) (pa_cons (pv 4) (pa_cons (pv 5) pa_nil)))) pa_nil)))))
      (pss_one (ps_ret (pv 3))))), ?_⟩
    refine ⟨.ref l, rfl, l, _, rfl, .inl (SqL.of hl), fun o no => ?_⟩
    have s1 : Same H (upd H o (.lst (ns.map V.int))) := same_new no
    refine ⟨by show 1 ≤ 16777216; decide, fun C nC => ?_⟩
    have s2 : Same (upd H o (.lst (ns.map V.int))) (upd (upd H o (.lst (ns.map V.int))) C (.lst [.ref o])) := same_new nC
    have noC : o ≠ C := fun e => by rw [← e, upd_same] at nC; cases nC
    refine ⟨.ref kl, rfl, .ref r, rfl, kl, r, ts.map V.ref, (rowI cs).map V.int, rfl, SqL.of (s2 _ _ (s1 _ _ hk.at_)), SqL.of (s2 _ _ (s1 _ _ hr2)), ?_⟩
    have h0 : Rows H (upd (upd H o (.lst (ns.map V.int))) C (.lst [.ref o])) C [o] 1 (ctn ns ks cs) := by
      refine ⟨upd_same, rfl, fun i a ha => ?_, fun a ha => ?_, by simp, fun z => noC (List.mem_singleton.mp z).symm, s1.free nC⟩
      · cases i with
        | zero =>
          have e : o = a := Option.some.inj ha
          rw [← e]
          show upd _ C _ o = _
          rw [upd_ne noC, upd_same]
          rfl
        | succ i => simp at ha
      · rw [List.mem_singleton.mp ha]
        exact no
    refine RZ.for_zipL (by rw [List.length_map, List.length_map]; unfold rowI; rw [List.length_map, hk.len]; exact hlen) (fun i σ H' => ∃ y4 y5 ps, σ = [some (.ref l), some (.ref kl), some (.ref r), some (.ref C), y4, y5] ∧ i ≤ cs.length ∧ Same H H' ∧ Rows H H' C ps (i + 1) (ctn ns ks cs))
      ⟨none, none, [o], rfl, Nat.zero_le _, s1.trans s2, h0⟩ (fun i σ H' ⟨_, _, _, _, _, e, _⟩ => ⟨SqL.of (e _ _ hk.at_), SqL.of (e _ _ hr2)⟩) (fun i x y T σ H' hx hy hP nT => ?_) (fun σ H' hP => ?_)
    · obtain ⟨y4, y5, ps, rfl, hi, e, RR⟩ := hP
      obtain ⟨hic, rfl⟩ := rowI_get hy
      rw [List.getElem?_map] at hx
      cases ht : ts[i]? with
      | none => rw [ht] at hx; cases hx
      | some t =>
        rw [ht] at hx
        have ex : V.ref t = x := Option.some.inj hx
        subst ex
        have htup := hk.tup i t ht
        have sT : Same H' (upd H' T (.tup [.ref t, .int ((cs.getD i 0 : Nat) : Int)])) := same_new nT
        obtain ⟨a, ea, la, _⟩ := RR.last
        have hCT := sT _ _ RR.at_
        refine ⟨T, _, rfl, SqT.of upd_same, rfl, _, _, rfl, _, _, rfl, rfl, ?_⟩
        refine ⟨.ref C, rfl, .inl ⟨rfl, _, SqL.of hCT⟩, ?_⟩
        refine ⟨.ref C, rfl, 1, rfl, C, _, -1, _, rfl, rfl, SqL.of hCT, ea, .ref t, rfl, .int ((cs.getD i 0 : Nat) : Int), rfl, ?_⟩
        refine ⟨a, t, ctn ns ks cs i, (ks.getD i (1, 2)).1, (ks.getD i (1, 2)).2, cs.getD i 0, rfl, sT _ _ la, ctn_con R i hi, sT _ _ (e _ _ htup), R.kep _ (getD_mem (by omega)), by rw [ctn_len]; exact R.liq _ (getD_mem hic), ?_, fun p H2 s3 np lp => ?_⟩
        · exact Int.lt_of_lt_of_le (ctn_small R i hi hz) (pow_le_of (by decide))
        · refine ⟨C, _, _, rfl, rfl, s3 _ _ hCT, ?_, ?_⟩
          · rw [List.length_map, RR.len]
            show i + 1 < 16777216
            omega
          · exact ⟨some (.ref t), some (.int ((cs.getD i 0 : Nat) : Int)), ps ++ [p], rfl, hic, same_upd_new (e.trans (sT.trans s3)) RR.pnew, RR.grow e (sT.trans s3) (sT.free np) lp⟩
    · obtain ⟨y4, y5, ps, rfl, hi, e, RR⟩ := hP
      have el : (ts.map V.ref).length = cs.length := by rw [List.length_map, hk.len]; exact hlen
      rw [el] at RR
      exact ⟨.ref C, rfl, q C ps H' e RR⟩

end
end K09
end

section
set_option Elab.async false
set_option linter.all false
set_option maxRecDepth 100000
set_option maxHeartbeats 4000000
namespace K09
open PySem PySem.Spec PyProof.Rows L2 GxR Gx Ma
section
variable {P : Program} {w : World} {K : PySem.W.Frag} {mg : Str → Option Value} {base : Heap}

def ctn1 (ns : List Int) (a b : Int) (cs : List Nat) : Nat → List Int := ctn ns (List.replicate cs.length (a, b)) cs
structure Row1 (ns : List Int) (a b : Int) (cs : List Nat) : Prop where
  con : Con ns
  c60 : cs.length ≤ 60
  kep : Kep a b
  liq : ∀ c ∈ cs, c < ns.length
theorem Row1.y {ns : List Int} {a b : Int} {cs : List Nat} (R : Row1 ns a b cs) : Rowy ns (List.replicate cs.length (a, b)) cs :=
  ⟨R.con, List.length_replicate, R.c60, fun q hq => by rw [(List.mem_replicate.mp hq).2]; exact R.kep, R.liq⟩
theorem keeps_rep {H : Hp} {l t : Addr} {a b : Int} {n : Nat} (h : H l = some (.lst ((List.replicate n t).map V.ref))) (ht : H t = some (.tup [.int a, .int b])) : Keeps H l (List.replicate n t) (List.replicate n (a, b)) := by
  refine ⟨h, by rw [List.length_replicate, List.length_replicate], fun i u hu => ?_⟩
  have hi := (List.getElem?_eq_some_iff.mp hu).1
  rw [List.length_replicate] at hi
  have e : t = u := by
    rw [List.getElem?_replicate, if_pos hi] at hu
    exact Option.some.inj hu
  rw [← e, List.getD_eq_getElem?_getD, List.getElem?_replicate, if_pos hi]
  exact ht
theorem rowI_le {cs : List Nat} {k : Nat} (h : ∀ c ∈ cs, c < k) : ∀ c ∈ rowI cs, 0 ≤ c ∧ c ≤ (k : Int) - 1 := fun c hc => by
  obtain ⟨m, hm, e⟩ := List.mem_map.mp hc
  have := h m hm
  have e2 : (m : Int) = c := e
  omega
def sp_contents_along (Tc Tr : Addr) : Sp := fun vs H Q _ => ∃ l t r ns a b cs, vs = [V.ref l, V.ref t, V.ref r] ∧ LI H l ns ∧ H t = some (.tup [.int a, .int b]) ∧ LI H r (rowI cs) ∧ Row1 ns a b cs ∧ ns.sum < 2 ^ 7000 ∧ H Tc = some (TabO Tc) ∧ H Tr = some (TabO Tr) ∧
  ∀ p ps H', Same H H' → Rows H H' p ps (cs.length + 1) (ctn1 ns a b cs) → Q (.ref p) H'
def sp_topped_row (Tc Tr : Addr) : Sp := fun vs H Q _ => ∃ l t r ns a b cs, vs = [V.ref l, V.ref t, V.ref r] ∧ LI H l ns ∧ H t = some (.tup [.int a, .int b]) ∧ LI H r (rowI cs) ∧ Row1 ns a b cs ∧ ns.sum < 2 ^ 7000 ∧ H Tc = some (TabO Tc) ∧ H Tr = some (TabO Tr) ∧
  ∀ p H', Same H H' → H p = none → LI H' p (ctn1 ns a b cs cs.length) → Q (.ref p) H'
theorem Rows.back {H0 H H' : Hp} {p : Addr} {ps : List Addr} {n : Nat} {v : Nat → List Int} (R : Rows H H' p ps n v) (s : Same H0 H) : Rows H0 H' p ps n v := ⟨R.at_, R.len, R.row, fun a h => s.free (R.new a h), R.nd, R.out, s.free R.pnew⟩

theorem ok_contents_along {f : Addr} {fd : FuncData}  (F : Fun K "contents_along" "contents_along" s_contents_along f fd) (B : Bl mg) {Tc : Addr} (C_check_content : Cal P w K mg base 7 "check_content" ["content"] (sp_check_content Tc)) (C_check_kept : Cal P w K mg base 4 "check_kept" ["kept"] sp_check_kept) {Tr : Addr} (C_check_row : Cal P w K mg base 8 "check_row" ["row", "liquids"] (sp_check_row Tr)) (C_contents_by : Cal P w K mg base 4 "contents_by" ["content", "keeps", "row"] sp_contents_by) : FnOk P w K mg base CX0 9 f fd ["content", "kept", "row"] (sp_contents_along Tc Tr) := by
  refine F.ok sc_contents_along (fun vs H Q E h => ?_) (fun cdv A outer s H vs Q E hr h => ?_)
  · obtain ⟨l, t, r, ns, a, b, cs, rfl, _⟩ := h; rfl
  · obtain ⟨l, t, r, ns, a, b, cs, rfl, hl, ht, hr2, R, hz, hTc, hTr, q⟩ := h
    have h60 := R.c60
    have hlen : (rowI cs).length = cs.length := by unfold rowI; rw [List.length_map]
    have nd := sc_contents_along.nd
    refine ⟨_, (pss_cons (ps_expr (pe_cal C_check_content (hr.mono (by decide)) (pa_cons (pv 0) pa_nil)))
      (pss_cons (ps_expr (pe_cal C_check_kept (hr.mono (by decide)) (pa_cons (pv 1) pa_nil)))
      (pss_cons (ps_expr (pe_cal C_check_row (hr.mono (by decide)) (pa_cons (pv 2) (pa_cons (pe_callB call_len_seq (by rfl) B.len PySem.boot_len (pa_cons (pv 0) pa_nil)) pa_nil))))
      (pss_one (ps_ret (pe_cal C_contents_by (hr.mono (by decide)) (pa_cons (pv 0) (pa_cons (pe_op op_rep (pe_lst (pa_cons (pv 1) pa_nil)) (pe_callB call_len_seq (by rfl) B.len PySem.boot_len (pa_cons (pv 2) pa_nil))) (pa_cons (pv 2) pa_nil))))))))), ?_⟩
    refine ⟨.ref l, rfl, l, ns, rfl, hl, R.con, hTc, ?_⟩
    refine ⟨.ref t, rfl, t, a, b, rfl, ht, R.kep, ?_⟩
    refine ⟨.ref r, rfl, .ref l, rfl, l, _, rfl, .inl (SqL.of hl), r, rowI cs, _, rfl, hr2, by omega, ?_, hTr, ?_⟩
    · rw [List.length_map]
      exact rowI_le R.liq
    · refine ⟨.ref l, rfl, .ref t, rfl, by show 1 ≤ 16777216; decide, fun o no => ?_⟩
      have s1 : Same H (upd H o (.lst [.ref t])) := same_new no
      refine ⟨.ref r, rfl, r, _, rfl, .inl (SqL.of (s1 _ _ hr2)), o, (((rowI cs).map V.int).length : Int), [.ref t], rfl, rfl, upd_same, ?_, ?_, ?_, fun p hp => ?_⟩
      · omega
      · rw [List.length_map, hlen]; omega
      · rw [List.length_map, hlen, Int.toNat_natCast]
        show 1 * cs.length ≤ 16777216
        omega
      · rw [List.length_map, hlen, Int.toNat_natCast, rep_flat]
        have s2 : Same (upd H o (.lst [.ref t])) (upd (upd H o (.lst [.ref t])) p (.lst (List.replicate cs.length (V.ref t)))) := same_new hp
        have s3 := s1.trans s2
        refine ⟨.ref r, rfl, l, p, r, ns, List.replicate cs.length t, List.replicate cs.length (a, b), cs, rfl, s3 _ _ hl, keeps_rep (by rw [upd_same, List.map_replicate]) (s3 _ _ ht), s3 _ _ hr2, R.y, hz, fun p2 ps H' s4 RR => ?_⟩
        exact q p2 ps H' (s3.trans s4) (RR.back s3)

theorem ok_topped_row {f : Addr} {fd : FuncData}  (F : Fun K "topped_row" "topped_row" s_topped_row f fd) (B : Bl mg) {Tc Tr : Addr} (C_contents_along : Cal P w K mg base 9 "contents_along" ["content", "kept", "row"] (sp_contents_along Tc Tr)) : FnOk P w K mg base CX0 10 f fd ["content", "kept", "row"] (sp_topped_row Tc Tr) := by
  refine F.ok sc_topped_row (fun vs H Q E h => ?_) (fun cdv A outer s H vs Q E hr h => ?_)
  · obtain ⟨l, t, r, ns, a, b, cs, rfl, _⟩ := h; rfl
  · obtain ⟨l, t, r, ns, a, b, cs, rfl, hl, ht, hr2, R, hz, hTc, hTr, q⟩ := h
    have nd := sc_topped_row.nd
    refine ⟨_, (pss_one (ps_ret (pe_ix ix_list (pe_cal C_contents_along (hr.mono (by decide)) (pa_cons (pv 0) (pa_cons (pv 1) (pa_cons (pv 2) pa_nil)))) (pe_un un_neg pe_int) (fun _ _ => rfl)))), ?_⟩
    refine ⟨.ref l, rfl, .ref t, rfl, .ref r, rfl, l, t, r, ns, a, b, cs, rfl, hl, ht, hr2, R, hz, hTc, hTr, fun p ps H' s1 RR => ?_⟩
    obtain ⟨x, e1, e2, e3⟩ := RR.last
    exact ⟨1, rfl, p, _, -1, _, rfl, rfl, SqL.of RR.at_, e1, q x H' s1 (RR.new x (List.mem_of_getElem? e3)) e2⟩

end
end K09
end

section
set_option Elab.async false
set_option linter.all false
set_option maxRecDepth 100000
set_option maxHeartbeats 4000000
namespace K09
open PySem PySem.Spec PyProof.Rows L2 GxR Gx Ma
section
variable {P : Program} {w : World} {K : PySem.W.Frag} {mg : Str → Option Value} {base : Heap}

/-- all that is tracked but what stands at j is as it was -/
def But (j : Addr) (H H' : Hp) : Prop := ∀ b o, b ≠ j → H b = some o → H' b = some o
theorem But.refl (j : Addr) (H : Hp) : But j H H := fun _ _ _ h => h
theorem But.trans {j : Addr} {H H1 H2 : Hp} (a : But j H H1) (b : But j H1 H2) : But j H H2 := fun x o n h => b x o n (a x o n h)
theorem But.of {j : Addr} {H H' : Hp} (e : Same H H') : But j H H' := fun x o _ h => e x o h
theorem But.upd {j : Addr} {H H' : Hp} {o : HO} (e : But j H H') : But j H (upd H' j o) := fun x u n h => by
  rw [upd_ne n]
  exact e x u n h
theorem But.same {j : Addr} {H H' : Hp} (e : But j H H') (h : H j = none) : Same H H' := fun x o q => e x o (ne_of_none q h) q
theorem But.same2 {j : Addr} {H0 H H' : Hp} (e : But j H H') (s : Same H0 H) (h : H0 j = none) : Same H0 H' := fun x o q => e x o (ne_of_none q h) (s x o q)
/-- a jar that was asked at most n times -/
def Jar (H : Hp) (j : Addr) (n : Nat) : Prop := ∃ x y z : Int, H j = some (.lst [.int x, .int y, .int z]) ∧ 0 ≤ x ∧ 0 ≤ y ∧ y < 2 ^ 160 ∧ 0 ≤ z ∧ z ≤ n
theorem Jar.le {H : Hp} {j : Addr} {n m : Nat} (h : Jar H j n) (hn : n ≤ m) : Jar H j m := let ⟨x, y, z, e, a, b, c, d, f⟩ := h; ⟨x, y, z, e, a, b, c, d, by omega⟩
theorem Jar.free {H H' : Hp} {j p : Addr} {n : Nat} (h : Jar H j n) (e : But j H H') (h' : Jar H' j m) (hp : H' p = none) : H p = none := by
  have hpj : p ≠ j := fun z => by
    obtain ⟨_, _, _, q, _⟩ := h'
    rw [z, q] at hp
    cases hp
  cases q : H p with
  | none => rfl
  | some o => rw [e p o hpj q] at hp; cases hp
theorem Jar.keep {H H' : Hp} {j : Addr} {n : Nat} (h : Jar H j n) (e : Same H H') : Jar H' j n := let ⟨x, y, z, q, r⟩ := h; ⟨x, y, z, e _ _ q, r⟩
theorem Jar.ne {H : Hp} {j p : Addr} {n : Nat} (h : Jar H j n) (hp : H p = none) : p ≠ j := fun z => by
  obtain ⟨_, _, _, q, _⟩ := h
  rw [z, q] at hp
  cases hp
def sp_dip : Sp := fun vs H Q _ => ∃ j m n, vs = [V.ref j, V.int m] ∧ Jar H j n ∧ n ≤ 1000000 ∧ 1 ≤ m ∧ m < 2 ^ 8000 ∧ ∀ d H', But j H H' → (∀ b, H' b = none → H b = none) → Jar H' j (n + 1) → 0 ≤ d → d < m → Q (.int d) H'
theorem pw {i j : Int} (b : Nat) (h0 : 0 ≤ j) (h : i.natAbs < 2 ^ b) (hb : 0 < b) (hm : (b : Int) * j ≤ 134217728) : CPowW i j := ⟨h0, b, h, hb, hm⟩
theorem upd_none {H : Hp} {j : Addr} {o : HO} : ∀ b, upd H j o b = none → H b = none := fun b h => by
  by_cases e : b = j
  · rw [e, upd_same] at h; cases h
  · rw [upd_ne e] at h; exact h

theorem ok__law_dip {f : Addr} {fd : FuncData}  (F : Fun K "_law_dip" "_law_dip" s__law_dip f fd) (B : Bl mg)  : FnOk P w K mg base CX0 1 f fd ["jar", "many"] (sp_dip) := by
  refine F.ok sc__law_dip (fun vs H Q E h => ?_) (fun cdv A outer s H vs Q E hr h => ?_)
  · obtain ⟨j, m, n, rfl, _⟩ := h; rfl
  · obtain ⟨j, m, n, rfl, ⟨x, y, z, hj, hx, hy, hy2, hz, hz2⟩, hn, hm, hm2, q⟩ := h
    have hmd : CDivW x m := wide_div (by omega) (abs_lt (by omega) hm2) (by decide) (by decide)
    have nd := sc__law_dip.nd
    refine ⟨_, (pss_cons (ps_if (pt_cmpR op_gt (pe_ix ix_list (pv 0) pe_int (fun _ _ => rfl)) pe_int (nomark _))
      (pss_cons (ps_set (i := 2) nd rfl (Or.inl rfl) (pe_op op_mod (pe_callTy call_int1 (by rfl) B.int (by decide +kernel) (pa_cons (pe_ix ix_list (pv 0) pe_int (fun _ _ => rfl)) pa_nil)) (pv 1)))
      (pss_cons (ps_asg (pe_op op_fdivW (pe_ix ix_list (pv 0) pe_int (fun _ _ => rfl)) (pv 1)) (pg_sub (pv 0) pe_int set_list))
      (pss_one (ps_ret (pv 2))))) pss_nil)
      (pss_cons (ps_asg (pe_op op_add (pe_ix ix_list (pv 0) pe_int (fun _ _ => rfl)) pe_int) (pg_sub (pv 0) pe_int set_list))
      (pss_cons (ps_set (i := 3) nd rfl (Or.inl rfl) (pe_op op_mod (pe_callTy call_int1 (by rfl) B.int (by decide +kernel) (pa_cons (pe_op op_powW (pe_op op_add (pe_ix ix_list (pv 0) pe_int (fun _ _ => rfl)) (pe_op op_mulW pe_int (pe_ix ix_list (pv 0) pe_int (fun _ _ => rfl)))) pe_int) pa_nil)) (pe_op op_add (pe_op op_powW pe_int pe_int) pe_int)))
      (pss_cons (ps_set (i := 3) nd rfl (Or.inl rfl) (pe_op op_mod (pe_callTy call_int1 (by rfl) B.int (by decide +kernel) (pa_cons (pe_op op_powW (pe_op op_add (pv 3) (pe_op op_mulW pe_int (pe_ix ix_list (pv 0) pe_int (fun _ _ => rfl)))) pe_int) pa_nil)) (pe_op op_add (pe_op op_powW pe_int pe_int) pe_int)))
      (pss_one (ps_ret (pe_op op_mod (pe_callTy call_int1 (by rfl) B.int (by decide +kernel) (pa_cons (pe_op op_fdivW (pv 3) pe_int) pa_nil)) (pv 1)))))))), ?_⟩
    refine ⟨.ref j, rfl, j, _, 0, .int x, rfl, rfl, SqL.of hj, rfl, x, 0, rfl, rfl, _, rfl, ite2 (fun _ => ?_) (fun _ => ?_)⟩
    · refine ⟨.ref j, rfl, j, _, 0, .int x, rfl, rfl, SqL.of hj, rfl, .inl ⟨x, rfl, .int m, rfl, x, m, rfl, rfl, by show (0 : Int) < m; omega, ?_⟩⟩
      refine ⟨.ref j, rfl, j, _, 0, .int x, rfl, rfl, SqL.of hj, rfl, .int m, rfl, x, m, rfl, rfl, hmd, .ref j, rfl, j, _, 0, 0, rfl, rfl, hj, rfl, ?_⟩
      refine ⟨.int (x % m), rfl, q _ _ (But.refl j H).upd upd_none ⟨x / m, y, z, upd_same, Int.ediv_nonneg hx (by omega), hy, hy2, hz, by omega⟩ (Int.emod_nonneg _ (by omega)) (Int.emod_lt_of_pos _ (by omega))⟩
    · refine ⟨.ref j, rfl, j, _, 2, .int z, rfl, rfl, SqL.of hj, rfl, z, 1, rfl, rfl, .ref j, rfl, j, _, 2, 2, rfl, rfl, hj, rfl, ?_⟩
      have hj2 : upd H j (.lst ([V.int x, V.int y, V.int z].set 2 (.int (z + 1)))) j = some (.lst [.int x, .int y, .int (z + 1)]) := upd_same
      have hz3 : (z + 1).natAbs < 2 ^ 21 := abs_lt (by omega) (by omega)
      have hb1 : (y + 60000049 * (z + 1)).natAbs < 2 ^ 161 := abs_lt (by omega) (by omega)
      refine ⟨.ref j, rfl, j, _, 1, .int y, rfl, rfl, SqL.of hj2, rfl, .ref j, rfl, j, _, 2, .int (z + 1), rfl, rfl, SqL.of hj2, rfl, 60000049, z + 1, rfl, rfl, wide_mul (a := 26) (b := 21) (by decide) hz3 (by decide) (by decide) (by decide), y, _, rfl, rfl, _, 3, rfl, rfl, pw 161 (by decide) hb1 (by decide) (by decide), .inl ⟨_, rfl, 10, 47, rfl, rfl, pw 4 (by decide) (by decide) (by decide) (by decide), _, 91, rfl, rfl, _, _, rfl, rfl, by show (0 : Int) < 10 ^ (47 : Int).toNat + 91; decide +kernel, ?_⟩⟩
      dsimp only
      generalize hm1 : (y + 60000049 * (z + 1)) ^ (3 : Int).toNat % (10 ^ (47 : Int).toNat + 91) = m1
      have p47 : (10 : Int) ^ (47 : Int).toNat + 91 < 2 ^ 160 := by decide +kernel
      have n47 : (0 : Int) < (10 : Int) ^ (47 : Int).toNat + 91 := by decide +kernel
      have m10 : 0 ≤ m1 := by rw [← hm1]; exact Int.emod_nonneg _ (by omega)
      have m11 : m1 < 2 ^ 160 := Int.lt_trans (by rw [← hm1]; exact Int.emod_lt_of_pos _ n47) p47
      have hb2 : (m1 + 35000021 * (z + 1)).natAbs < 2 ^ 161 := abs_lt (by omega) (by omega)
      refine ⟨.int m1, rfl, .ref j, rfl, j, _, 2, .int (z + 1), rfl, rfl, SqL.of hj2, rfl, 35000021, z + 1, rfl, rfl, wide_mul (a := 26) (b := 21) (by decide) hz3 (by decide) (by decide) (by decide), m1, _, rfl, rfl, _, 3, rfl, rfl, pw 161 (by decide) hb2 (by decide) (by decide), .inl ⟨_, rfl, 10, 46, rfl, rfl, pw 4 (by decide) (by decide) (by decide) (by decide), _, 79, rfl, rfl, _, _, rfl, rfl, by show (0 : Int) < 10 ^ (46 : Int).toNat + 79; decide +kernel, ?_⟩⟩
      refine ⟨_, rfl, _, 1073741827, rfl, rfl, wide_div (by decide) (b := 31) (by decide) (by decide) (by decide), .inl ⟨_, rfl, .int m, rfl, _, m, rfl, rfl, by show (0 : Int) < m; omega, ?_⟩⟩
      exact q _ _ (But.refl j H).upd upd_none ⟨x, y, z + 1, hj2, hx, hy, hy2, by omega, by omega⟩ (Int.emod_nonneg _ (by omega)) (Int.emod_lt_of_pos _ (by omega))

def sp_jar (K : PySem.W.Frag) : Sp := fun vs H Q _ => ∃ (s : Addr) (ns : List Int) (k : Nat), vs = [V.ref s, V.int k] ∧ SqL K H s (ns.map V.int) ∧ k ≤ 100 ∧ ∀ p H', Same H H' → H p = none → Jar H' p 0 → Q (.ref p) H'

end
end K09
end

section
set_option Elab.async false
set_option linter.all false
set_option maxRecDepth 100000
set_option maxHeartbeats 4000000
namespace K09
open PySem PySem.Spec PyProof.Rows L2 GxR Gx Ma
section
variable {P : Program} {w : World} {K : PySem.W.Frag} {mg : Str → Option Value} {base : Heap}

theorem n18 : (0 : Int) < 10 ^ (43 : Int).toNat + 57 := by decide +kernel
theorem jar_at {H : Hp} {p : Addr} (c : Int) (k : Nat) (hk : k ≤ 100) (x : Int) (hx : 0 ≤ x) : Jar (upd H p (.lst [.int x, .int (c % (10 ^ (43 : Int).toNat + 57) * 101 + 70001 * (k : Int)), .int 0])) p 0 := by
  have h1 : 0 ≤ c % (10 ^ (43 : Int).toNat + 57) := Int.emod_nonneg _ (by have := n18; omega)
  have h2 : c % (10 ^ (43 : Int).toNat + 57) < 10 ^ (43 : Int).toNat + 57 := Int.emod_lt_of_pos _ n18
  have h3 : ((10 : Int) ^ (43 : Int).toNat + 57) * 101 + 7000100 < 2 ^ 160 := by decide +kernel
  exact ⟨_, _, _, upd_same, hx, by omega, by omega, by omega, by omega⟩
theorem mod_small (c : Int) : (c % (10 ^ (43 : Int).toNat + 57)).natAbs < 2 ^ 150 := by
  have h1 : 0 ≤ c % (10 ^ (43 : Int).toNat + 57) := Int.emod_nonneg _ (by have := n18; omega)
  have h2 : c % (10 ^ (43 : Int).toNat + 57) < 10 ^ (43 : Int).toNat + 57 := Int.emod_lt_of_pos _ n18
  have h3 : (10 : Int) ^ (43 : Int).toNat + 57 < 2 ^ 150 := by decide +kernel
  exact abs_lt h1 (by omega)
theorem max_nn (x : Int) : (0 : Int) ≤ (if x > 0 then x else 0) := by split <;> omega

theorem ok__law_jar {f : Addr} {fd : FuncData}  (F : Fun K "_law_jar" "_law_jar" s__law_jar f fd) (B : Bl mg)  : FnOk P w K mg base CX0 1 f fd ["script", "k"] (sp_jar K) := by
  refine F.ok sc__law_jar (fun vs H Q E h => ?_) (fun cdv A outer s H vs Q E hr h => ?_)
  · obtain ⟨s0, ns, k, rfl, _⟩ := h; rfl
  · obtain ⟨s0, ns, k, rfl, hs, hk, q⟩ := h
    have nd := sc__law_jar.nd
    refine ⟨_, (pss_cons (ps_set (i := 2) nd rfl (Or.inl rfl) (pe_ifExp (pt_cmpR op_lt (pv 1) (pe_callB call_len_seq (by rfl) B.len PySem.boot_len (pa_cons (pv 0) pa_nil)) (nomark _)) (pe_callB call_abs (by rfl) B.abs (by decide +kernel) (pa_cons (pe_ix ix_list (pv 0) (pv 1) (fun _ _ => rfl)) pa_nil)) pe_int))
      (pss_one (ps_ret (pe_lst (pa_cons (pe_callB (call_max2 rfl) (by rfl) B.max (by decide +kernel) (pa_cons pe_int (pa_cons (pe_op op_sub (pv 2) (pe_op op_powW pe_int pe_int)) pa_nil))) (pa_cons (pe_op op_add (pe_op op_mulW (pe_op op_mod (pe_callTy call_int1 (by rfl) B.int (by decide +kernel) (pa_cons (pv 2) pa_nil)) (pe_op op_add (pe_op op_powW pe_int pe_int) pe_int)) pe_int) (pe_op op_mulW pe_int (pv 1))) (pa_cons pe_int pa_nil))))))), ?_⟩
    refine ⟨.int k, rfl, .ref s0, rfl, s0, _, rfl, .inl hs, k, _, rfl, rfl, _, rfl, ite2 (fun hlt => ?_) (fun _ => ?_)⟩
    · have hlt : k < ns.length := by
        have := of_decide_eq_true hlt
        rw [List.length_map] at this
        omega
      have hg := get_map (List.getElem?_eq_getElem hlt)
      refine ⟨.ref s0, rfl, .int k, rfl, s0, _, k, _, rfl, rfl, hs, atI_nat hg, _, rfl, ?_⟩
      refine ⟨_, rfl, 10, 18, rfl, rfl, pw 4 (by decide) (by decide) (by decide) (by decide), _, _, rfl, rfl, 0, _, rfl, ?_⟩
      refine ⟨_, rfl, .inl ⟨_, rfl, 10, 43, rfl, rfl, pw 4 (by decide) (by decide) (by decide) (by decide), _, 57, rfl, rfl, _, _, rfl, rfl, by show (0 : Int) < 10 ^ (43 : Int).toNat + 57; decide +kernel, _, 101, rfl, rfl, wide_mul (a := 150) (b := 7) (mod_small _) (by decide) (by decide) (by decide) (by decide), .int k, rfl, 70001, k, rfl, rfl, wide_mul (a := 17) (b := 7) (by decide) (by rw [Int.natAbs_natCast]; omega) (by decide) (by decide) (by decide), _, _, rfl, rfl, by show 3 ≤ 16777216; decide, fun p hp => ?_⟩⟩
      exact q p _ (same_new hp) hp (jar_at _ k hk _ (max_nn _))
    · refine ⟨_, rfl, 10, 18, rfl, rfl, pw 4 (by decide) (by decide) (by decide) (by decide), _, _, rfl, rfl, 0, _, rfl, ?_⟩
      refine ⟨_, rfl, .inl ⟨_, rfl, 10, 43, rfl, rfl, pw 4 (by decide) (by decide) (by decide) (by decide), _, 57, rfl, rfl, _, _, rfl, rfl, by show (0 : Int) < 10 ^ (43 : Int).toNat + 57; decide +kernel, _, 101, rfl, rfl, wide_mul (a := 150) (b := 7) (mod_small _) (by decide) (by decide) (by decide) (by decide), .int k, rfl, 70001, k, rfl, rfl, wide_mul (a := 17) (b := 7) (by decide) (by rw [Int.natAbs_natCast]; omega) (by decide) (by decide) (by decide), _, _, rfl, rfl, by show 3 ≤ 16777216; decide, fun p hp => ?_⟩⟩
      exact q p _ (same_new hp) hp (jar_at _ k hk _ (max_nn _))

def sp_lgcd : Sp := fun vs H Q _ => ∃ a b : Nat, vs = [V.int a, V.int b] ∧ Q (.int ((Nat.gcd a b : Nat) : Int)) H

theorem ok__law_gcd {f : Addr} {fd : FuncData}  (F : Fun K "_law_gcd" "_law_gcd" s__law_gcd f fd) (B : Bl mg)  : FnOk P w K mg base CX0 1 f fd ["one", "two"] (sp_lgcd) := by
  refine F.ok sc__law_gcd (fun vs H Q E h => ?_) (fun cdv A outer s H vs Q E hr h => ?_)
  · obtain ⟨a, b, rfl, _⟩ := h; rfl
  · obtain ⟨a, b, rfl, q⟩ := h
    have nd := sc__law_gcd.nd
    refine ⟨_, (pss_cons (ps_while PassesOwn.never (pt_cmpR op_ne (pv 1) pe_int (nomark _)) (pss_one (ps_par (i := 0) (j := 1) (by rfl) nd rfl rfl (by decide) rfl rfl (pa_cons (pv 1) (pa_cons (pe_op op_mod (pe_callTy call_int1 (by rfl) B.int (by decide +kernel) (pa_cons (pv 0) pa_nil)) (pv 1)) pa_nil)) (by rfl))))
      (pss_one (ps_ret (pe_callB call_abs (by rfl) B.abs (by decide +kernel) (pa_cons (pv 0) pa_nil))))), ?_⟩
    refine ⟨fun m σ H' => ∃ x y : Nat, σ = [some (.int x), some (.int y)] ∧ H' = H ∧ Nat.gcd x y = Nat.gcd a b ∧ m = y, ⟨b, a, b, rfl, rfl, rfl, rfl⟩, fun m σ H' hW => ?_⟩
    obtain ⟨x, y, rfl, rfl, e, rfl⟩ := hW
    refine ⟨.int (m : Int), rfl, rfl, _, rfl, ?_⟩
    by_cases hm : m = 0
    · subst hm
      refine iteNS rfl ⟨.int (x : Int), rfl, (x : Int), rfl, ?_⟩
      rw [if_neg (by omega)]
      rw [Nat.gcd_zero_right] at e
      rw [e]
      exact q
    · rw [decide_eq_false (show ¬ V.int (m : Int) = V.int 0 from fun z => hm (by have := V.int.inj z; omega))]
      refine iteT ⟨fun σ' H2 => ∃ m', m' < m ∧ ∃ x y : Nat, σ' = [some (.int x), some (.int y)] ∧ H2 = H' ∧ Nat.gcd x y = Nat.gcd a b ∧ m' = y, fun σ' H2 h => h, ?_⟩
      refine ⟨.int (m : Int), rfl, .int (x : Int), rfl, .inl ⟨(x : Int), rfl, .int (m : Int), rfl, (x : Int), (m : Int), rfl, rfl, by show (0 : Int) < m; omega, _, _, rfl, x % m, Nat.mod_lt _ (by omega), m, x % m, ?_, rfl, ?_, rfl⟩⟩
      · show [some (V.int (m : Int)), some (V.int ((x : Int) % (m : Int)))] = _
        rw [← Int.natCast_emod]
      · rw [Nat.gcd_comm, ← Nat.gcd_rec m x, Nat.gcd_comm]
        exact e

theorem ok__law_plain {f : Addr} {fd : FuncData}  (F : Fun K "_law_plain" "_law_plain" s__law_plain f fd) (B : Bl mg) (C__law_gcd : Cal P w K mg base 1 "_law_gcd" ["one", "two"] sp_lgcd) : FnOk P w K mg base CX0 2 f fd ["numbers_here"] (sp_without_divisor) := by
  refine F.ok sc__law_plain (fun vs H Q E h => ?_) (fun cdv A outer s H vs Q E hr h => ?_)
  · obtain ⟨l, ns, rfl, _⟩ := h; rfl
  · obtain ⟨l, ns, rfl, hl, ha, hz, hg, q⟩ := h
    have nd := sc__law_plain.nd
    refine ⟨_, (pss_cons (ps_set (i := 1) nd rfl (Or.inr rfl) pe_int)
      (pss_cons (ps_for PassesOwn.never rfl (pi_list (pv 0)) (pg_name (i := 2) nd rfl (Or.inl rfl)) (pss_one (ps_set (i := 1) nd rfl (Or.inr rfl) (pe_cal C__law_gcd (hr.mono (by decide)) (pa_cons (pv 1) (pa_cons (pv 2) pa_nil))))))
      (pss_one (ps_ret (pe_lc (own := [("number_here", 2)]) (g := gName 2) rfl nd (pi_list (pv 0)) (blkOk_by (own := [("number_here", 2)]) (N := ["numbers_here", "divisor", "number_here"]) (sc := defScope s__law_plain) (by decide +kernel)) (fun _ _ _ _ _ => (pg_name (i := 2) nd rfl (Or.inl rfl))) (fun _ _ _ _ _ => pts_nil) (fun _ _ _ _ _ => (pe_op op_fdivW (pv 2) (pv 1)))))))), ?_⟩
    refine ⟨.ref l, rfl, l, rfl, ⟨_, SqL.of hl⟩, for_list (xs := ns.map V.int) (fun i σ H' => ∃ y, σ = [some (.ref l), some (.int ((gcdN (ns.take i) : Nat) : Int)), y] ∧ H' = H) ⟨none, rfl, rfl⟩ (fun i σ H' _ ⟨_, _, e⟩ => by rw [e]; exact SqL.of hl) (fun i x σ H' hx ⟨y, e1, e2⟩ => ?_) (fun σ H' ⟨y, e1, e2⟩ => ?_)⟩
    · subst e1 e2
      obtain ⟨n, hn, rfl⟩ := map_get hx
      have hn0 := ha.nn n (List.mem_of_getElem? hn)
      refine ⟨.int ((gcdN (ns.take i) : Nat) : Int), rfl, .int n, rfl, gcdN (ns.take i), n.natAbs, ?_, some (.int n), ?_, rfl⟩
      · rw [Int.natAbs_of_nonneg hn0]
        rfl
      · rw [gcdN_take hn]
        rfl
    · subst e1 e2
      rw [List.length_map, List.take_length]
      refine ⟨.ref l, rfl, l, rfl, ⟨_, SqL.of hl⟩, fun D hD => lc_list (xs := ns.map V.int) (fun i H2 => Same H' H2 ∧ H2 D = some (.lst (((Ma.plain ns).take i).map V.int))) ⟨same_new hD, upd_same⟩ (fun i H2 _ ⟨e, _⟩ => SqL.of (e l _ hl)) (fun i x H2 hx ⟨e1, e2⟩ => ?_) (fun H2 ⟨e1, e2⟩ => ?_)⟩
      · obtain ⟨n, hn, rfl⟩ := map_get hx
        have hpos := gcdN_pos ha
        refine ⟨rfl, .int n, rfl, .int ((gcdN ns : Nat) : Int), rfl, n, _, rfl, rfl, wide_div (by omega) (b := 8000) (by rw [Int.natAbs_natCast]; exact hg) (by decide) (by decide), _, e2, ?_, fun b x hb => ?_, ?_⟩
        · rw [List.length_map, List.length_take]
          have := plain_len ns
          show min i (Ma.plain ns).length < 16777216
          omega
        · rw [upd_ne (ne_of_none hb hD)]
          exact e1 b x hb
        · have hp : (Ma.plain ns)[i]? = some (n / ((gcdN ns : Nat) : Int)) := by
            unfold Ma.plain
            rw [List.getElem?_map, hn]
            rfl
          rw [upd_same, List.take_add_one, hp, List.map_append]
          rfl
      · rw [List.length_map, ← plain_len ns, List.take_length] at e2
        exact q D H2 e1 hD e2

def sp_lpart : Sp := fun vs H Q _ => ∃ a b : Int, vs = [V.int a, V.int b] ∧ 0 ≤ a ∧ 0 < b ∧ b < 2 ^ 8000 ∧ ∀ p H', Same H H' → H p = none → H' p = some (.tup [.int (fr a b).1, .int (fr a b).2]) → Q (.ref p) H'

theorem ok__law_part {f : Addr} {fd : FuncData}  (F : Fun K "_law_part" "_law_part" s__law_part f fd) (B : Bl mg) (C__law_gcd : Cal P w K mg base 1 "_law_gcd" ["one", "two"] sp_lgcd) : FnOk P w K mg base CX0 2 f fd ["top", "bottom"] (sp_lpart) := by
  refine F.ok sc__law_part (fun vs H Q E h => ?_) (fun cdv A outer s H vs Q E hr h => ?_)
  · obtain ⟨a, b, rfl, _⟩ := h; rfl
  · obtain ⟨a, b, rfl, ha, hb, hz, q⟩ := h
    obtain ⟨g1, g2⟩ := fr_gcd (n := a) hb hz
    have nd := sc__law_part.nd
    refine ⟨_, (pss_cons (ps_set (i := 2) nd rfl (Or.inl rfl) (pe_cal C__law_gcd (hr.mono (by decide)) (pa_cons (pv 0) (pa_cons (pv 1) pa_nil))))
      (pss_one (ps_ret (pe_tup (pa_cons (pe_op op_fdivW (pv 0) (pv 2)) (pa_cons (pe_op op_fdivW (pv 1) (pv 2)) pa_nil)))))), ?_⟩
    refine ⟨.int a, rfl, .int b, rfl, a.natAbs, b.natAbs, ?_, ?_⟩
    · rw [Int.natAbs_of_nonneg ha, Int.natAbs_of_nonneg (show 0 ≤ b by omega)]
      rfl
    · refine ⟨.int a, rfl, _, rfl, a, _, rfl, rfl, wide_div g1 g2 (by decide) (by decide), .int b, rfl, _, rfl, b, _, rfl, rfl, wide_div g1 g2 (by decide) (by decide), by show 2 ≤ 16777216; decide, fun p hp => ?_⟩
      exact q p _ (same_new hp) hp upd_same

end
end K09
end

section
set_option Elab.async false
set_option linter.all false
set_option maxRecDepth 100000
set_option maxHeartbeats 4000000
namespace K09
open PySem PySem.Spec PyProof.Rows L2 GxR Gx Ma
section
variable {P : Program} {w : World} {K : PySem.W.Frag} {mg : Str → Option Value} {base : Heap}

theorem step_small {ns : List Int} {a b : Int} {c : Nat} (hc : Con ns) (k : Kep a b) (hcl : c < ns.length) (hz : ns.sum < 2 ^ 7900) : gcdN (pre ns a b c) < 2 ^ 8000 := by
  have ha := pre_amt hc k hcl
  have hs := hc.amt.pos
  have h1 := gcd_le_sum ha
  rw [pre_sum hcl] at h1
  have h2 : b * ns.sum ≤ 100 * ns.sum := Int.mul_le_mul_of_nonneg_right k.b100 (by omega)
  have h3 : (100 : Int) * ns.sum < 2 ^ 8000 := by
    have e : (2 : Int) ^ 8000 = 2 ^ 100 * 2 ^ 7900 := by rw [← Int.pow_add]
    have h4 : (2 : Int) ^ 7 * 2 ^ 7900 ≤ 2 ^ 100 * 2 ^ 7900 := Int.mul_le_mul_of_nonneg_right (pow_le_of (by decide)) (Int.le_of_lt (Int.pow_pos (by decide)))
    have h5 : (128 : Int) * ns.sum ≤ 2 ^ 7 * 2 ^ 7900 := Int.mul_le_mul_of_nonneg_left (Int.le_of_lt hz) (by decide)
    omega
  have h6 := abs_lt (n := ((gcdN (pre ns a b c) : Nat) : Int)) (by omega) (Int.lt_of_le_of_lt (Int.le_trans h1 h2) h3)
  rw [Int.natAbs_natCast] at h6
  exact h6
def sp_lstep : Sp := fun vs H Q _ => ∃ (l : Addr) (ns : List Int) (a b : Int) (c : Nat), vs = [V.ref l, V.int a, V.int b, V.int c] ∧ LI H l ns ∧ Con ns ∧ Kep a b ∧ c < ns.length ∧ ns.sum < 2 ^ 7900 ∧ ∀ p H', Same H H' → H p = none → LI H' p (step ns a b c) → Q (.ref p) H'

theorem ok__law_step {f : Addr} {fd : FuncData}  (F : Fun K "_law_step" "_law_step" s__law_step f fd) (B : Bl mg) (C__law_plain : Cal P w K mg base 2 "_law_plain" ["numbers_here"] sp_without_divisor) : FnOk P w K mg base CX0 3 f fd ["numbers_here", "stays", "whole", "spot"] (sp_lstep) := by
  refine F.ok sc__law_step (fun vs H Q E h => ?_) (fun cdv A outer s H vs Q E hr h => ?_)
  · obtain ⟨l, ns, a, b, c, rfl, _⟩ := h; rfl
  · obtain ⟨l, ns, a, b, c, rfl, hl, hc, k, hcl, hz, q⟩ := h
    have hs := hc.amt.pos
    have k1 := k.a1
    have k2 := k.ab
    have k3 := k.b100
    have nd := sc__law_step.nd
    refine ⟨_, (pss_cons (ps_set (i := 4) nd rfl (Or.inl rfl) (pe_op op_mulW (pe_op op_sub (pv 2) (pv 1)) (pe_callB (cr_sum rfl) (by rfl) B.sum (by decide +kernel) (pa_cons (pv 0) pa_nil))))
      (pss_cons (ps_setLc (i := 5) (own := [("part", 6)]) (g := gName 6) rfl nd rfl rfl (sw_true rfl rfl rfl (by decide +kernel)) (pi_list (pv 0)) (blkOk_by (own := [("part", 6)]) (N := ["numbers_here", "stays", "whole", "spot", "poured", "found", "part"]) (sc := defScope s__law_step) (by decide +kernel)) (fun _ _ _ _ _ => (pg_name (i := 6) nd rfl (Or.inl rfl))) (fun _ _ _ _ _ => pts_nil) (fun _ _ _ _ _ => (pe_op op_mulW (pv 1) (pv 6))))
      (pss_cons (ps_asg (pe_op op_add (pe_ix ix_list (pv 5) (pv 3) (fun _ _ => rfl)) (pv 4)) (pg_sub (pv 5) (pv 3) set_list))
      (pss_one (ps_ret (pe_cal C__law_plain (hr.mono (by decide)) (pa_cons (pv 5) pa_nil))))))), ?_⟩
    have hba : (b - a).natAbs < 2 ^ 7 := abs_lt (by omega) (by omega)
    refine ⟨.int b, rfl, .int a, rfl, b, a, rfl, rfl, .ref l, rfl, l, ns, rfl, SqL.of hl, b - a, ns.sum, rfl, rfl, wide_mul (a := 7) (b := 7900) hba (abs_lt (by omega) hz) (by decide) (by decide) (by decide), ?_⟩
    refine ⟨.ref l, rfl, l, rfl, ⟨_, SqL.of hl⟩, fun D hD => lc_list (xs := ns.map V.int) (fun i H' => Same H H' ∧ H' D = some (.lst (((ns.map fun n => n * a).take i).map V.int))) ⟨same_new hD, upd_same⟩ (fun i H' _ ⟨e, _⟩ => SqL.of (e l _ hl)) (fun i x H' hx ⟨e1, e2⟩ => ?_) (fun H' ⟨e1, e2⟩ => ?_)⟩
    · obtain ⟨n, hn, rfl⟩ := map_get hx
      have hm := List.mem_of_getElem? hn
      have hn0 := hc.nn n hm
      have hn1 := le_sum hc.nn hm
      refine ⟨rfl, .int a, rfl, .int n, rfl, a, n, rfl, rfl, wide_mul (a := 7) (b := 7900) (abs_lt (by omega) (by omega)) (abs_lt hn0 (Int.lt_of_le_of_lt hn1 hz)) (by decide) (by decide) (by decide), _, e2, ?_, fun b x hb => ?_, ?_⟩
      · have := hc.le8
        rw [List.length_map, List.length_take, List.length_map]
        show min i ns.length < 16777216
        omega
      · rw [upd_ne (ne_of_none hb hD)]
        exact e1 b x hb
      · have hp : (ns.map fun n => n * a)[i]? = some (n * a) := by
          rw [List.getElem?_map, hn]
          rfl
        rw [upd_same, List.take_add_one, hp, List.map_append, Int.mul_comm n a]
        rfl
    · have e2 : LI H' D (ns.map fun n => n * a) := by
        show H' D = _
        rw [e2, List.length_map, List.take_of_length_le (by rw [List.length_map]; exact Nat.le_refl _)]
      have hcm : (ns.map fun n => n * a)[c]? = some (ns.getD c 0 * a) := by
        rw [List.getElem?_map, List.getD_eq_getElem?_getD, List.getElem?_eq_getElem hcl]
        rfl
      refine ⟨.ref D, rfl, .int c, rfl, D, _, c, .int (ns.getD c 0 * a), rfl, rfl, SqL.of e2, atI_nat (get_map hcm), .int ((b - a) * ns.sum), rfl, _, _, rfl, rfl, .ref D, rfl, .int c, rfl, D, _, c, c, rfl, rfl, e2, ixN_of (by rw [List.length_map, List.length_map]; exact hcl), ?_⟩
      have e3 : upd H' D (.lst (((ns.map fun n => n * a).map V.int).set c (.int (ns.getD c 0 * a + (b - a) * ns.sum)))) D = some (.lst ((pre ns a b c).map V.int)) := by
        rw [upd_same]
        unfold pre
        rw [List.map_set]
      refine ⟨.ref D, rfl, D, pre ns a b c, rfl, e3, pre_amt hc k hcl, ?_, step_small hc k hcl hz, fun p H2 s2 np e4 => ?_⟩
      · rw [pre_len]
        have := hc.le8
        omega
      · refine q p H2 (fun x u hx => s2 x u ?_) (Same.free (fun x u hx => ?_) np) e4
        · rw [upd_ne (ne_of_none hx hD)]
          exact e1 x u hx
        · rw [upd_ne (ne_of_none hx hD)]
          exact e1 x u hx

def sp_lwalk : Sp := fun vs H Q _ => ∃ l t r ns a b cs, vs = [V.ref l, V.ref t, V.ref r] ∧ LI H l ns ∧ H t = some (.tup [.int a, .int b]) ∧ LI H r (rowI cs) ∧ Row1 ns a b cs ∧ ns.sum < 2 ^ 7000 ∧ ∀ p ps H', Same H H' → Rows H H' p ps (cs.length + 1) (ctn1 ns a b cs) → Q (.ref p) H'
theorem rep_getD {a b : Int} {n i : Nat} (h : i < n) : (List.replicate n (a, b)).getD i (1, 2) = (a, b) := by
  rw [List.getD_eq_getElem?_getD, List.getElem?_replicate, if_pos h]
  rfl

theorem ok__law_walk {f : Addr} {fd : FuncData}  (F : Fun K "_law_walk" "_law_walk" s__law_walk f fd) (B : Bl mg) (C__law_step : Cal P w K mg base 3 "_law_step" ["numbers_here", "stays", "whole", "spot"] sp_lstep) : FnOk P w K mg base CX0 4 f fd ["numbers_here", "share_here", "spots"] (sp_lwalk) := by
  refine F.ok sc__law_walk (fun vs H Q E h => ?_) (fun cdv A outer s H vs Q E hr h => ?_)
  · obtain ⟨l, t, r, ns, a, b, cs, rfl, _⟩ := h; rfl
  · obtain ⟨l, t, r, ns, a, b, cs, rfl, hl, ht, hr2, R, hz, q⟩ := h
    have h60 := R.c60
    have RY := R.y
    have nd := sc__law_walk.nd
    refine ⟨_, (pss_cons (ps_set (i := 3) nd rfl (Or.inl rfl) (pe_lst (pa_cons (pe_callTy call_list_of (by rfl) B.list (by decide +kernel) (pa_cons (pv 0) pa_nil)) pa_nil)))
      (pss_cons (ps_for PassesOwn.never rfl (pi_list (pv 2)) (pg_name (i := 4) nd rfl (Or.inl rfl)) (pss_one (ps_expr (pe_bm PySem.F.plainAttrs_list PySem.F.slot_list_append PySem.F.type_list_append mt_append (pv 3) (pa_cons (pe_cal C__law_step (hr.mono (by decide)) (pa_cons (pe_ix ix_list (pv 3) (pe_un un_neg pe_int) (fun _ _ => rfl)) (pa_cons (pe_ix ix_tup (pv 1) pe_int (fun _ _ => rfl)) (pa_cons (pe_ix ix_tup (pv 1) pe_int (fun _ _ => rfl)) (pa_cons (pv 4) pa_nil))))) pa_nil)))))
      (pss_one (ps_ret (pv 3))))), ?_⟩
    refine ⟨.ref l, rfl, l, _, rfl, .inl (SqL.of hl), fun o no => ?_⟩
    have s1 : Same H (upd H o (.lst (ns.map V.int))) := same_new no
    refine ⟨by show 1 ≤ 16777216; decide, fun C nC => ?_⟩
    have s2 : Same (upd H o (.lst (ns.map V.int))) (upd (upd H o (.lst (ns.map V.int))) C (.lst [.ref o])) := same_new nC
    have noC : o ≠ C := fun e => by rw [← e, upd_same] at nC; cases nC
    have h0 : Rows H (upd (upd H o (.lst (ns.map V.int))) C (.lst [.ref o])) C [o] 1 (ctn1 ns a b cs) := by
      refine ⟨upd_same, rfl, fun i a ha => ?_, fun a ha => ?_, by simp, fun z => noC (List.mem_singleton.mp z).symm, s1.free nC⟩
      · cases i with
        | zero =>
          have e : o = a := Option.some.inj ha
          rw [← e]
          show upd _ C _ o = _
          rw [upd_ne noC, upd_same]
          rfl
        | succ i => simp at ha
      · rw [List.mem_singleton.mp ha]
        exact no
    refine ⟨.ref r, rfl, r, rfl, ⟨_, SqL.of (s2 _ _ (s1 _ _ hr2))⟩, for_list (xs := (rowI cs).map V.int) (fun i σ H' => ∃ y4 ps, σ = [some (.ref l), some (.ref t), some (.ref r), some (.ref C), y4] ∧ i ≤ cs.length ∧ Same H H' ∧ Rows H H' C ps (i + 1) (ctn1 ns a b cs))
      ⟨none, [o], rfl, Nat.zero_le _, s1.trans s2, h0⟩ (fun i σ H' _ ⟨_, _, _, _, e, _⟩ => SqL.of (e _ _ hr2)) (fun i y σ H' hy hP => ?_) (fun σ H' hP => ?_)⟩
    · obtain ⟨y4, ps, rfl, hi, e, RR⟩ := hP
      obtain ⟨hic, rfl⟩ := rowI_get hy
      obtain ⟨x, ea, la, _⟩ := RR.last
      have ht' := e _ _ ht
      refine ⟨.ref C, rfl, .inl ⟨rfl, _, SqL.of RR.at_⟩, ?_⟩
      refine ⟨.ref C, rfl, 1, rfl, C, _, -1, _, rfl, rfl, SqL.of RR.at_, ea, .ref t, rfl, t, _, 0, .int a, rfl, rfl, SqT.of ht', rfl, .ref t, rfl, t, _, 1, .int b, rfl, rfl, SqT.of ht', rfl, .int ((cs.getD i 0 : Nat) : Int), rfl, ?_⟩
      have e1 : ctn1 ns a b cs (i + 1) = step (ctn1 ns a b cs i) a b (cs.getD i 0) := by
        show Ma.step _ _ _ _ = _
        rw [rep_getD hic]
        rfl
      refine ⟨x, ctn1 ns a b cs i, a, b, cs.getD i 0, rfl, la, ctn_con RY i hi, R.kep, ?_, ?_, fun p H2 s3 np lp => ?_⟩
      · show _ < (ctn ns _ cs i).length
        rw [ctn_len]
        exact R.liq _ (getD_mem hic)
      · exact Int.lt_of_lt_of_le (ctn_small RY i hi hz) (pow_le_of (by decide))
      · rw [← e1] at lp
        refine ⟨C, _, _, rfl, rfl, s3 _ _ RR.at_, ?_, ?_⟩
        · rw [List.length_map, RR.len]
          show i + 1 < 16777216
          omega
        · exact ⟨some (.int ((cs.getD i 0 : Nat) : Int)), ps ++ [p], rfl, hic, same_upd_new (e.trans s3) RR.pnew, RR.grow e s3 np lp⟩
    · obtain ⟨y4, ps, rfl, hi, e, RR⟩ := hP
      have el : ((rowI cs).map V.int).length = cs.length := by unfold rowI; rw [List.length_map, List.length_map]
      rw [el] at RR
      exact ⟨.ref C, rfl, q C ps H' e RR⟩

theorem pur_get (k s i : Nat) (h : i < k) : (pur k s)[i]? = some (if i = s then 1 else 0) := by
  unfold pur
  rw [List.getElem?_set]
  by_cases e : s = i
  · rw [if_pos e, if_pos (by rw [List.length_replicate]; omega), if_pos e.symm]
  · rw [if_neg e, if_neg (fun z => e z.symm), List.getElem?_replicate, if_pos h]
theorem pur_len (k s : Nat) : (pur k s).length = k := by unfold pur; rw [List.length_set, List.length_replicate]
def sp_lpure : Sp := fun vs H Q _ => ∃ k i : Nat, vs = [V.int k, V.int i] ∧ k ≤ 8 ∧ ∀ p H', Same H H' → H p = none → LI H' p (pur k i) → Q (.ref p) H'

theorem ok__law_pure {f : Addr} {fd : FuncData}  (F : Fun K "_law_pure" "_law_pure" s__law_pure f fd) (B : Bl mg)  : FnOk P w K mg base CX0 1 f fd ["many", "spot"] (sp_lpure) := by
  refine F.ok sc__law_pure (fun vs H Q E h => ?_) (fun cdv A outer s H vs Q E hr h => ?_)
  · obtain ⟨k, i, rfl, _⟩ := h; rfl
  · obtain ⟨k, i, rfl, hk, q⟩ := h
    have nd := sc__law_pure.nd
    refine ⟨_, (pss_one (ps_ret (pe_lc (own := [("here", 2)]) (g := gName 2) rfl nd (pi_range1 rfl B.range (pa_cons (pv 0) pa_nil)) (blkOk_by (own := [("here", 2)]) (N := ["many", "spot", "here"]) (sc := defScope s__law_pure) (by decide +kernel)) (fun _ _ _ _ _ => (pg_name (i := 2) nd rfl (Or.inl rfl))) (fun _ _ _ _ _ => pts_nil) (fun _ _ _ _ _ => (pe_callTy call_int1 (by rfl) B.int (by decide +kernel) (pa_cons (pe_cmpR op_eq (pv 2) (pv 1) (nomark _)) pa_nil)))))), ?_⟩
    refine ⟨.int k, rfl, k, rfl, by omega, by omega, fun D hD => lc_range (lo := 0) (n := (k : Int).toNat) (fun j H' => Same H H' ∧ H' D = some (.lst (((pur k i).take j).map V.int))) ⟨same_new hD, upd_same⟩ (fun j H' hj ⟨e1, e2⟩ => ?_) (fun H' ⟨e1, e2⟩ => ?_)⟩
    · have hj : j < k := by omega
      refine ⟨rfl, .int (0 + (j : Int)), rfl, .int i, rfl, rfl, .inr ⟨_, rfl, _, e2, ?_, fun b x hb => ?_, ?_⟩⟩
      · rw [List.length_map, List.length_take, pur_len]
        show min j k < 16777216
        omega
      · rw [upd_ne (ne_of_none hb hD)]
        exact e1 b x hb
      · rw [upd_same, List.take_add_one, pur_get k i j hj, List.map_append]
        have e : (if decide (V.int (0 + (j : Int)) = V.int i) = true then (1 : Int) else 0) = if j = i then 1 else 0 := by
          by_cases z : j = i
          · rw [if_pos z, z, Int.zero_add, decide_eq_true rfl]
            rfl
          · rw [if_neg z, decide_eq_false (fun y => z (by have := V.int.inj y; omega))]
            rfl
        rw [e]
        rfl
    · have e3 : (k : Int).toNat = (pur k i).length := by rw [pur_len, Int.toNat_natCast]
      rw [e3, List.take_length] at e2
      exact q D H' e1 hD e2

end
end K09
end

section
set_option Elab.async false
set_option linter.all false
set_option maxRecDepth 100000
set_option maxHeartbeats 4000000
namespace K09
open PySem PySem.Spec PyProof.Rows L2 GxR Gx Ma
section
variable {P : Program} {w : World} {K : PySem.W.Frag} {mg : Str → Option Value} {base : Heap}

def sp_lspots : Sp := fun vs H Q _ => ∃ (j : Addr) (n k z : Nat), vs = [V.ref j, V.int k, V.int z] ∧ Jar H j n ∧ n + z ≤ 900000 ∧ 1 ≤ k ∧ k ≤ 8 ∧ z ≤ 60 ∧ ∀ p cs H', But j H H' → (∀ b, H' b = none → H b = none) → H p = none → Jar H' j (n + z) → LI H' p (rowI cs) → cs.length = z → (∀ c ∈ cs, c < k) → Q (.ref p) H'
theorem But.fresh {j D : Addr} {H H' : Hp} {o : HO} (e : But j H H') (h : H D = none) : But j H (L2.upd H' D o) := fun b x n hb => by
  rw [L2.upd_ne (ne_of_none hb h)]
  exact e b x n hb
theorem two_le {n k : Nat} (h : n ≤ k) : (2 : Int) ^ n ≤ 2 ^ k := pow_le_of h
theorem small8000 {m : Int} (h : m < 2 ^ 200) : m < 2 ^ 8000 := Int.lt_of_lt_of_le h (two_le (by decide))
theorem rowI_app (cs : List Nat) (c : Nat) : (rowI (cs ++ [c])).map V.int = (rowI cs).map V.int ++ [.int (c : Int)] := by
  unfold rowI
  rw [List.map_append, List.map_append]
  rfl

theorem ok__law_spots {f : Addr} {fd : FuncData}  (F : Fun K "_law_spots" "_law_spots" s__law_spots f fd) (B : Bl mg) (C__law_dip : Cal P w K mg base 1 "_law_dip" ["jar", "many"] sp_dip) : FnOk P w K mg base CX0 2 f fd ["jar", "many", "size"] (sp_lspots) := by
  refine F.ok sc__law_spots (fun vs H Q E h => ?_) (fun cdv A outer s H vs Q E hr h => ?_)
  · obtain ⟨j, n, k, z, rfl, _⟩ := h; rfl
  · obtain ⟨j, n, k, z, rfl, hj, hn, hk, hk8, hz, q⟩ := h
    have nd := sc__law_spots.nd
    refine ⟨_, (pss_one (ps_ret (pe_lc (own := [("turn", 3)]) (g := gName 3) rfl nd (pi_range1 rfl B.range (pa_cons (pv 2) pa_nil)) (blkOk_by (own := [("turn", 3)]) (N := ["jar", "many", "size", "turn"]) (sc := defScope s__law_spots) (by decide +kernel)) (fun _ _ _ _ _ => (pg_name (i := 3) nd rfl (Or.inl rfl))) (fun _ _ _ _ _ => pts_nil) (fun _ _ _ _ _ => (pe_cal C__law_dip (hr.mono (by decide)) (pa_cons (pv 0) (pa_cons (pv 1) pa_nil))))))), ?_⟩
    refine ⟨.int z, rfl, z, rfl, by omega, by omega, fun D hD => ?_⟩
    have hDj : D ≠ j := hj.ne hD
    refine lc_range (lo := 0) (n := (z : Int).toNat) (fun i H' => ∃ cs : List Nat, cs.length = i ∧ (∀ c ∈ cs, c < k) ∧ But j H H' ∧ (∀ b, H' b = none → H b = none) ∧ Jar H' j (n + i) ∧ H' D = some (.lst ((rowI cs).map V.int)))
      ⟨[], rfl, fun c hc => (by cases hc), But.of (same_new hD), upd_none, hj.keep (same_new hD), upd_same⟩ (fun i H' hi ⟨cs, e1, e2, e3, e4, e5, e6⟩ => ?_) (fun H' ⟨cs, e1, e2, e3, e4, e5, e6⟩ => ?_)
    · refine ⟨rfl, .ref j, rfl, .int k, rfl, j, k, n + i, rfl, e5, by omega, by omega, small8000 (by omega), fun d H2 b1 b2 j2 d0 d1 => ⟨_, b1 D _ hDj e6, ?_, cs ++ [d.toNat], ?_, fun c hc => ?_, (e3.trans b1).fresh hD, fun b hb => ?_, ?_, ?_⟩⟩
      · unfold rowI
        rw [List.length_map, List.length_map, e1]
        show i < 16777216
        omega
      · rw [List.length_append, e1]
        rfl
      · rcases List.mem_append.mp hc with y | y
        · exact e2 c y
        · rw [List.mem_singleton.mp y]
          omega
      · exact e4 b (b2 b (upd_none b hb))
      · obtain ⟨x1, x2, x3, y1, y2⟩ := j2
        exact ⟨x1, x2, x3, by rw [upd_ne (fun e => hDj e.symm)]; exact y1, y2⟩
      · rw [upd_same, rowI_app, Int.toNat_of_nonneg d0]
    · have e : (z : Int).toNat = z := Int.toNat_natCast z
      rw [e] at e1 e5
      exact q D cs H' e3 e4 hD e5 e6 e1 e2

theorem fr_kep {s w : Int} (h1 : 1 ≤ s) (h2 : s < w) (h3 : w ≤ 100) : Kep (fr s w).1 (fr s w).2 := by
  obtain ⟨a, rfl⟩ := Int.eq_ofNat_of_zero_le (show 0 ≤ s by omega)
  obtain ⟨b, rfl⟩ := Int.eq_ofNat_of_zero_le (show 0 ≤ w by omega)
  have hg : 0 < Nat.gcd a b := Nat.gcd_pos_of_pos_left b (by omega)
  have e1 : (fr (a : Int) (b : Int)).1 = ((a / Nat.gcd a b : Nat) : Int) := by
    show (a : Int) / ((Nat.gcd (a : Int).natAbs (b : Int).natAbs : Nat) : Int) = _
    rw [Int.natAbs_natCast, Int.natAbs_natCast, Int.natCast_ediv]
  have e2 : (fr (a : Int) (b : Int)).2 = ((b / Nat.gcd a b : Nat) : Int) := by
    show (b : Int) / ((Nat.gcd (a : Int).natAbs (b : Int).natAbs : Nat) : Int) = _
    rw [Int.natAbs_natCast, Int.natAbs_natCast, Int.natCast_ediv]
  rw [e1, e2]
  have q1 := Nat.div_mul_cancel (Nat.gcd_dvd_left a b)
  have q2 := Nat.div_mul_cancel (Nat.gcd_dvd_right a b)
  have q3 : Nat.gcd (a / Nat.gcd a b) (b / Nat.gcd a b) = 1 := by rw [Nat.gcd_div (Nat.gcd_dvd_left a b) (Nat.gcd_dvd_right a b), Nat.div_self hg]
  have p3 : b / Nat.gcd a b ≤ b := Nat.div_le_self _ _
  generalize a / Nat.gcd a b = x at *
  generalize b / Nat.gcd a b = y at *
  generalize Nat.gcd a b = g at *
  have p1 : x ≠ 0 := fun z => by rw [z, Nat.zero_mul] at q1; omega
  have p2 : x < y := Nat.lt_of_not_le fun z => by
    have := Nat.mul_le_mul_right g z
    omega
  refine ⟨by omega, by omega, by omega, ?_⟩
  rw [Int.natAbs_natCast, Int.natAbs_natCast]
  exact q3
def sp_lshare : Sp := fun vs H Q _ => ∃ (j : Addr) (n : Nat), vs = [V.ref j] ∧ Jar H j n ∧ n ≤ 900000 ∧ ∀ t a b H', But j H H' → (∀ x, H' x = none → H x = none) → H t = none → Jar H' j (n + 4) → H' t = some (.tup [.int a, .int b]) → Kep a b → Q (.ref t) H'
theorem Jar.put {H : Hp} {j p : Addr} {n : Nat} {o : HO} (h : Jar H j n) (hp : H p = none) : Jar (L2.upd H p o) j n := h.keep (same_new hp)

theorem ok__law_share {f : Addr} {fd : FuncData}  (F : Fun K "_law_share" "_law_share" s__law_share f fd) (B : Bl mg) (C__law_dip : Cal P w K mg base 1 "_law_dip" ["jar", "many"] sp_dip) (C__law_part : Cal P w K mg base 2 "_law_part" ["top", "bottom"] sp_lpart) : FnOk P w K mg base CX0 3 f fd ["jar"] (sp_lshare) := by
  refine F.ok sc__law_share (fun vs H Q E h => ?_) (fun cdv A outer s H vs Q E hr h => ?_)
  · obtain ⟨j, n, rfl, _⟩ := h; rfl
  · obtain ⟨j, n, rfl, hj, hn, q⟩ := h
    have nd := sc__law_share.nd
    refine ⟨_, (pss_cons (ps_set (i := 1) nd rfl (Or.inl rfl) (pe_cal C__law_dip (hr.mono (by decide)) (pa_cons (pv 0) (pa_cons pe_int pa_nil))))
      (pss_cons (ps_if (pt_cmpR op_eq (pv 1) pe_int (nomark _))
      (pss_one (ps_ret (pe_ix ix_list (pe_lst (pa_cons (pe_tup (pa_cons pe_int (pa_cons pe_int pa_nil))) (pa_cons (pe_tup (pa_cons pe_int (pa_cons pe_int pa_nil))) (pa_cons (pe_tup (pa_cons pe_int (pa_cons pe_int pa_nil))) (pa_cons (pe_tup (pa_cons pe_int (pa_cons pe_int pa_nil))) (pa_cons (pe_tup (pa_cons pe_int (pa_cons pe_int pa_nil))) (pa_cons (pe_tup (pa_cons pe_int (pa_cons pe_int pa_nil))) pa_nil))))))) (pe_cal C__law_dip (hr.mono (by decide)) (pa_cons (pv 0) (pa_cons pe_int pa_nil))) (fun _ _ => rfl)))) pss_nil)
      (pss_cons (ps_set (i := 2) nd rfl (Or.inl rfl) (pe_ix ix_list (pe_lst (pa_cons (pe_op op_add pe_int (pe_cal C__law_dip (hr.mono (by decide)) (pa_cons (pv 0) (pa_cons pe_int pa_nil)))) (pa_cons (pe_op op_add pe_int (pe_cal C__law_dip (hr.mono (by decide)) (pa_cons (pv 0) (pa_cons pe_int pa_nil)))) (pa_cons pe_int pa_nil)))) (pe_callB (call_max2 rfl) (by rfl) B.max (by decide +kernel) (pa_cons pe_int (pa_cons (pe_op op_sub (pv 1) pe_int) pa_nil))) (fun _ _ => rfl)))
      (pss_cons (ps_set (i := 3) nd rfl (Or.inl rfl) (pe_op op_add pe_int (pe_cal C__law_dip (hr.mono (by decide)) (pa_cons (pv 0) (pa_cons (pe_op op_sub (pv 2) pe_int) pa_nil)))))
      (pss_one (ps_ret (pe_cal C__law_part (hr.mono (by decide)) (pa_cons (pv 3) (pa_cons (pv 2) pa_nil))))))))), ?_⟩
    refine ⟨.ref j, rfl, j, 4, n, rfl, hj, by omega, by decide, by decide +kernel, fun d0 H1 b1 f1 j1 x0 x1 => ?_⟩
    refine ⟨.int d0, rfl, rfl, _, rfl, ite2 (fun hz => ?_) (fun hz => ?_)⟩
    · refine ⟨by show 2 ≤ 16777216; decide, fun t1 n1 => ⟨by show 2 ≤ 16777216; decide, fun t2 n2 => ⟨by show 2 ≤ 16777216; decide, fun t3 n3 => ⟨by show 2 ≤ 16777216; decide, fun t4 n4 => ⟨by show 2 ≤ 16777216; decide, fun t5 n5 => ⟨by show 2 ≤ 16777216; decide, fun t6 n6 => ⟨by show 6 ≤ 16777216; decide, fun l nl => ?_⟩⟩⟩⟩⟩⟩⟩
      have s1 : Same H1 (L2.upd H1 t1 (.tup [.int 1, .int 2])) := same_new n1
      have s2 : Same (L2.upd H1 t1 (.tup [.int 1, .int 2])) (L2.upd (L2.upd H1 t1 (.tup [.int 1, .int 2])) t2 (.tup [.int 1, .int 3])) := same_new n2
      have s3 : Same (L2.upd (L2.upd H1 t1 (.tup [.int 1, .int 2])) t2 (.tup [.int 1, .int 3])) (L2.upd (L2.upd (L2.upd H1 t1 (.tup [.int 1, .int 2])) t2 (.tup [.int 1, .int 3])) t3 (.tup [.int 2, .int 3])) := same_new n3
      have s4 : Same (L2.upd (L2.upd (L2.upd H1 t1 (.tup [.int 1, .int 2])) t2 (.tup [.int 1, .int 3])) t3 (.tup [.int 2, .int 3])) (L2.upd (L2.upd (L2.upd (L2.upd H1 t1 (.tup [.int 1, .int 2])) t2 (.tup [.int 1, .int 3])) t3 (.tup [.int 2, .int 3])) t4 (.tup [.int 3, .int 4])) := same_new n4
      have s5 : Same (L2.upd (L2.upd (L2.upd (L2.upd H1 t1 (.tup [.int 1, .int 2])) t2 (.tup [.int 1, .int 3])) t3 (.tup [.int 2, .int 3])) t4 (.tup [.int 3, .int 4])) (L2.upd (L2.upd (L2.upd (L2.upd (L2.upd H1 t1 (.tup [.int 1, .int 2])) t2 (.tup [.int 1, .int 3])) t3 (.tup [.int 2, .int 3])) t4 (.tup [.int 3, .int 4])) t5 (.tup [.int 2, .int 5])) := same_new n5
      have s6 : Same (L2.upd (L2.upd (L2.upd (L2.upd (L2.upd H1 t1 (.tup [.int 1, .int 2])) t2 (.tup [.int 1, .int 3])) t3 (.tup [.int 2, .int 3])) t4 (.tup [.int 3, .int 4])) t5 (.tup [.int 2, .int 5])) (L2.upd (L2.upd (L2.upd (L2.upd (L2.upd (L2.upd H1 t1 (.tup [.int 1, .int 2])) t2 (.tup [.int 1, .int 3])) t3 (.tup [.int 2, .int 3])) t4 (.tup [.int 3, .int 4])) t5 (.tup [.int 2, .int 5])) t6 (.tup [.int 9, .int 10])) := same_new n6
      have s7 : Same (L2.upd (L2.upd (L2.upd (L2.upd (L2.upd (L2.upd H1 t1 (.tup [.int 1, .int 2])) t2 (.tup [.int 1, .int 3])) t3 (.tup [.int 2, .int 3])) t4 (.tup [.int 3, .int 4])) t5 (.tup [.int 2, .int 5])) t6 (.tup [.int 9, .int 10])) (L2.upd (L2.upd (L2.upd (L2.upd (L2.upd (L2.upd (L2.upd H1 t1 (.tup [.int 1, .int 2])) t2 (.tup [.int 1, .int 3])) t3 (.tup [.int 2, .int 3])) t4 (.tup [.int 3, .int 4])) t5 (.tup [.int 2, .int 5])) t6 (.tup [.int 9, .int 10])) l (.lst [.ref t1, .ref t2, .ref t3, .ref t4, .ref t5, .ref t6])) := same_new nl
      have jl := j1.keep (s1.trans (s2.trans (s3.trans (s4.trans (s5.trans (s6.trans s7))))))
      have bl := b1.trans (But.of (s1.trans (s2.trans (s3.trans (s4.trans (s5.trans (s6.trans s7)))))))
      have fl := fun x h => f1 x ((s1.trans (s2.trans (s3.trans (s4.trans (s5.trans (s6.trans s7)))))).free (l := x) h)
      refine ⟨.ref j, rfl, j, 6, n + 1, rfl, jl, by omega, by decide, by decide +kernel, fun d H2 b2 f2 j2 y0 y1 => ?_⟩
      have hl2 : H2 l = some (.lst [.ref t1, .ref t2, .ref t3, .ref t4, .ref t5, .ref t6]) := b2 l _ (j1.ne (s1.free (s2.free (s3.free (s4.free (s5.free (s6.free nl))))))) upd_same
      have u1 : H1 t1 = none := n1
      have v1 : H2 t1 = some (.tup [.int 1, .int 2]) := b2 t1 _ (j1.ne u1) (s7 _ _ (s6 _ _ (s5 _ _ (s4 _ _ (s3 _ _ (s2 _ _ upd_same))))))
      have u2 : H1 t2 = none := (s1.free n2)
      have v2 : H2 t2 = some (.tup [.int 1, .int 3]) := b2 t2 _ (j1.ne u2) (s7 _ _ (s6 _ _ (s5 _ _ (s4 _ _ (s3 _ _ upd_same)))))
      have u3 : H1 t3 = none := (s1.free (s2.free n3))
      have v3 : H2 t3 = some (.tup [.int 2, .int 3]) := b2 t3 _ (j1.ne u3) (s7 _ _ (s6 _ _ (s5 _ _ (s4 _ _ upd_same))))
      have u4 : H1 t4 = none := (s1.free (s2.free (s3.free n4)))
      have v4 : H2 t4 = some (.tup [.int 3, .int 4]) := b2 t4 _ (j1.ne u4) (s7 _ _ (s6 _ _ (s5 _ _ upd_same)))
      have u5 : H1 t5 = none := (s1.free (s2.free (s3.free (s4.free n5))))
      have v5 : H2 t5 = some (.tup [.int 2, .int 5]) := b2 t5 _ (j1.ne u5) (s7 _ _ (s6 _ _ upd_same))
      have u6 : H1 t6 = none := (s1.free (s2.free (s3.free (s4.free (s5.free n6)))))
      have v6 : H2 t6 = some (.tup [.int 9, .int 10]) := b2 t6 _ (j1.ne u6) (s7 _ _ upd_same)
      have hd : d = 0 ∨ d = 1 ∨ d = 2 ∨ d = 3 ∨ d = 4 ∨ d = 5 := by omega
      have bb := bl.trans b2
      have ff : ∀ x, H2 x = none → H x = none := fun x h => fl x (f2 x h)
      have jj : Jar H2 j (n + 4) := j2.le (by omega)
      rcases hd with rfl | rfl | rfl | rfl | rfl | rfl
      · exact ⟨l, _, 0, _, rfl, rfl, SqL.of hl2, rfl, q t1 1 2 H2 bb ff (f1 _ u1) jj v1 ⟨by decide, by decide, by decide, by decide⟩⟩
      · exact ⟨l, _, 1, _, rfl, rfl, SqL.of hl2, rfl, q t2 1 3 H2 bb ff (f1 _ u2) jj v2 ⟨by decide, by decide, by decide, by decide⟩⟩
      · exact ⟨l, _, 2, _, rfl, rfl, SqL.of hl2, rfl, q t3 2 3 H2 bb ff (f1 _ u3) jj v3 ⟨by decide, by decide, by decide, by decide⟩⟩
      · exact ⟨l, _, 3, _, rfl, rfl, SqL.of hl2, rfl, q t4 3 4 H2 bb ff (f1 _ u4) jj v4 ⟨by decide, by decide, by decide, by decide⟩⟩
      · exact ⟨l, _, 4, _, rfl, rfl, SqL.of hl2, rfl, q t5 2 5 H2 bb ff (f1 _ u5) jj v5 ⟨by decide, by decide, by decide, by decide⟩⟩
      · exact ⟨l, _, 5, _, rfl, rfl, SqL.of hl2, rfl, q t6 9 10 H2 bb ff (f1 _ u6) jj v6 ⟨by decide, by decide, by decide, by decide⟩⟩
    · have hz : d0 ≠ 0 := fun e => hz (by rw [e]; rfl)
      refine ⟨.ref j, rfl, j, 11, n + 1, rfl, j1, by omega, by decide, by decide +kernel, fun d1 H2 b2 f2 j2 y0 y1 => ⟨2, d1, rfl, rfl, .ref j, rfl, j, 99, n + 1 + 1, rfl, j2, by omega, by decide, by decide +kernel, fun d2 H3 b3 f3 j3 z0 z1 => ⟨2, d2, rfl, rfl, by show 3 ≤ 16777216; decide, fun l nl => ?_⟩⟩⟩
      obtain ⟨wv, hw, w2, w100⟩ : ∃ wv : Int, atI [V.int (2 + d1), V.int (2 + d2), V.int 100] (if d0 - 1 > 0 then d0 - 1 else 0) = some (.int wv) ∧ 2 ≤ wv ∧ wv ≤ 100 := by
        have hd : d0 = 1 ∨ d0 = 2 ∨ d0 = 3 := by omega
        rcases hd with rfl | rfl | rfl
        · exact ⟨2 + d1, rfl, by omega, by omega⟩
        · exact ⟨2 + d2, rfl, by omega, by omega⟩
        · exact ⟨100, rfl, by omega, by omega⟩
      refine ⟨.int d0, rfl, d0, 1, rfl, rfl, 0, d0 - 1, rfl, l, _, _, _, rfl, rfl, SqL.of upd_same, hw, ?_⟩
      have jl := j3.put (o := .lst [V.int (2 + d1), V.int (2 + d2), V.int 100]) nl
      refine ⟨.ref j, rfl, .int wv, rfl, wv, 1, rfl, rfl, j, wv - 1, n + 1 + 1 + 1, rfl, jl, by omega, by omega, small8000 (by omega), fun d3 H4 b4 f4 j4 v0 v1 => ⟨1, d3, rfl, rfl, ?_⟩⟩
      refine ⟨.int (1 + d3), rfl, .int wv, rfl, 1 + d3, wv, rfl, by omega, by omega, small8000 (by omega), fun p H5 s5 np e5 => ?_⟩
      have ff : ∀ x, H4 x = none → H x = none := fun x h => f1 x (f2 x (f3 x ((same_new nl).free (f4 x h))))
      exact q p _ _ H5 (((((b1.trans b2).trans b3).trans (But.of (same_new nl))).trans b4).trans (But.of s5)) (fun x h => ff x (s5.free h)) (ff p np) ((j4.keep s5).le (by omega)) e5 (fr_kep (by omega) (by omega) w100)

end
end K09
end

section
set_option Elab.async false
set_option linter.all false
set_option maxRecDepth 100000
set_option maxHeartbeats 4000000
namespace K09
open PySem PySem.Spec PyProof.Rows L2 GxR Gx Ma
section
variable {P : Program} {w : World} {K : PySem.W.Frag} {mg : Str → Option Value} {base : Heap}

theorem ix_listK {X : Cx} {K : PySem.W.Frag} (e : X.K = K) : IxR X (rIxL K) := e ▸ ix_list
theorem sum_rep0 : ∀ k : Nat, (List.replicate k (0 : Int)).sum = 0
  | 0 => rfl
  | k + 1 => by rw [List.replicate_succ, List.sum_cons, sum_rep0 k]; rfl
theorem pur_sum {k i : Nat} (h : i < k) : (pur k i).sum = 1 := by
  unfold pur
  rw [sum_set _ _ _ (by rw [List.length_replicate]; exact h), sum_rep0]
  have e : (List.replicate k (0 : Int)).getD i 0 = 0 := by
    rw [List.getD_eq_getElem?_getD, List.getElem?_replicate]
    split <;> rfl
  rw [e]
  rfl
theorem pur_con {k i : Nat} (h : i < k) (h8 : k ≤ 8) : Con (pur k i) := by
  refine ⟨by rw [pur_len]; omega, by rw [pur_len]; exact h8, fun n hn => ?_, ?_⟩
  · obtain ⟨j, hj⟩ := List.getElem?_of_mem hn
    have hj2 := (List.getElem?_eq_some_iff.mp hj).1
    rw [pur_len] at hj2
    rw [pur_get k i j hj2] at hj
    have e := Option.some.inj hj
    rw [← e]
    split <;> decide
  · have h1 : (1 : Int) ∈ pur k i := by
      have := pur_get k i i h
      rw [if_pos rfl] at this
      exact List.mem_of_getElem? this
    have h2 := dvd_gcdN.mp (Nat.dvd_refl (gcdN (pur k i))) 1 h1
    exact Nat.dvd_one.mp h2
theorem sum_lt {b : Int} : ∀ {ns : List Int}, (∀ n ∈ ns, 0 ≤ n ∧ n < b) → ns.sum ≤ ns.length * b
  | [], _ => by simp
  | n :: r, h => by
    have h1 := h n List.mem_cons_self
    have h2 := sum_lt (ns := r) fun m hm => h m (List.mem_cons_of_mem _ hm)
    rw [List.sum_cons, List.length_cons, Int.natCast_succ, Int.add_mul, Int.one_mul]
    omega
theorem gcd_lt {ns : List Int} {k : Nat} (h : Amt ns) (hz : ns.sum < 2 ^ k) : gcdN ns < 2 ^ k := by
  have h1 := gcd_le_sum h
  have h2 := abs_lt (n := ((gcdN ns : Nat) : Int)) (by omega) (Int.lt_of_le_of_lt h1 hz)
  rw [Int.natAbs_natCast] at h2
  exact h2
def sp_lfilled : Sp := fun vs H Q _ => ∃ (j : Addr) (n k m : Nat), vs = [V.ref j, V.int k, V.int m] ∧ Jar H j n ∧ n ≤ 500000 ∧ 1 ≤ k ∧ k ≤ 8 ∧ m ≤ 59 ∧ ∀ p ns H', But j H H' → (∀ b, H' b = none → H b = none) → H p = none → Jar H' j (n + 100) → LI H' p ns → Con ns → ns.length = k → (m ≤ 8 → ns.sum < 2 ^ 101) → Q (.ref p) H'

theorem ok__law_filled {f : Addr} {fd : FuncData}  (F : Fun K "_law_filled" "_law_filled" s__law_filled f fd) (B : Bl mg) (C__law_dip : Cal P w K mg base 1 "_law_dip" ["jar", "many"] sp_dip) (C__law_plain : Cal P w K mg base 2 "_law_plain" ["numbers_here"] sp_without_divisor) (C__law_pure : Cal P w K mg base 1 "_law_pure" ["many", "spot"] sp_lpure) (C__law_walk : Cal P w K mg base 4 "_law_walk" ["numbers_here", "share_here", "spots"] sp_lwalk) (C__law_share : Cal P w K mg base 3 "_law_share" ["jar"] sp_lshare) (C__law_spots : Cal P w K mg base 2 "_law_spots" ["jar", "many", "size"] sp_lspots) : FnOk P w K mg base CX0 5 f fd ["jar", "many", "most"] (sp_lfilled) := by
  refine F.ok sc__law_filled (fun vs H Q E h => ?_) (fun cdv A outer s H vs Q E hr h => ?_)
  · obtain ⟨j, n, k, m, rfl, _⟩ := h; rfl
  · obtain ⟨j, n, k, m, rfl, hj, hn, hk, hk8, hm, q⟩ := h
    have nd := sc__law_filled.nd
    refine ⟨_, (pss_cons (ps_if (pt_cmpR op_eq (pe_cal C__law_dip (hr.mono (by decide)) (pa_cons (pv 0) (pa_cons pe_int pa_nil))) pe_int (nomark _))
      (pss_cons (ps_setLc (i := 3) (own := [("turn", 5)]) (g := gName 5) rfl nd rfl rfl (sw_true rfl rfl rfl (by decide +kernel)) (pi_range1 rfl B.range (pa_cons (pv 1) pa_nil)) (blkOk_by (own := [("turn", 5)]) (N := ["jar", "many", "most", "found", "pot", "turn"]) (sc := defScope s__law_filled) (by decide +kernel)) (fun _ _ _ _ _ => (pg_name (i := 5) nd rfl (Or.inl rfl))) (fun _ _ _ _ _ => pts_nil) (fun _ _ _ _ _ => (pe_cal C__law_dip (hr.mono (by decide)) (pa_cons (pv 0) (pa_cons (pe_ix (ix_listK (K := K) rfl) (pe_lst (pa_cons pe_int (pa_cons pe_int (pa_cons (pe_op op_mulW pe_int (pe_op op_powW pe_int pe_int)) pa_nil)))) (pe_cal C__law_dip (hr.mono (by decide)) (pa_cons (pv 0) (pa_cons pe_int pa_nil))) (fun _ _ => rfl)) pa_nil)))))
      (pss_one (ps_ret (pe_ifExp (pt_cmpR op_gt (pe_callB (cr_sum rfl) (by rfl) B.sum (by decide +kernel) (pa_cons (pv 3) pa_nil)) pe_int (nomark _)) (pe_cal C__law_plain (hr.mono (by decide)) (pa_cons (pv 3) pa_nil)) (pe_cal C__law_pure (hr.mono (by decide)) (pa_cons (pv 1) (pa_cons pe_int pa_nil))))))) pss_nil)
      (pss_cons (ps_set (i := 4) nd rfl (Or.inl rfl) (pe_cal C__law_pure (hr.mono (by decide)) (pa_cons (pv 1) (pa_cons (pe_cal C__law_dip (hr.mono (by decide)) (pa_cons (pv 0) (pa_cons (pv 1) pa_nil))) pa_nil))))
      (pss_one (ps_ret (pe_ix ix_list (pe_cal C__law_walk (hr.mono (by decide)) (pa_cons (pv 4) (pa_cons (pe_cal C__law_share (hr.mono (by decide)) (pa_cons (pv 0) pa_nil)) (pa_cons (pe_cal C__law_spots (hr.mono (by decide)) (pa_cons (pv 0) (pa_cons (pv 1) (pa_cons (pe_cal C__law_dip (hr.mono (by decide)) (pa_cons (pv 0) (pa_cons (pe_op op_add (pv 2) pe_int) pa_nil))) pa_nil)))) pa_nil)))) (pe_un un_neg pe_int) (fun _ _ => rfl)))))), ?_⟩
    refine ⟨.ref j, rfl, j, 2, n, rfl, hj, by omega, by decide, by decide +kernel, fun d0 H1 b1 f1 j1 x0 x1 => ?_⟩
    refine ⟨rfl, _, rfl, ite2 (fun _ => ?_) (fun _ => ?_)⟩
    · refine ⟨.int k, rfl, k, rfl, by omega, by omega, fun D hD => ?_⟩
      have hDj : D ≠ j := j1.ne hD
      refine lc_range (lo := 0) (n := (k : Int).toNat) (fun i H' => ∃ ns : List Int, ns.length = i ∧ (∀ x ∈ ns, 0 ≤ x ∧ x < 200000000000000000000000000000) ∧ But j H H' ∧ (∀ b, H' b = none → H b = none) ∧ Jar H' j (n + 1 + 2 * i) ∧ LI H' D ns)
        ⟨[], rfl, fun c hc => (by cases hc), b1.trans (But.of (same_new hD)), fun b h => f1 b (upd_none b h), j1.keep (same_new hD), upd_same⟩ (fun i H' hi ⟨ns, e1, e2, e3, e4, e5, e6⟩ => ?_) (fun H' ⟨ns, e1, e2, e3, e4, e5, e6⟩ => ?_)
      · refine ⟨rfl, .ref j, rfl, 10, 29, rfl, rfl, pw 4 (by decide) (by decide) (by decide) (by decide), 2, _, rfl, rfl, wide_mul (a := 2) (b := 97) (by decide) (by decide +kernel) (by decide) (by decide) (by decide), by show 3 ≤ 16777216; decide, fun l nl => ?_⟩
        have sl := same_new (o := .lst [V.int 2, V.int 9, V.int (2 * 10 ^ (29 : Int).toNat)]) nl
        refine ⟨.ref j, rfl, j, 3, n + 1 + 2 * i, rfl, e5.keep sl, by omega, by decide, by decide +kernel, fun d H2 b2 f2 j2 y0 y1 => ?_⟩
        have hlj : l ≠ j := e5.ne nl
        have hl2 := b2 l _ hlj upd_same
        obtain ⟨wv, hw, w1, w98⟩ : ∃ wv : Int, atI [V.int 2, V.int 9, V.int (2 * 10 ^ (29 : Int).toNat)] d = some (.int wv) ∧ 1 ≤ wv ∧ wv ≤ 200000000000000000000000000000 := by
          have hd : d = 0 ∨ d = 1 ∨ d = 2 := by omega
          rcases hd with rfl | rfl | rfl
          · exact ⟨2, rfl, by decide, by decide +kernel⟩
          · exact ⟨9, rfl, by decide, by decide +kernel⟩
          · exact ⟨2 * 10 ^ (29 : Int).toNat, rfl, by decide +kernel, by decide +kernel⟩
        have hDl : D ≠ l := fun e => by rw [← e] at nl; have e6' : H' D = _ := e6; rw [nl] at e6'; cases e6'
        have e62 : LI H2 D ns := b2 D _ hDj (sl _ _ e6)
        refine ⟨l, _, d, _, rfl, rfl, SqL.of hl2, hw, j, wv, n + 1 + 2 * i + 1, rfl, j2, by omega, w1, small8000 (Int.lt_of_le_of_lt w98 (by decide +kernel)), fun d2 H3 b3 f3 j3 z0 z1 => ⟨_, b3 D _ hDj e62, ?_, ns ++ [d2], ?_, fun c hc => ?_, ((((e3.trans (But.of sl)).trans b2).trans b3)).fresh (f1 D hD), fun b hb => ?_, ?_, ?_⟩⟩
        · rw [List.length_map, e1]
          show i < 16777216
          omega
        · rw [List.length_append, e1]
          rfl
        · rcases List.mem_append.mp hc with y | y
          · exact e2 c y
          · rw [List.mem_singleton.mp y]
            omega
        · exact e4 b (sl.free (f2 b (f3 b (upd_none b hb))))
        · obtain ⟨x1, x2, x3, y1, y2, y3, y4, y5, y6⟩ := j3
          exact ⟨x1, x2, x3, by rw [upd_ne (fun e => hDj e.symm)]; exact y1, y2, y3, y4, y5, by omega⟩
        · show upd H3 D _ D = _
          rw [upd_same, List.map_append]
          rfl
      · have ek : (k : Int).toNat = k := Int.toNat_natCast k
        rw [ek] at e1 e5
        have nn : ∀ x ∈ ns, 0 ≤ x := fun x hx => (e2 x hx).1
        have s1 := sum_lt e2
        have s2 : (ns.length : Int) * 200000000000000000000000000000 ≤ 8 * 200000000000000000000000000000 := Int.mul_le_mul_of_nonneg_right (by omega) (by decide +kernel)
        have s3 : (8 : Int) * 200000000000000000000000000000 < 2 ^ 200 := by decide +kernel
        have s4 : (2 : Int) ^ 200 ≤ 2 ^ 600 := two_le (by decide)
        refine ⟨.ref D, rfl, D, ns, rfl, SqL.of e6, ns.sum, 0, rfl, rfl, _, rfl, ite2 (fun hs => ?_) (fun _ => ?_)⟩
        · have ha : Amt ns := ⟨nn, of_decide_eq_true hs⟩
          refine ⟨.ref D, rfl, D, ns, rfl, e6, ha, by omega, gcd_lt ha (small8000 (by omega)), fun p H2 sp np e7 => ?_⟩
          have hps := plain_sum_le ha
          exact q p _ H2 (e3.trans (But.of sp)) (fun b h => e4 b (sp.free h)) (e4 p np) ((e5.keep sp).le (by omega)) e7 (plain_con ha (by omega) (by omega)) (by rw [Ma.plain_len, e1]) (fun _ => by have s5 : (8 : Int) * 200000000000000000000000000000 < 2 ^ 101 := (by decide +kernel); omega)
        · refine ⟨.int k, rfl, k, 0, rfl, hk8, fun p H2 sp np e7 => ?_⟩
          have hps := pur_sum (k := k) (i := 0) (by omega)
          exact q p _ H2 (e3.trans (But.of sp)) (fun b h => e4 b (sp.free h)) (e4 p np) ((e5.keep sp).le (by omega)) e7 (pur_con (by omega) hk8) (pur_len k 0) (fun _ => by rw [hps]; decide +kernel)
    · refine ⟨.int k, rfl, .ref j, rfl, .int k, rfl, j, k, n + 1, rfl, j1, by omega, by omega, small8000 (Int.lt_of_le_of_lt (show (k : Int) ≤ 8 by omega) (by decide +kernel)), fun d H2 b2 f2 j2 y0 y1 => ?_⟩
      obtain ⟨dn, rfl⟩ := Int.eq_ofNat_of_zero_le y0
      refine ⟨k, dn, rfl, hk8, fun pot H3 s3 np e3 => ?_⟩
      refine ⟨.ref pot, rfl, .ref j, rfl, j, n + 1 + 1, rfl, j2.keep s3, by omega, fun t a b H4 b4 f4 nt j4 ht kp => ?_⟩
      refine ⟨.ref j, rfl, .int k, rfl, .ref j, rfl, .int m, rfl, m, 1, rfl, rfl, j, m + 1, n + 1 + 1 + 4, rfl, j4, by omega, by omega, small8000 (Int.lt_of_le_of_lt (show (m : Int) + 1 ≤ 60 by omega) (by decide +kernel)), fun z H5 b5 f5 j5 z0 z1 => ?_⟩
      obtain ⟨zn, rfl⟩ := Int.eq_ofNat_of_zero_le z0
      refine ⟨j, n + 1 + 1 + 4 + 1, k, zn, rfl, j5, by omega, hk, hk8, by omega, fun r cs H6 b6 f6 nr j6 er lr cr => ?_⟩
      have hpj : pot ≠ j := (j2.ne np)
      have htj : t ≠ j := (j2.keep s3).ne nt
      have e36 : LI H6 pot (pur k dn) := b6 _ _ hpj (b5 _ _ hpj (b4 _ _ hpj e3))
      have ht6 := b6 _ _ htj (b5 _ _ htj ht)
      have hdk : dn < k := by omega
      have hR : Row1 (pur k dn) a b cs := ⟨pur_con hdk hk8, by omega, kp, fun c hc => by rw [pur_len]; exact cr c hc⟩
      have hps := pur_sum hdk
      refine ⟨pot, t, r, pur k dn, a, b, cs, rfl, e36, ht6, er, hR, by rw [hps]; exact Int.lt_of_lt_of_le (show (1 : Int) < 2 ^ 1 by decide) (two_le (by decide)), fun p ps H7 s7 RR => ?_⟩
      obtain ⟨x, ex, lx, xm⟩ := RR.last
      have ff : ∀ y, H6 y = none → H y = none := fun y h => f1 y (f2 y (s3.free (f4 y (f5 y (f6 y h)))))
      refine ⟨1, rfl, p, _, -1, _, rfl, rfl, SqL.of RR.at_, ex, ?_⟩
      refine q x _ H7 (((((((b1.trans b2).trans (But.of s3)).trans b4).trans b5).trans b6)).trans (But.of s7)) (fun y h => ff y (s7.free h)) (ff x (RR.new x (List.mem_of_getElem? xm))) ((j6.keep s7).le (by omega)) lx (ctn_con hR.y _ (Nat.le_refl _)) ((ctn_len _ _ _ _).trans (pur_len k dn)) ?_
      intro hm8
      have g1 := ctn_sum hR.y cs.length (Nat.le_refl _)
      rw [hps, Int.mul_one] at g1
      have g2 : (100 : Int) ^ cs.length ≤ 100 ^ 8 := by
        have hx : cs.length ≤ 8 := by omega
        generalize cs.length = x at hx
        have : x = 0 ∨ x = 1 ∨ x = 2 ∨ x = 3 ∨ x = 4 ∨ x = 5 ∨ x = 6 ∨ x = 7 ∨ x = 8 := by omega
        rcases this with rfl | rfl | rfl | rfl | rfl | rfl | rfl | rfl | rfl <;> decide
      have g3 : (100 : Int) ^ 8 < 2 ^ 101 := by decide +kernel
      exact Int.lt_of_le_of_lt g1 (Int.lt_of_le_of_lt g2 g3)

end
end K09
end

section
set_option Elab.async false
set_option linter.all false
set_option maxRecDepth 100000
set_option maxHeartbeats 4000000
/-! Comprehensions whose elements leave what is tracked as it is: the list so far, by a function of the place. -/
namespace Gx
open PySem PySem.Spec PyProof.Rows L2 GxR
theorem sameR (H : Hp) : Same H H := fun _ _ h => h
theorem sameN {H : Hp} {p : Addr} {o : HO} (h : H p = none) : Same H (L2.upd H p o) := fun b x e => by
  rw [L2.upd_ne (ne_of_none e h)]
  exact e
/-- the list so far -/
def fmL (f : Nat → Option V) (i : Nat) : List V := (List.range i).filterMap f
theorem fmL_succ (f : Nat → Option V) (i : Nat) : fmL f (i + 1) = fmL f i ++ (f i).toList := by
  unfold fmL
  rw [List.range_succ, List.filterMap_append]
  cases h : f i <;> simp [h]
theorem fmL_len (f : Nat → Option V) (i : Nat) : (fmL f i).length ≤ i := by
  unfold fmL
  have := List.length_filterMap_le f (List.range i)
  rw [List.length_range] at this
  exact this
structure PvF (f : Nat → Option V) (H1 : Hp) (D : Addr) (i : Nat) (H : Hp) : Prop where
  s : Same H1 H
  at_ : H D = some (.lst (fmL f i))
theorem PvF.zero {f : Nat → Option V} {H1 : Hp} {D : Addr} (h : H1 D = none) : PvF f H1 D 0 (L2.upd H1 D (.lst [])) := ⟨sameN h, L2.upd_same⟩
theorem PvF.ext {f : Nat → Option V} {H1 : Hp} {D : Addr} {i : Nat} {H H4 : Hp} {y : V} (p : PvF f H1 D i H) (hD : H1 D = none) (hi : i < 16777216) (s : Same H H4) (e : f i = some y) :
    ∃ acc, H4 D = some (.lst acc) ∧ acc.length < sizeLine ∧ PvF f H1 D (i + 1) (L2.upd H4 D (.lst (acc ++ [y]))) := by
  refine ⟨_, s _ _ p.at_, ?_, fun b x hb => ?_, ?_⟩
  · have := fmL_len f i
    show (fmL f i).length < 16777216
    omega
  · rw [L2.upd_ne (ne_of_none hb hD)]
    exact s _ _ (p.s b x hb)
  · rw [L2.upd_same, fmL_succ, e]
    rfl
theorem PvF.skip {f : Nat → Option V} {H1 : Hp} {D : Addr} {i : Nat} {H H3 : Hp} (p : PvF f H1 D i H) (s : Same H H3) (e : f i = none) : PvF f H1 D (i + 1) H3 :=
  ⟨fun b x hb => s _ _ (p.s b x hb), by rw [s _ _ p.at_, fmL_succ, e]; simp⟩
theorem fmL_take {α : Type} (l : List α) (h : α → Option V) : ∀ i, i ≤ l.length → fmL (fun i => l[i]?.bind h) i = (l.take i).filterMap h
  | 0, _ => rfl
  | i + 1, hi => by
    rw [fmL_succ, fmL_take l h i (by omega), List.take_add_one, List.filterMap_append, List.getElem?_eq_getElem (show i < l.length by omega)]
    show _ ++ (h l[i]).toList = _ ++ [l[i]].filterMap h
    congr 1
theorem fmL_bind {α : Type} (l : List α) (h : α → Option V) : fmL (fun i => l[i]?.bind h) l.length = l.filterMap h := by
  rw [fmL_take l h _ (Nat.le_refl _), List.take_length]
theorem fmL_map {α : Type} (l : List α) (h : α → V) : fmL (fun i => l[i]?.map h) l.length = l.map h := by
  have e := fmL_bind l fun x => some (h x)
  have e2 : (fun i : Nat => l[i]?.map h) = fun i : Nat => l[i]?.bind fun x => some (h x) := by
    funext i
    cases l[i]? <;> rfl
  rw [e2, e, List.filterMap_eq_map']
theorem fmL_range (h : Nat → V) (n : Nat) : fmL (fun i => some (h i)) n = (List.range n).map h := by
  unfold fmL
  rw [List.filterMap_eq_map']
theorem ix_tupK {X : Cx} {K : PySem.W.Frag} (e : X.K = K) : IxR X (rIxT K) := e ▸ ix_tup
theorem ite_dup {c : Prop} [Decidable c] {A R : Prop} (hR : R) (hA : c → R → A) : if decide c = true then A else R := by
  by_cases h : c
  · rw [if_pos (decide_eq_true h)]
    exact hA h hR
  · rw [if_neg (by rw [decide_eq_false h]; exact Bool.false_ne_true)]
    exact hR
theorem op_eqDK {X : Cx} {K : PySem.W.Frag} (e : X.K = K) (hu : X.A.units + 64 < cLine) : OpR X (compareOp .Eq) (rEqD K) := e ▸ op_eqD hu
theorem op_neDK {X : Cx} {K : PySem.W.Frag} (e : X.K = K) (hu : X.A.units + 64 < cLine) : OpR X (compareOp .NotEq) (rNeD K) := e ▸ op_neD hu
theorem u1 {k : Nat} {A : Around} (r : Room k A) : A.units + 1 < cLine := by have := r.un; omega
/-- over a list that stands still -/
theorem lc_fm {K : PySem.W.Frag} {a : Addr} {xs : List V} {g : TG} {tt : TT} {te : TE} {vs : List Nat} {σ : L2.St} {H1 : Hp} {D : Addr} {Qd : Hp → Prop} (f : Nat → Option V) (hD : H1 D = none) (hl : SqL K H1 a xs)
    (hs : ∀ i x H, xs[i]? = some x → PvF f H1 D i H → g x (wipe σ vs) H fun σ2 H2 => wipe σ2 vs = wipe σ vs ∧ tt σ2 H2 fun b H3 =>
      if b = true then te σ2 H3 fun y H4 => ∃ acc, H4 D = some (.lst acc) ∧ acc.length < sizeLine ∧ PvF f H1 D (i + 1) (L2.upd H4 D (.lst (acc ++ [y]))) else PvF f H1 D (i + 1) H3) (hd : ∀ H, PvF f H1 D xs.length H → Qd H) :
    ∃ W : Nat → Nat → Hp → Prop, (∃ m, W 0 m (L2.upd H1 D (.lst []))) ∧ ∀ i m H, W i m H →
      ((Itl K a).stop i H ∧ Qd H) ∨ ((Itl K a).go i H ∧ ∃ Nx : Hp → Prop, (∀ H', Nx H' → ∃ m', m' < m ∧ W (i + 1) m' H') ∧ ∀ x H', (Itl K a).yld i H x H' → g x (wipe σ vs) H' fun σ2 H2 => wipe σ2 vs = wipe σ vs ∧ tt σ2 H2 fun b H3 =>
        if b = true then te σ2 H3 fun y H4 => ∃ acc, H4 D = some (.lst acc) ∧ acc.length < sizeLine ∧ Nx (L2.upd H4 D (.lst (acc ++ [y]))) else Nx H3) :=
  lc_list (PvF f H1 D) (PvF.zero hD) (fun i H _ p => hl.elim (fun h => .inl (h.elim (fun h => .inl (p.s _ _ h)) fun ⟨o, h⟩ => .inr ⟨o, p.s _ _ h⟩)) fun h => .inr h) hs hd
end Gx
end

section
set_option linter.all false
set_option maxHeartbeats 1000000
/-! Mixtures: weighted sums of contents over a bottom, and that a common factor goes away. -/
namespace Ma
def mixN (cs : List (List Int)) (ws : List Int) (W : Int) (s : Nat) : Nat → Int
  | 0 => 0
  | i + 1 => mixN cs ws W s i + ws.getD i 0 * (W / (cs.getD i []).sum) * (cs.getD i []).getD s 0
def mixL (cs : List (List Int)) (ws : List Int) (W : Int) (n m : Nat) : List Int := (List.range n).map fun s => mixN cs ws W s m
def lcmZ (cs : List (List Int)) : Nat → Int
  | 0 => 1
  | i + 1 => ((Nat.lcm (lcmZ cs i).natAbs (cs.getD i []).sum.natAbs : Nat) : Int)
def prodZ (cs : List (List Int)) : Nat → Int
  | 0 => 1
  | i + 1 => prodZ cs i * (cs.getD i []).sum
def wsum (ws : List Int) : Nat → Int
  | 0 => 0
  | i + 1 => wsum ws i + ws.getD i 0
/-- contents of one length with weights -/
structure Mix (cs : List (List Int)) (ws : List Int) (n : Nat) : Prop where
  c0 : 0 < cs.length
  c8 : cs.length ≤ 8
  wl : ws.length = cs.length
  con : ∀ c ∈ cs, Con c
  len : ∀ c ∈ cs, c.length = n
  small : ∀ c ∈ cs, c.sum < 2 ^ 102
  w0 : ∀ w ∈ ws, 0 ≤ w ∧ w < 2 ^ 98
  wp : 0 < ws.sum
theorem Mix.at {cs : List (List Int)} {ws : List Int} {n : Nat} (M : Mix cs ws n) {i : Nat} (h : i < cs.length) : cs.getD i [] ∈ cs := by
  rw [List.getD_eq_getElem?_getD, List.getElem?_eq_getElem h]
  exact List.getElem_mem h
theorem Mix.wat {cs : List (List Int)} {ws : List Int} {n : Nat} (M : Mix cs ws n) {i : Nat} (h : i < cs.length) : ws.getD i 0 ∈ ws := by
  rw [List.getD_eq_getElem?_getD, List.getElem?_eq_getElem (by rw [M.wl]; exact h)]
  exact List.getElem_mem _
theorem Mix.sp {cs : List (List Int)} {ws : List Int} {n : Nat} (M : Mix cs ws n) {i : Nat} (h : i < cs.length) : 0 < (cs.getD i []).sum := (M.con _ (M.at h)).amt.pos
theorem lcm_pos {cs : List (List Int)} {ws : List Int} {n : Nat} (M : Mix cs ws n) : ∀ i, i ≤ cs.length → 0 < lcmZ cs i
  | 0, _ => by first | (show (0 : Int) < 1; decide) | (show (1 : Int) ≤ 2 ^ 0; decide)
  | i + 1, h => by
    have h1 := lcm_pos M i (by omega)
    have h2 := M.sp (i := i) (by omega)
    have := Nat.lcm_pos (m := (lcmZ cs i).natAbs) (n := (cs.getD i []).sum.natAbs) (by omega) (by omega)
    show 0 < ((Nat.lcm _ _ : Nat) : Int)
    omega
theorem prod_pos {cs : List (List Int)} {ws : List Int} {n : Nat} (M : Mix cs ws n) : ∀ i, i ≤ cs.length → 0 < prodZ cs i
  | 0, _ => by first | (show (0 : Int) < 1; decide) | (show (1 : Int) ≤ 2 ^ 0; decide)
  | i + 1, h => Int.mul_pos (prod_pos M i (by omega)) (M.sp (by omega))
theorem two_mul' {x y : Int} {a b : Nat} (hx : x ≤ 2 ^ a) (hy : y ≤ 2 ^ b) (h0 : 0 ≤ y) : x * y ≤ 2 ^ (a + b) := by
  rw [Int.pow_add]
  exact Int.mul_le_mul hx hy h0 (Int.le_of_lt (Int.pow_pos (by decide)))
theorem prod_le {cs : List (List Int)} {ws : List Int} {n : Nat} (M : Mix cs ws n) : ∀ i, i ≤ cs.length → prodZ cs i ≤ 2 ^ (102 * i)
  | 0, _ => by first | (show (0 : Int) < 1; decide) | (show (1 : Int) ≤ 2 ^ 0; decide)
  | i + 1, h => by
    have h1 := prod_le M i (by omega)
    exact two_mul' (a := 102 * i) (b := 102) h1 (Int.le_of_lt (M.small _ (M.at (by omega)))) (Int.le_of_lt (M.sp (by omega)))
theorem dvd_nat_of {a : Int} {n : Nat} (h : a.natAbs ∣ n) : a ∣ (n : Int) := Int.natAbs_dvd_natAbs.mp (by rw [Int.natAbs_natCast]; exact h)
theorem nat_dvd_of {n : Nat} {a : Int} (h : n ∣ a.natAbs) : (n : Int) ∣ a := Int.natAbs_dvd_natAbs.mp (by rw [Int.natAbs_natCast]; exact h)
theorem dvd_lcm {cs : List (List Int)} : ∀ (i k : Nat), k < i → (cs.getD k []).sum ∣ lcmZ cs i
  | 0, _, h => by omega
  | i + 1, k, h => by
    show _ ∣ ((Nat.lcm _ _ : Nat) : Int)
    by_cases e : k = i
    · subst e
      exact dvd_nat_of (Nat.dvd_lcm_right _ _)
    · have h1 := dvd_lcm (cs := cs) i k (by omega)
      exact Int.dvd_trans h1 (dvd_nat_of (Nat.dvd_lcm_left _ _))
theorem lcm_dvd {cs : List (List Int)} : ∀ i, lcmZ cs i ∣ prodZ cs i
  | 0 => Int.dvd_refl _
  | i + 1 => by
    have h1 := lcm_dvd (cs := cs) i
    show ((Nat.lcm _ _ : Nat) : Int) ∣ prodZ cs i * _
    refine nat_dvd_of (Nat.lcm_dvd ?_ ?_)
    · exact Int.natAbs_dvd_natAbs.mpr (Int.dvd_trans h1 (Int.dvd_mul_right _ _))
    · exact Int.natAbs_dvd_natAbs.mpr (Int.dvd_mul_left _ _)
theorem lcm_le {cs : List (List Int)} {ws : List Int} {n : Nat} (M : Mix cs ws n) (i : Nat) (h : i ≤ cs.length) : lcmZ cs i ≤ 2 ^ (102 * i) :=
  Int.le_trans (Int.le_of_dvd (prod_pos M i h) (lcm_dvd i)) (prod_le M i h)
/-! sums -/
def sumN (f : Nat → Int) : Nat → Int
  | 0 => 0
  | n + 1 => sumN f n + f n
theorem sum_range (f : Nat → Int) : ∀ n, ((List.range n).map f).sum = sumN f n
  | 0 => rfl
  | n + 1 => by
    rw [List.range_succ, List.map_append, List.sum_append, sum_range f n]
    show _ + (f n + 0) = _
    rw [Int.add_zero]
    rfl
theorem sumN_add (f g : Nat → Int) (a : Int) : ∀ n, sumN (fun s => f s + a * g s) n = sumN f n + a * sumN g n
  | 0 => by simp [sumN]
  | n + 1 => by
    show sumN _ n + (f n + a * g n) = (sumN f n + f n) + a * (sumN g n + g n)
    rw [sumN_add f g a n, Int.mul_add]
    omega
theorem sumN_take (c : List Int) : ∀ i, i ≤ c.length → sumN (fun s => c.getD s 0) i = (c.take i).sum
  | 0, _ => by rw [List.take_zero]; rfl
  | i + 1, h => by
    show sumN _ i + c.getD i 0 = _
    rw [sumN_take c i (by omega), List.take_add_one, List.getElem?_eq_getElem (by omega), List.sum_append, List.getD_eq_getElem?_getD, List.getElem?_eq_getElem (by omega)]
    show _ + c[i] = _ + (c[i] + 0)
    rw [Int.add_zero]
theorem sumN_list (c : List Int) : sumN (fun s => c.getD s 0) c.length = c.sum := by rw [sumN_take c _ (Nat.le_refl _), List.take_length]
theorem mix_sum {cs : List (List Int)} {ws : List Int} {n : Nat} (M : Mix cs ws n) {W : Int} : ∀ m, m ≤ cs.length → (∀ k, k < m → (cs.getD k []).sum ∣ W) → (mixL cs ws W n m).sum = W * wsum ws m
  | 0, _, _ => by
    unfold mixL
    rw [sum_range]
    have : ∀ n, sumN (fun s => mixN cs ws W s 0) n = 0 := fun n => by
      induction n with
      | zero => rfl
      | succ n ih => show _ + 0 = _; rw [ih]; rfl
    rw [this]
    show 0 = W * 0
    rw [Int.mul_zero]
  | m + 1, h, hd => by
    have ih := mix_sum M m (by omega) fun k hk => hd k (by omega)
    unfold mixL at ih ⊢
    rw [sum_range] at ih ⊢
    show sumN (fun s => mixN cs ws W s m + ws.getD m 0 * (W / (cs.getD m []).sum) * (cs.getD m []).getD s 0) n = _
    rw [sumN_add, ih]
    have hl := M.len _ (M.at (i := m) (by omega))
    rw [← hl, sumN_list, Int.mul_assoc, Int.ediv_mul_cancel (hd m (by omega))]
    show _ = W * (wsum ws m + ws.getD m 0)
    rw [Int.mul_add, Int.mul_comm (ws.getD m 0)]
theorem wsum_take (ws : List Int) : ∀ i, i ≤ ws.length → wsum ws i = (ws.take i).sum
  | 0, _ => by rw [List.take_zero]; rfl
  | i + 1, h => by
    show wsum ws i + ws.getD i 0 = _
    rw [wsum_take ws i (by omega), List.take_add_one, List.getElem?_eq_getElem (by omega), List.sum_append, List.getD_eq_getElem?_getD, List.getElem?_eq_getElem (by omega)]
    show _ + ws[i] = _ + (ws[i] + 0)
    rw [Int.add_zero]
theorem Mix.ws {cs : List (List Int)} {ws : List Int} {n : Nat} (M : Mix cs ws n) : wsum ws cs.length = ws.sum := by
  rw [wsum_take ws _ (by rw [M.wl]; exact Nat.le_refl _), ← M.wl, List.take_length]
theorem mix_nn {cs : List (List Int)} {ws : List Int} {n : Nat} (M : Mix cs ws n) {W : Int} (hW : 0 ≤ W) (s : Nat) : ∀ m, m ≤ cs.length → 0 ≤ mixN cs ws W s m
  | 0, _ => Int.le_refl _
  | m + 1, h => by
    have h1 := mix_nn M hW s m (by omega)
    have h2 := (M.w0 _ (M.wat (i := m) (by omega))).1
    have h3 : 0 ≤ W / (cs.getD m []).sum := Int.ediv_nonneg hW (Int.le_of_lt (M.sp (by omega)))
    have h4 : 0 ≤ (cs.getD m []).getD s 0 := by
      rw [List.getD_eq_getElem?_getD]
      cases e : (cs.getD m [])[s]? with
      | none => exact Int.le_refl _
      | some x => exact (M.con _ (M.at (i := m) (by omega))).nn x (List.mem_of_getElem? e)
    have h5 := Int.mul_nonneg (Int.mul_nonneg h2 h3) h4
    show 0 ≤ _ + _
    omega
theorem mix_len (cs : List (List Int)) (ws : List Int) (W : Int) (n m : Nat) : (mixL cs ws W n m).length = n := by unfold mixL; rw [List.length_map, List.length_range]
theorem mix_amt {cs : List (List Int)} {ws : List Int} {n : Nat} (M : Mix cs ws n) {W : Int} (hW : 0 < W) (hd : ∀ k, k < cs.length → (cs.getD k []).sum ∣ W) : Amt (mixL cs ws W n cs.length) := by
  refine ⟨fun x hx => ?_, ?_⟩
  · obtain ⟨s, _, e⟩ := List.mem_map.mp hx
    rw [← e]
    exact mix_nn M (Int.le_of_lt hW) s _ (Nat.le_refl _)
  · rw [mix_sum M _ (Nat.le_refl _) hd, M.ws]
    exact Int.mul_pos hW M.wp
theorem mix_scale {cs : List (List Int)} {ws : List Int} {n : Nat} (M : Mix cs ws n) {W t : Int} (s : Nat) : ∀ m, m ≤ cs.length → (∀ k, k < m → (cs.getD k []).sum ∣ W) → mixN cs ws (W * t) s m = t * mixN cs ws W s m
  | 0, _, _ => by show 0 = t * 0; rw [Int.mul_zero]
  | m + 1, h, hd => by
    have ih := mix_scale M (t := t) s m (by omega) fun k hk => hd k (by omega)
    obtain ⟨q, hq⟩ := hd m (by omega)
    have hs := M.sp (i := m) (by omega)
    show mixN cs ws (W * t) s m + _ * (W * t / _) * _ = t * (mixN cs ws W s m + _ * (W / _) * _)
    have e1 : W * t / (cs.getD m []).sum = q * t := by rw [hq, Int.mul_assoc, Int.mul_ediv_cancel_left _ (by omega)]
    have e2 : W / (cs.getD m []).sum = q := by rw [hq, Int.mul_ediv_cancel_left _ (by omega)]
    rw [ih, e1, e2, Int.mul_add]
    congr 1
    rw [← Int.mul_assoc, Int.mul_right_comm _ t, Int.mul_comm t]
theorem gcdF_scale (t : Nat) : ∀ (ns : List Int) (d : Nat), gcdF (t * d) (ns.map fun n => (t : Int) * n) = t * gcdF d ns
  | [], d => rfl
  | n :: r, d => by
    show gcdF (Nat.gcd (t * d) ((t : Int) * n).natAbs) _ = t * gcdF (Nat.gcd d n.natAbs) r
    rw [Int.natAbs_mul, Int.natAbs_natCast, Nat.gcd_mul_left, gcdF_scale t r]
theorem plain_scale {ns : List Int} {t : Int} (ht : 0 < t) (hg : 0 < gcdN ns) : plain (ns.map fun n => t * n) = plain ns := by
  obtain ⟨k, rfl⟩ := Int.eq_ofNat_of_zero_le (Int.le_of_lt ht)
  unfold plain
  have e : gcdN (ns.map fun n => (k : Int) * n) = k * gcdN ns := by
    have := gcdF_scale k ns 0
    rw [Nat.mul_zero] at this
    exact this
  rw [e, List.map_map]
  refine List.map_congr_left fun n _ => ?_
  show (k : Int) * n / ((k * gcdN ns : Nat) : Int) = _
  rw [Int.natCast_mul, Int.mul_ediv_mul_of_pos _ _ ht]
/-- over the product or over the least common multiple: the same content -/
theorem mix_same {cs : List (List Int)} {ws : List Int} {n : Nat} (M : Mix cs ws n) : plain (mixL cs ws (prodZ cs cs.length) n cs.length) = plain (mixL cs ws (lcmZ cs cs.length) n cs.length) := by
  obtain ⟨t, ht⟩ := lcm_dvd (cs := cs) cs.length
  have h1 := lcm_pos M cs.length (Nat.le_refl _)
  have h2 := prod_pos M cs.length (Nat.le_refl _)
  have h3 : 0 < t := by
    rcases Int.lt_or_le 0 t with h | h
    · exact h
    · have := Int.mul_nonpos_of_nonneg_of_nonpos (Int.le_of_lt h1) h
      omega
  have e : mixL cs ws (prodZ cs cs.length) n cs.length = (mixL cs ws (lcmZ cs cs.length) n cs.length).map fun x => t * x := by
    unfold mixL
    rw [List.map_map]
    refine List.map_congr_left fun s _ => ?_
    rw [ht]
    exact mix_scale M s _ (Nat.le_refl _) fun k hk => dvd_lcm _ k hk
  rw [e]
  exact plain_scale h3 (gcdN_pos (mix_amt M h1 fun k hk => dvd_lcm _ k hk))
/-- one content alone -/
theorem mix_one {c : List Int} {x : Int} (M : Mix [c] [x] c.length) : plain (mixL [c] [x] (lcmZ [c] 1) c.length 1) = c := by
  have hc : Con c := M.con c List.mem_cons_self
  have hs := hc.amt.pos
  have hx : 0 < x := by
    have := M.wp
    simpa using this
  have e1 : lcmZ [c] 1 = c.sum := by
    show ((Nat.lcm 1 c.sum.natAbs : Nat) : Int) = _
    rw [Nat.lcm_one_left]
    omega
  have e : mixL [c] [x] (lcmZ [c] 1) c.length 1 = c.map fun n => x * n := by
    rw [e1]
    unfold mixL
    refine List.ext_getElem (by simp) fun i h1 h2 => ?_
    simp only [List.getElem_map, List.getElem_range]
    show 0 + x * (c.sum / c.sum) * c.getD i 0 = _
    rw [Int.ediv_self (by omega), Int.mul_one, Int.zero_add, List.getD_eq_getElem?_getD, List.getElem?_eq_getElem (by simpa using h2)]
    rfl
  rw [e, plain_scale hx (gcdN_pos hc.amt), plain_of_one hc.g]
end Ma
end

section
set_option Elab.async false
set_option linter.all false
set_option maxHeartbeats 1000000
namespace Ma
/-! histories: what is undone -/
/-- whether a number is a power, by dividing -/
def powF : Nat → Int → Int → Bool
  | 0, _, _ => false
  | f + 1, b, S => if S % b = 0 then powF f b (S / b) else decide (S = 1)
def powB (b S : Int) : Bool := powF S.toNat b S
theorem div_lt' {b S : Int} (hb : 2 ≤ b) (hS : 1 ≤ S) (h : S % b = 0) : 1 ≤ S / b ∧ S / b < S := by
  have e := Int.emod_add_mul_ediv S b
  rw [h, Int.zero_add] at e
  have p : 0 < S / b := by
    rcases Int.lt_or_le 0 (S / b) with z | z
    · exact z
    · have := Int.mul_le_mul_of_nonneg_left z (show 0 ≤ b by omega)
      omega
  have h2 := Int.mul_le_mul_of_nonneg_right hb (Int.le_of_lt p)
  exact ⟨p, by omega⟩
theorem powF_more {b : Int} (hb : 2 ≤ b) : ∀ (f : Nat) (S : Int), 1 ≤ S → S ≤ f → ∀ f' : Nat, S ≤ f' → powF f' b S = powF f b S
  | 0, S, h1, h2, _, _ => by omega
  | f + 1, S, h1, h2, f', h3 => by
    obtain ⟨g, rfl⟩ : ∃ g, f' = g + 1 := ⟨f' - 1, by omega⟩
    unfold powF
    by_cases h : S % b = 0
    · obtain ⟨p, q⟩ := div_lt' hb h1 h
      rw [if_pos h, if_pos h]
      exact powF_more hb f _ p (by omega) g (by omega)
    · rw [if_neg h, if_neg h]
theorem powB_div {b S : Int} (hb : 2 ≤ b) (hS : 1 ≤ S) (h : S % b = 0) : powB b S = powB b (S / b) := by
  obtain ⟨p, q⟩ := div_lt' hb hS h
  unfold powB
  obtain ⟨g, hg⟩ : ∃ g, S.toNat = g + 1 := ⟨S.toNat - 1, by omega⟩
  rw [hg, powF, if_pos h]
  exact powF_more hb _ _ p (by omega) _ (by omega)
theorem powB_end {b S : Int} (hS : 1 ≤ S) (h : S % b ≠ 0) : powB b S = decide (S = 1) := by
  unfold powB
  obtain ⟨g, hg⟩ : ∃ g, S.toNat = g + 1 := ⟨S.toNat - 1, by omega⟩
  rw [hg, powF, if_neg h]
theorem powF_ex {b : Int} (hb : 2 ≤ b) : ∀ (f : Nat) (S : Int), powF f b S = true → ∃ n : Nat, S = b ^ n
  | 0, S, h => by cases h
  | f + 1, S, h => by
    unfold powF at h
    by_cases hz : S % b = 0
    · rw [if_pos hz] at h
      obtain ⟨n, hn⟩ := powF_ex hb f _ h
      refine ⟨n + 1, ?_⟩
      have e := Int.emod_add_mul_ediv S b
      rw [hz, Int.zero_add, hn] at e
      rw [Int.pow_succ, Int.mul_comm]
      exact e.symm
    · rw [if_neg hz] at h
      exact ⟨0, by rw [Int.pow_zero]; exact of_decide_eq_true h⟩
theorem powB_ex {b S : Int} (hb : 2 ≤ b) (h : powB b S = true) : ∃ n : Nat, S = b ^ n := powF_ex hb _ _ h
theorem one_mod {b : Int} (hb : 2 ≤ b) : (1 : Int) % b ≠ 0 := by
  rw [Int.emod_eq_of_lt (by decide) (by omega)]
  decide
theorem pow_pos' {b : Int} (hb : 2 ≤ b) (n : Nat) : 1 ≤ b ^ n := Int.pow_pos (by omega)
theorem powB_pow {b : Int} (hb : 2 ≤ b) : ∀ n : Nat, powB b (b ^ n) = true
  | 0 => by
    rw [Int.pow_zero, powB_end (by decide) (one_mod hb)]
    rfl
  | n + 1 => by
    have e : b ^ (n + 1) % b = 0 := by rw [Int.pow_succ]; exact Int.mul_emod_left _ _
    rw [powB_div hb (pow_pos' hb _) e, Int.pow_succ, Int.mul_ediv_cancel _ (by omega)]
    exact powB_pow hb n
theorem pow_dvd {b S : Int} {n : Nat} (h : S = b ^ n) (h1 : S ≠ 1) : b ∣ S := by
  cases n with
  | zero => exact absurd (by rw [h, Int.pow_zero]) h1
  | succ n => rw [h, Int.pow_succ]; exact Int.dvd_mul_left _ _
/-! the last liquid -/
def fit (ns : List Int) (a b : Int) (i : Nat) : Bool := decide (ns.getD i 0 * b ≥ (b - a) * ns.sum)
def mark (ns : List Int) (a : Int) (i : Nat) : Bool := decide (a = 1) || decide (ns.getD i 0 % a ≠ 0)
def marked (ns : List Int) (a : Int) : List Nat := (List.range ns.length).filter (mark ns a)
def lastL (ns : List Int) (a b : Int) : Option Nat := if a > 1 ∧ (marked ns a).length > 1 then none else ((marked ns a).filter (fit ns a b)).getLast?
theorem lastL_some {ns : List Int} {a b : Int} {c : Nat} (h : lastL ns a b = some c) : c < ns.length ∧ fit ns a b c = true := by
  unfold lastL at h
  split at h
  · cases h
  · have h1 := List.mem_of_getLast? h
    obtain ⟨h2, h3⟩ := List.mem_filter.mp h1
    unfold marked at h2
    exact ⟨List.mem_range.mp (List.mem_filter.mp h2).1, h3⟩
/-! undone -/
def bef (ns : List Int) (a b : Int) (c : Nat) : List Int := (ns.map fun n => n * b).set c (ns.getD c 0 * b - (b - a) * ns.sum)
def befo (ns : List Int) (a b : Int) (c : Nat) : List Int := plain (bef ns a b c)
theorem bef_len (ns : List Int) (a b : Int) (c : Nat) : (bef ns a b c).length = ns.length := by unfold bef; simp
theorem befo_len (ns : List Int) (a b : Int) (c : Nat) : (befo ns a b c).length = ns.length := by unfold befo; rw [plain_len, bef_len]
theorem bef_sum {ns : List Int} {a b : Int} {c : Nat} (h : c < ns.length) : (bef ns a b c).sum = a * ns.sum := by
  unfold bef
  rw [sum_set _ _ _ (by rw [List.length_map]; exact h), sum_map_mul]
  have e : (ns.map fun n => n * b).getD c 0 = ns.getD c 0 * b := by
    rw [List.getD_eq_getElem?_getD, List.getD_eq_getElem?_getD, List.getElem?_map, List.getElem?_eq_getElem h]
    rfl
  rw [e, Int.sub_mul, Int.mul_comm ns.sum b]
  omega
theorem bef_get {ns : List Int} {a b : Int} {c i : Nat} (hi : i < ns.length) : (bef ns a b c)[i]? = some (ns.getD i 0 * b - if i = c then (b - a) * ns.sum else 0) := by
  unfold bef
  rw [List.getElem?_set]
  by_cases h : c = i
  · subst h
    rw [if_pos rfl, if_pos (by rw [List.length_map]; exact hi), if_pos rfl]
  · rw [if_neg h, if_neg (fun z => h z.symm), List.getElem?_map, List.getD_eq_getElem?_getD, List.getElem?_eq_getElem hi, Int.sub_zero]
    rfl
theorem pre_get {ns : List Int} {a b : Int} {c i : Nat} (hi : i < ns.length) : (pre ns a b c)[i]? = some (ns.getD i 0 * a + if i = c then (b - a) * ns.sum else 0) := by
  unfold pre
  rw [List.getElem?_set]
  by_cases h : c = i
  · subst h
    rw [if_pos rfl, if_pos (by rw [List.length_map]; exact hi), if_pos rfl]
  · rw [if_neg h, if_neg (fun z => h z.symm), List.getElem?_map, List.getD_eq_getElem?_getD, List.getElem?_eq_getElem hi, Int.add_zero]
    rfl
theorem getD_of {ns : List Int} {i : Nat} {x : Int} (h : ns[i]? = some x) : ns.getD i 0 = x := by rw [List.getD_eq_getElem?_getD, h]; rfl
theorem getD_in {ns : List Int} {i : Nat} (h : i < ns.length) : ns.getD i 0 ∈ ns := by
  rw [List.getD_eq_getElem?_getD, List.getElem?_eq_getElem h]
  exact List.getElem_mem h
theorem mem_at {ns : List Int} {x : Int} (h : x ∈ ns) : ∃ i, i < ns.length ∧ ns.getD i 0 = x := by
  obtain ⟨i, hi, e⟩ := List.mem_iff_getElem.mp h
  exact ⟨i, hi, by rw [List.getD_eq_getElem?_getD, List.getElem?_eq_getElem hi]; exact e⟩
theorem bef_amt {ns : List Int} {a b : Int} {c : Nat} (h : Con ns) (k : Kep a b) (hc : c < ns.length) (hf : fit ns a b c = true) : Amt (bef ns a b c) := by
  have hs := h.amt.pos
  have k1 := k.a1
  have k2 := k.ab
  refine ⟨fun n hn => ?_, ?_⟩
  · obtain ⟨i, hi, e⟩ := mem_at hn
    rw [bef_len] at hi
    rw [getD_of (bef_get hi)] at e
    rw [← e]
    have h0 := h.nn _ (getD_in hi)
    have h1 := Int.mul_nonneg h0 (show 0 ≤ b by omega)
    by_cases hic : i = c
    · subst hic
      rw [if_pos rfl]
      have := of_decide_eq_true hf
      omega
    · rw [if_neg hic]
      omega
  · rw [bef_sum hc]
    exact Int.mul_pos (by omega) hs
theorem befo_con {ns : List Int} {a b : Int} {c : Nat} (h : Con ns) (k : Kep a b) (hc : c < ns.length) (hf : fit ns a b c = true) : Con (befo ns a b c) :=
  plain_con (bef_amt h k hc hf) (by rw [bef_len]; exact h.len) (by rw [bef_len]; exact h.le8)
theorem befo_lt {ns : List Int} {a b : Int} {c : Nat} (h : Con ns) (k : Kep a b) (hc : c < ns.length) (hf : fit ns a b c = true) (hd : b ∣ ns.sum) : (befo ns a b c).sum < ns.sum := by
  have hs := h.amt.pos
  have k1 := k.a1
  have k2 := k.ab
  have hA := bef_amt h k hc hf
  have e := plain_sum hA
  rw [bef_sum hc] at e
  have hb : b.natAbs ∣ gcdN (bef ns a b c) := dvd_gcdN.mpr fun n hn => by
    obtain ⟨i, hi, e⟩ := mem_at hn
    rw [bef_len] at hi
    rw [getD_of (bef_get hi)] at e
    rw [← e]
    refine Int.natAbs_dvd_natAbs.mpr (Int.dvd_sub (Int.dvd_mul_left _ _) ?_)
    split
    · exact Int.dvd_trans hd (Int.dvd_mul_left _ _)
    · exact Int.dvd_zero _
  have hg := Nat.le_of_dvd (gcdN_pos hA) hb
  have hp : 0 ≤ (plain (bef ns a b c)).sum := sum_nn (befo_con h k hc hf).nn
  have h1 : (befo ns a b c).sum * b ≤ (befo ns a b c).sum * ((gcdN (bef ns a b c) : Nat) : Int) := Int.mul_le_mul_of_nonneg_left (by omega) hp
  have h2 : (befo ns a b c).sum * ((gcdN (bef ns a b c) : Nat) : Int) = a * ns.sum := e
  have h3 : a * ns.sum < b * ns.sum := Int.mul_lt_mul_of_pos_right k2 hs
  rw [h2] at h1
  have h4 : (befo ns a b c).sum * b < ns.sum * b := by rw [Int.mul_comm ns.sum b]; omega
  exact Int.lt_of_mul_lt_mul_right h4 (by omega)
def undo : Nat → List Int → Int → Int → List Nat × List Int
  | 0, ns, _, _ => ([], ns)
  | f + 1, ns, a, b => if ns.sum ≠ 1 ∧ powB b ns.sum = true then
      match lastL ns a b with
      | none => ([], ns)
      | some c => (c :: (undo f (befo ns a b c) a b).1, (undo f (befo ns a b c) a b).2)
    else ([], ns)
def und (ns : List Int) (a b : Int) : List Nat × List Int := undo ns.sum.toNat ns a b
structure Goes (ns : List Int) (a b : Int) (c : Nat) : Prop where
  s1 : ns.sum ≠ 1
  pw : powB b ns.sum = true
  la : lastL ns a b = some c
theorem Goes.con {ns : List Int} {a b : Int} {c : Nat} (G : Goes ns a b c) (h : Con ns) (k : Kep a b) : Con (befo ns a b c) := befo_con h k (lastL_some G.la).1 (lastL_some G.la).2
theorem Goes.dvd {ns : List Int} {a b : Int} {c : Nat} (G : Goes ns a b c) (k : Kep a b) : b ∣ ns.sum := by
  obtain ⟨n, hn⟩ := powB_ex (by have := k.a1; have := k.ab; omega) G.pw
  exact pow_dvd hn G.s1
theorem Goes.lt {ns : List Int} {a b : Int} {c : Nat} (G : Goes ns a b c) (h : Con ns) (k : Kep a b) : (befo ns a b c).sum < ns.sum := befo_lt h k (lastL_some G.la).1 (lastL_some G.la).2 (G.dvd k)
theorem undo_more {a b : Int} (k : Kep a b) : ∀ (f : Nat) (ns : List Int), Con ns → ns.sum ≤ f → ∀ f' : Nat, ns.sum ≤ f' → undo f' ns a b = undo f ns a b
  | 0, ns, h, h1, _, _ => by have := h.amt.pos; omega
  | f + 1, ns, h, h1, f', h2 => by
    have hs := h.amt.pos
    obtain ⟨g, rfl⟩ : ∃ g, f' = g + 1 := ⟨f' - 1, by omega⟩
    unfold undo
    by_cases hc : ns.sum ≠ 1 ∧ powB b ns.sum = true
    · rw [if_pos hc, if_pos hc]
      cases hl : lastL ns a b with
      | none => rfl
      | some c =>
        have G : Goes ns a b c := ⟨hc.1, hc.2, hl⟩
        have hlt := G.lt h k
        have := undo_more k f _ (G.con h k) (by omega) g (by omega)
        dsimp only
        rw [this]
    · rw [if_neg hc, if_neg hc]
theorem und_go {ns : List Int} {a b : Int} {c : Nat} (k : Kep a b) (h : Con ns) (G : Goes ns a b c) : und ns a b = (c :: (und (befo ns a b c) a b).1, (und (befo ns a b c) a b).2) := by
  have hs := h.amt.pos
  have hlt := G.lt h k
  have hc2 := G.con h k
  have e := undo_more k (befo ns a b c).sum.toNat _ hc2 (by omega) (ns.sum.toNat - 1) (by omega)
  unfold und
  rw [← e]
  obtain ⟨g, hg⟩ : ∃ g, ns.sum.toNat = g + 1 := ⟨ns.sum.toNat - 1, by omega⟩
  rw [hg, Nat.add_sub_cancel, undo, if_pos ⟨G.s1, G.pw⟩, G.la]
theorem und_stop {ns : List Int} {a b : Int} (h : Con ns) (hn : ∀ c, ¬ Goes ns a b c) : und ns a b = ([], ns) := by
  have hs := h.amt.pos
  unfold und
  obtain ⟨g, hg⟩ : ∃ g, ns.sum.toNat = g + 1 := ⟨ns.sum.toNat - 1, by omega⟩
  rw [hg, undo]
  split
  · rename_i hc
    cases hl : lastL ns a b with
    | none => rfl
    | some c => exact absurd ⟨hc.1, hc.2, hl⟩ (hn c)
  · rfl
theorem und_pure {ns : List Int} {a b : Int} (h : Con ns) (h1 : ns.sum = 1) : und ns a b = ([], ns) := und_stop h fun c G => G.s1 h1
/-- what is undone so far -/
inductive Un (a b : Int) : List Int → List Nat → List Int → Prop
  | nil {ns : List Int} : Un a b ns [] ns
  | go {ns : List Int} {us : List Nat} {ms : List Int} {c : Nat} : Un a b ns us ms → Goes ms a b c → Un a b ns (us ++ [c]) (befo ms a b c)
theorem Un.con {a b : Int} (k : Kep a b) {ns : List Int} {us : List Nat} {ms : List Int} (u : Un a b ns us ms) (h : Con ns) : Con ms := by
  induction u with
  | nil => exact h
  | go u G ih => exact G.con ih k
theorem Un.sum {a b : Int} (k : Kep a b) {ns : List Int} {us : List Nat} {ms : List Int} (u : Un a b ns us ms) (h : Con ns) : ms.sum ≤ ns.sum := by
  induction u with
  | nil => exact Int.le_refl _
  | go u G ih => have := G.lt (u.con k h) k; omega
theorem Un.len {a b : Int} {ns : List Int} {us : List Nat} {ms : List Int} (u : Un a b ns us ms) : ms.length = ns.length := by
  induction u with
  | nil => rfl
  | go u G ih => rw [befo_len]; exact ih
theorem Un.liq {a b : Int} {ns : List Int} {us : List Nat} {ms : List Int} (u : Un a b ns us ms) : ∀ c ∈ us, c < ns.length := by
  induction u with
  | nil => intro c hc; cases hc
  | go u G ih =>
    intro c hc
    rcases List.mem_append.mp hc with z | z
    · exact ih c z
    · rw [List.mem_singleton.mp z, ← u.len]
      exact (lastL_some G.la).1
theorem Un.und {a b : Int} (k : Kep a b) {ns : List Int} {us : List Nat} {ms : List Int} (u : Un a b ns us ms) (h : Con ns) : und ns a b = (us ++ (und ms a b).1, (und ms a b).2) := by
  induction u with
  | nil => rfl
  | go u G ih =>
    rw [ih, und_go k (u.con k h) G, List.append_assoc]
    rfl
/-- each undone one halves the bottom at least -/
theorem Goes.half {ns : List Int} {a b : Int} {c : Nat} (G : Goes ns a b c) (h : Con ns) (k : Kep a b) : (befo ns a b c).sum < ns.sum := G.lt h k
end Ma
namespace Ma
theorem pow_gap {b : Int} (hb : 2 ≤ b) {i j : Nat} (h : b ^ i < b ^ j) : b ^ i * b ≤ b ^ j := by
  have hij : i < j := by
    rcases Nat.lt_or_ge i j with z | z
    · exact z
    · have h1 : b ^ j ≤ b ^ i := by
        obtain ⟨d, rfl⟩ := Nat.exists_eq_add_of_le z
        rw [Int.pow_add]
        have h2 := pow_pos' hb d
        have h3 := pow_pos' hb j
        have := Int.mul_le_mul_of_nonneg_left h2 (show 0 ≤ b ^ j by omega)
        omega
      omega
  obtain ⟨d, rfl⟩ := Nat.exists_eq_add_of_le (show i + 1 ≤ j from hij)
  rw [Int.pow_add, Int.pow_succ]
  have h2 := pow_pos' hb d
  have h3 := pow_pos' hb i
  have h4 : 0 ≤ b ^ i * b := Int.mul_nonneg (by omega) (by omega)
  have := Int.mul_le_mul_of_nonneg_left h2 h4
  omega
/-- each top-up that is undone before another one makes the bottom less by half at least -/
theorem Un.bound {a b : Int} (k : Kep a b) {ns : List Int} {us : List Nat} {ms : List Int} (u : Un a b ns us ms) (h : Con ns) : ∀ c, Goes ms a b c → ms.sum * 2 ^ us.length ≤ ns.sum := by
  have hb : 2 ≤ b := by have := k.a1; have := k.ab; omega
  induction u with
  | nil => intro c _; rw [List.length_nil, Int.pow_zero, Int.mul_one]; exact Int.le_refl _
  | go u G ih =>
    rename_i us ms c0
    intro c G2
    have h1 := ih _ G
    have h2 := G.lt (u.con k h) k
    obtain ⟨i, e1⟩ := powB_ex hb G2.pw
    obtain ⟨j, e2⟩ := powB_ex hb G.pw
    have h3 : (befo ms a b c0).sum * b ≤ ms.sum := by
      rw [e1, e2] at h2 ⊢
      exact pow_gap hb h2
    have hp := (G.con (u.con k h) k).amt.pos
    have h4 : (befo ms a b c0).sum * 2 ≤ ms.sum := Int.le_trans (Int.mul_le_mul_of_nonneg_left hb (by omega)) h3
    have h5 : (befo ms a b c0).sum * 2 * 2 ^ us.length ≤ ms.sum * 2 ^ us.length := Int.mul_le_mul_of_nonneg_right h4 (Int.le_of_lt (Int.pow_pos (by decide)))
    rw [List.length_append, List.length_singleton, Int.pow_succ, Int.mul_comm ((2 : Int) ^ us.length) 2, ← Int.mul_assoc]
    exact Int.le_trans h5 h1
theorem Un.len_lt {a b : Int} (k : Kep a b) {ns : List Int} {us : List Nat} {ms : List Int} (u : Un a b ns us ms) (h : Con ns) {c : Nat} (G : Goes ms a b c) {n : Nat} (hn : ns.sum < 2 ^ n) : us.length < n := by
  have h1 := u.bound k h c G
  have hp := (u.con k h).amt.pos
  have h2 : (1 : Int) * 2 ^ us.length ≤ ms.sum * 2 ^ us.length := Int.mul_le_mul_of_nonneg_right (by omega) (Int.le_of_lt (Int.pow_pos (by decide)))
  rw [Int.one_mul] at h2
  have h3 : (2 : Int) ^ us.length < 2 ^ n := Int.lt_of_le_of_lt (Int.le_trans h2 h1) hn
  rcases Nat.lt_or_ge us.length n with z | z
  · exact z
  · obtain ⟨d, hd⟩ := Nat.exists_eq_add_of_le z
    rw [hd, Int.pow_add] at h3
    have h4 := pow_pos' (b := 2) (by decide) d
    have h5 := pow_pos' (b := 2) (by decide) n
    have := Int.mul_le_mul_of_nonneg_left h4 (show (0 : Int) ≤ 2 ^ n by omega)
    omega
theorem go_front {a b : Int} {ns : List Int} {c : Nat} (G : Goes ns a b c) {us : List Nat} {ms : List Int} (u : Un a b (befo ns a b c) us ms) : Un a b ns (c :: us) ms := by
  generalize hx : befo ns a b c = x at u
  induction u with
  | nil => rw [← hx]; exact .go .nil G
  | go u G2 ih => exact .go ih G2
theorem und_un {a b : Int} (k : Kep a b) : ∀ (f : Nat) (ns : List Int), Con ns → ns.sum ≤ f → Un a b ns (undo f ns a b).1 (undo f ns a b).2
  | 0, ns, h, h1 => by have := h.amt.pos; omega
  | f + 1, ns, h, h1 => by
    unfold undo
    split
    · rename_i hc
      cases hl : lastL ns a b with
      | none => exact .nil
      | some c =>
        have G : Goes ns a b c := ⟨hc.1, hc.2, hl⟩
        have hlt := G.lt h k
        have ih := und_un k f _ (G.con h k) (by omega)
        dsimp only
        exact go_front G ih
    · exact .nil
theorem und_un' {a b : Int} (k : Kep a b) {ns : List Int} (h : Con ns) : Un a b ns (und ns a b).1 (und ns a b).2 := und_un k _ _ h (by have := h.amt.pos; omega)
theorem und_con {a b : Int} (k : Kep a b) {ns : List Int} (h : Con ns) : Con (und ns a b).2 := (und_un' k h).con k h
theorem und_len {a b : Int} (k : Kep a b) {ns : List Int} (h : Con ns) : (und ns a b).2.length = ns.length := (und_un' k h).len
theorem und_liq {a b : Int} (k : Kep a b) {ns : List Int} (h : Con ns) : ∀ c ∈ (und ns a b).1, c < ns.length := (und_un' k h).liq
theorem und_size {a b : Int} (k : Kep a b) {ns : List Int} (h : Con ns) {n : Nat} (hn : ns.sum < 2 ^ n) : (und ns a b).1.length ≤ n := by
  have u := und_un' k h
  generalize (und ns a b).1 = us at u
  generalize (und ns a b).2 = ms at u
  cases u with
  | nil => exact Nat.zero_le _
  | go u G =>
    have := u.len_lt k h G hn
    rw [List.length_append]
    exact this
end Ma
namespace Ma
/-! the histories told -/
def startOf (ns : List Int) : Nat := ns.findIdx fun n => n == 1
theorem start_at {ns : List Int} (hn : ∀ n ∈ ns, 0 ≤ n) (h : ns.sum = 1) : startOf ns < ns.length ∧ ns[startOf ns]? = some 1 := by
  have h1 : ∃ n ∈ ns, (n == 1) = true := by
    refine Classical.byContradiction fun z => ?_
    have h2 : ∀ n ∈ ns, n = 0 := fun n hm => by
      have h3 := hn n hm
      have h4 := le_sum hn hm
      have h5 : n ≠ 1 := fun e => z ⟨n, hm, by rw [e]; rfl⟩
      omega
    have h6 : ns.sum = 0 := by
      clear z hn h
      induction ns with
      | nil => rfl
      | cons n r ih =>
        rw [List.sum_cons, h2 n List.mem_cons_self, ih fun m hm => h2 m (List.mem_cons_of_mem _ hm)]
        rfl
    omega
  have hlt : startOf ns < ns.length := List.findIdx_lt_length.mpr h1
  refine ⟨hlt, ?_⟩
  have h7 := List.findIdx_getElem (w := hlt)
  rw [List.getElem?_eq_getElem hlt]
  have h8 : ns[startOf ns] = 1 := eq_of_beq h7
  rw [h8]
theorem start_min {ns : List Int} {m : Nat} (h : m < startOf ns) : ns.getD m 0 ≠ 1 := by
  have h1 := List.not_of_lt_findIdx h
  intro e
  have hl : m < ns.length := Nat.lt_of_lt_of_le h List.findIdx_le_length
  rw [List.getD_eq_getElem?_getD, List.getElem?_eq_getElem hl] at e
  have e2 : ns[m] = 1 := e
  rw [e2] at h1
  cases h1
def shortsOf (s : Nat) (row : List Nat) (a b : Int) : List (Nat × List Nat) :=
  if a = 1 ∧ b = 2 then match row with
    | [] => [(s, [])]
    | c :: r => [(s, c :: r), (c, s :: r)]
  else [(s, row)]
def shorts (ns : List Int) (a b : Int) : List (Nat × List Nat) :=
  if (und ns a b).2.sum = 1 then shortsOf (startOf (und ns a b).2) (und ns a b).1.reverse a b else []
def pad (n : Nat) (h : Nat × List Nat) : Option (Nat × List Nat) := if h.2.length ≤ n then some (h.1, List.replicate (n - h.2.length) h.1 ++ h.2) else none
def hofl (ns : List Int) (a b : Int) (n : Nat) : List (Nat × List Nat) := (shorts ns a b).filterMap (pad n)
theorem shorts_liq {a b : Int} (k : Kep a b) {ns : List Int} (h : Con ns) : ∀ x ∈ shorts ns a b, x.1 < ns.length ∧ ∀ c ∈ x.2, c < ns.length := by
  intro x hx
  unfold shorts at hx
  split at hx
  · rename_i h1
    have hs := (start_at (und_con k h).nn h1).1
    rw [und_len k h] at hs
    have hl := und_liq k h
    have hr : ∀ c ∈ (und ns a b).1.reverse, c < ns.length := fun c hc => hl c (List.mem_reverse.mp hc)
    generalize (und ns a b).1.reverse = row at *
    generalize startOf (und ns a b).2 = s at *
    unfold shortsOf at hx
    split at hx
    · cases row with
      | nil =>
        rw [List.mem_singleton.mp hx]
        exact ⟨hs, hr⟩
      | cons c r =>
        rcases List.mem_cons.mp hx with z | z
        · rw [z]; exact ⟨hs, hr⟩
        · rw [List.mem_singleton.mp z]
          refine ⟨hr c List.mem_cons_self, fun d hd => ?_⟩
          rcases List.mem_cons.mp hd with y | y
          · rw [y]; exact hs
          · exact hr d (List.mem_cons_of_mem _ y)
    · rw [List.mem_singleton.mp hx]
      exact ⟨hs, hr⟩
  · cases hx
theorem shorts_size {a b : Int} (k : Kep a b) {ns : List Int} (h : Con ns) {n : Nat} (hn : ns.sum < 2 ^ n) : ∀ x ∈ shorts ns a b, x.2.length ≤ n := by
  have hz := und_size k h hn
  intro x hx
  unfold shorts at hx
  split at hx
  · have hr : (und ns a b).1.reverse.length ≤ n := by rw [List.length_reverse]; exact hz
    generalize (und ns a b).1.reverse = row at *
    unfold shortsOf at hx
    split at hx
    · cases row with
      | nil =>
        rw [List.mem_singleton.mp hx]
        exact hr
      | cons c r =>
        rcases List.mem_cons.mp hx with z | z
        · rw [z]; exact hr
        · rw [List.mem_singleton.mp z]; exact hr
    · rw [List.mem_singleton.mp hx]
      exact hr
  · cases hx
end Ma
namespace Ma
/-! the last liquid, in the law's words -/
def greatL (ns : List Int) (a b : Int) : List Nat := (List.range ns.length).filter fun i => decide (ns.getD i 0 ≥ (b - a) * ns.sum / b)
def oddL (ns : List Int) (a : Int) : List Nat := (List.range ns.length).filter fun i => decide (ns.getD i 0 % a > 0)
def lastsL (ns : List Int) (a b : Int) : List Nat := if a = 1 then greatL ns a b else (greatL ns a b).filter fun i => decide (oddL ns a = [i])
theorem great_fit {ns : List Int} {a b : Int} (hb : 0 < b) (hd : b ∣ ns.sum) : greatL ns a b = (List.range ns.length).filter (fit ns a b) := by
  unfold greatL
  refine List.filter_congr fun i _ => ?_
  unfold fit
  obtain ⟨q, hq⟩ := hd
  have e : (b - a) * ns.sum = (b - a) * q * b := by rw [hq, Int.mul_comm b q, Int.mul_assoc]
  rw [e, Int.mul_ediv_cancel _ (by omega)]
  by_cases h : ns.getD i 0 ≥ (b - a) * q
  · rw [decide_eq_true h, decide_eq_true (Int.mul_le_mul_of_nonneg_right h (by omega))]
  · rw [decide_eq_false h, decide_eq_false fun z => h (Int.le_of_mul_le_mul_right z hb)]
theorem range_single {p : Nat → Bool} {c : Nat} : ∀ n, c < n → (List.range n).filter (fun i => p i && decide (i = c)) = if p c = true then [c] else []
  | 0, h => by omega
  | n + 1, h => by
    rw [List.range_succ, List.filter_append]
    by_cases e : c = n
    · subst e
      have h1 : (List.range c).filter (fun i => p i && decide (i = c)) = [] := by
        rw [List.filter_eq_nil_iff]
        intro i hi
        have := List.mem_range.mp hi
        rw [decide_eq_false (show ¬ i = c by omega), Bool.and_false]
        exact Bool.false_ne_true
      rw [h1, List.nil_append, List.filter_cons, decide_eq_true rfl, Bool.and_true]
      cases p c <;> rfl
    · rw [range_single n (by omega), List.filter_cons, decide_eq_false (show ¬ n = c by omega), Bool.and_false]
      simp
theorem lasts_last {ns : List Int} {a b : Int} (k : Kep a b) (hd : b ∣ ns.sum) : (lastsL ns a b).getLast? = lastL ns a b := by
  have k1 := k.a1
  have k2 := k.ab
  unfold lastsL lastL
  rw [great_fit (a := a) (by omega) hd]
  by_cases h1 : a = 1
  · rw [if_pos h1, if_neg (by omega)]
    have e : marked ns a = List.range ns.length := by
      unfold marked
      rw [List.filter_eq_self]
      intro i _
      unfold mark
      rw [decide_eq_true h1]
      rfl
    rw [e]
  · rw [if_neg h1]
    have e : oddL ns a = marked ns a := by
      unfold oddL marked
      refine List.filter_congr fun i _ => ?_
      unfold mark
      have h0 := Int.emod_nonneg (ns.getD i 0) (show a ≠ 0 by omega)
      rw [decide_eq_false h1, Bool.false_or]
      by_cases h : ns.getD i 0 % a = 0
      · rw [decide_eq_false (by omega), decide_eq_false (by simpa using h)]
      · rw [decide_eq_true (by omega), decide_eq_true h]
    rw [e]
    have hM : ∀ c ∈ marked ns a, c < ns.length := fun c hc => List.mem_range.mp (List.mem_filter.mp hc).1
    generalize marked ns a = M at *
    match M, hM with
    | [], _ =>
      rw [if_neg (by simp)]
      have : ((List.range ns.length).filter (fit ns a b)).filter (fun i => decide (([] : List Nat) = [i])) = [] := by
        rw [List.filter_eq_nil_iff]
        intro i _
        simp
      rw [this]
      rfl
    | [c], hM =>
      rw [if_neg (by simp)]
      have hc := hM c (List.mem_singleton.mpr rfl)
      rw [List.filter_filter]
      have e2 : (fun i => decide ([c] = [i]) && fit ns a b i) = fun i => fit ns a b i && decide (i = c) := by
        funext i
        rw [Bool.and_comm]
        congr 1
        by_cases h : i = c
        · rw [h, decide_eq_true rfl, decide_eq_true rfl]
        · rw [decide_eq_false h, decide_eq_false (by simpa using fun z => h z.symm)]
      rw [e2, range_single _ hc, List.filter_cons]
      cases fit ns a b c <;> rfl
    | c :: d :: r, _ =>
      rw [if_pos ⟨by omega, by simp⟩]
      have : ((List.range ns.length).filter (fit ns a b)).filter (fun i => decide (c :: d :: r = [i])) = [] := by
        rw [List.filter_eq_nil_iff]
        intro i _
        simp
      rw [this]
      rfl
end Ma
end

section
set_option Elab.async false
set_option linter.all false
set_option maxRecDepth 100000
namespace Mc
/-! kept shares that leave one history -/
def prodW : List (Int × Int) → Int
  | [] => 1
  | q :: r => q.2 * prodW r
theorem prodW_app (q : Int × Int) : ∀ l : List (Int × Int), prodW (l ++ [q]) = prodW l * q.2
  | [] => by simp [prodW]
  | p :: r => by
    show p.2 * prodW (r ++ [q]) = p.2 * prodW r * q.2
    rw [prodW_app q r, Int.mul_assoc]
def gt1 (a b : Nat) : Bool := decide (1 < Nat.gcd a b)
theorem gt1_mul {a x y : Nat} (ha : 0 < a) : gt1 a (x * y) = (gt1 a x || gt1 a y) := by
  unfold gt1
  have h1 := Nat.gcd_pos_of_pos_left x ha
  have h2 := Nat.gcd_pos_of_pos_left y ha
  have h3 := Nat.gcd_pos_of_pos_left (x * y) ha
  by_cases e1 : Nat.gcd a x = 1
  · by_cases e2 : Nat.gcd a y = 1
    · have e3 : Nat.gcd a (x * y) = 1 := Nat.Coprime.mul_right e1 e2
      rw [e1, e2, e3]; rfl
    · have e3 : Nat.gcd a (x * y) ≠ 1 := fun z => e2 (Nat.Coprime.coprime_mul_left_right z)
      rw [decide_eq_true (show 1 < Nat.gcd a (x * y) by omega), decide_eq_true (show 1 < Nat.gcd a y by omega), Bool.or_true]
  · have e3 : Nat.gcd a (x * y) ≠ 1 := fun z => e1 (Nat.Coprime.coprime_mul_right_right z)
    rw [decide_eq_true (show 1 < Nat.gcd a (x * y) by omega), decide_eq_true (show 1 < Nat.gcd a x by omega), Bool.true_or]
theorem gt1_prod {a : Nat} (ha : 0 < a) : ∀ l : List (Int × Int), gt1 a (prodW l).natAbs = l.any fun e => gt1 a e.2.natAbs
  | [] => by
    show gt1 a 1 = false
    unfold gt1
    rw [Nat.gcd_one_right]
    rfl
  | q :: r => by
    show gt1 a (q.2 * prodW r).natAbs = (gt1 a q.2.natAbs || _)
    rw [Int.natAbs_mul, gt1_mul ha, gt1_prod ha r]
theorem prodW_bound : ∀ l : List (Int × Int), (∀ q ∈ l, q.2.natAbs ≤ 100) → (prodW l).natAbs ≤ 100 ^ l.length
  | [], _ => by decide
  | q :: r, h => by
    show (q.2 * prodW r).natAbs ≤ 100 ^ (r.length + 1)
    rw [Int.natAbs_mul, Nat.pow_succ, Nat.mul_comm]
    exact Nat.mul_le_mul (prodW_bound r fun p hp => h p (List.mem_cons_of_mem _ hp)) (h q List.mem_cons_self)
def badB (ks : List (Int × Int)) (i : Nat) : Bool :=
  decide ((ks.getD i (1, 2)).2 ≤ 2 * (ks.getD i (1, 2)).1) && (decide ((ks.getD i (1, 2)).1 = 1) || (ks.take i).any fun e => gt1 (ks.getD i (1, 2)).1.natAbs e.2.natAbs)
def dueB (ks : List (Int × Int)) : Bool := (List.range ks.length).all fun i => !badB ks i
theorem due_false {ks : List (Int × Int)} {i : Nat} (hi : i < ks.length) (h : badB ks i = true) : dueB ks = false := by
  unfold dueB
  rw [List.all_eq_false]
  exact ⟨i, List.mem_range.mpr hi, by rw [h]; decide⟩
theorem due_true {ks : List (Int × Int)} (h : ∀ i, i < ks.length → badB ks i = false) : dueB ks = true := by
  unfold dueB
  rw [List.all_eq_true]
  intro i hi
  rw [h i (List.mem_range.mp hi)]
  rfl
end Mc
end

section
set_option Elab.async false
set_option linter.all false
set_option maxRecDepth 100000
set_option maxHeartbeats 4000000
namespace K09
open PySem PySem.Spec PyProof.Rows L2 GxR Gx Ma Mc
section
variable {P : Program} {w : World} {K : PySem.W.Frag} {mg : Str → Option Value} {base : Heap}

theorem dp_ints {K : PySem.W.Frag} {H : Hp} : ∀ ns : List Int, DpAll K H (ns.map V.int) (ns.map PyData.int)
  | [] => .nil
  | n :: r => .cons (.int n) (dp_ints r)
theorem canLay_ints : ∀ ns : List Int, PyData.canLayAll0 (ns.map PyData.int) = true
  | [] => rfl
  | n :: r => by rw [List.map_cons, PyData.canLayAll0, canLay_ints r]; rfl
theorem depth_ints : ∀ ns : List Int, PyData.depthAll (ns.map PyData.int) ≤ 1
  | [] => by decide
  | n :: r => by
    have := depth_ints r
    simp only [List.map_cons, PyData.depthAll, PyData.depth]
    omega
theorem shaped_ints (ns : List Int) : SeqAt.shaped (.list (ns.map PyData.int)) = true := by
  have h1 := depth_ints ns
  unfold SeqAt.shaped
  rw [Bool.and_eq_true]
  refine ⟨canLay_ints ns, decide_eq_true ?_⟩
  rw [PyData.depth]
  omega
theorem dp_li {K : PySem.W.Frag} {H : Hp} {l : Addr} {ns : List Int} (h : LI H l ns) : Dp K H (.ref l) (.list (ns.map PyData.int)) := .lst (SqL.of h) (dp_ints ns)
theorem eqv_ints (ns : List Int) : PyData.eqv (.list (ns.map PyData.int)) (.list (ns.map PyData.int)) = true := SeqAt.eqv_refl _ (canLay_ints ns)

theorem sql_same {H H' : Hp} {a : Addr} {xs : List V} (h : SqL K H a xs) (e : Same H H') : SqL K H' a xs :=
  h.elim (fun h => .inl (h.elim (fun h => .inl (e _ _ h)) fun ⟨o, h⟩ => .inr ⟨o, e _ _ h⟩)) fun h => .inr h
theorem intsAll_of {B : Nat} : ∀ ns : List Int, (∀ n ∈ ns, n.natAbs < 2 ^ B) → intsAll B (ns.map PyData.int)
  | [], _ => trivial
  | n :: r, h => ⟨h n List.mem_cons_self, intsAll_of r fun m hm => h m (List.mem_cons_of_mem _ hm)⟩
theorem nodAll_ints : ∀ ns : List Int, nodAll (ns.map PyData.int) = 3 * ns.length
  | [] => rfl
  | n :: r => by
    have h1 : nod (PyData.int n) = 1 := by simp [nod]
    rw [List.map_cons, nodAll, nodAll_ints r, List.length_cons, h1]
    omega
theorem depth_li (ns : List Int) : (PyData.list (ns.map PyData.int)).depth ≤ 30 := by
  have := depth_ints ns
  rw [PyData.depth]
  omega
theorem nod_li {ns : List Int} {B : Nat} (h : ns.length ≤ 1000) (hB : B ≤ 1900) : (B + 1) * nod (.list (ns.map PyData.int)) ≤ 16777216 := by
  have e : nod (.list (ns.map PyData.int)) = 3 * ns.length + 3 := by rw [nod, nodAll_ints]
  rw [e]
  have h1 : (B + 1) * (3 * ns.length + 3) ≤ 1901 * 3003 := Nat.mul_le_mul (by omega) (by omega)
  omega

theorem cut_last (xs : List V) (y : V) : cutV (xs ++ [y]) none (some (-1)) = xs := by
  unfold cutV
  have e : (xs ++ [y]).length = xs.length + 1 := by rw [List.length_append]; rfl
  have e1 : HT.sIx (xs ++ [y]).length 0 none = 0 := rfl
  have e2 : HT.sIx (xs ++ [y]).length (xs ++ [y]).length (some (-1)) = xs.length := by
    unfold HT.sIx
    dsimp only
    rw [if_pos (by decide), e]
    omega
  rw [e1, e2, List.drop_zero, Nat.sub_zero, List.take_left']
  rfl

theorem sl_listK {X : Cx} {K : PySem.W.Frag} (e : X.K = K) : SlR X (rSlL K) := e ▸ sl_list
theorem dp_rows {K : PySem.W.Frag} {H : Hp} {v : Nat → List Int} : ∀ (ps : List Addr) (k : Nat), (∀ (i : Nat) (a : Addr), ps[i]? = some a → LI H a (v (k + i))) → DpAll K H (ps.map V.ref) ((List.range' k ps.length).map fun i => PyData.list ((v i).map PyData.int))
  | [], _, _ => .nil
  | a :: r, k, h => by
    rw [List.length_cons, List.range'_succ]
    refine .cons (dp_li (h 0 a rfl)) (dp_rows r (k + 1) fun i b hb => ?_)
    have := h (i + 1) b hb
    rw [show k + 1 + i = k + (i + 1) by omega]
    exact this
def datR (v : Nat → List Int) (n : Nat) : PyData := .list ((List.range' 0 n).map fun i => PyData.list ((v i).map PyData.int))
theorem Rows.dp {K : PySem.W.Frag} {H H' : Hp} {p : Addr} {ps : List Addr} {n : Nat} {v : Nat → List Int} (R : Rows H H' p ps n v) {H2 : Hp} (s : Same H' H2) : Dp K H2 (.ref p) (datR v n) := by
  unfold datR
  rw [← R.len]
  exact .lst (SqL.of (s _ _ R.at_)) (dp_rows ps 0 fun i a h => by rw [Nat.zero_add]; exact s _ _ (R.row i a h))
theorem canLay_rows (v : Nat → List Int) : ∀ l : List Nat, PyData.canLayAll0 (l.map fun i => PyData.list ((v i).map PyData.int)) = true
  | [] => rfl
  | i :: r => by
    have h1 : (PyData.list ((v i).map PyData.int)).canLay0 = true := canLay_ints (v i)
    rw [List.map_cons, PyData.canLayAll0, canLay_rows v r, h1]
    rfl
theorem depth_rows (v : Nat → List Int) : ∀ l : List Nat, PyData.depthAll (l.map fun i => PyData.list ((v i).map PyData.int)) ≤ 2
  | [] => by rw [List.map_nil, PyData.depthAll]; decide
  | i :: r => by
    have h1 := depth_rows v r
    have h2 := depth_ints (v i)
    simp only [List.map_cons, PyData.depthAll, PyData.depth]
    omega
theorem depth_dat (v : Nat → List Int) (n : Nat) : (datR v n).depth ≤ 30 := by
  have := depth_rows v (List.range' 0 n)
  unfold datR
  rw [PyData.depth]
  omega
theorem lay_dat (v : Nat → List Int) (n : Nat) : (datR v n).canLay0 = true := canLay_rows v _
theorem shaped_dat (v : Nat → List Int) (n : Nat) : SeqAt.shaped (datR v n) = true := by
  have h1 := depth_dat v n
  unfold SeqAt.shaped
  rw [Bool.and_eq_true]
  exact ⟨lay_dat v n, decide_eq_true (by omega)⟩
theorem eqv_dat (v : Nat → List Int) (n : Nat) : PyData.eqv (datR v n) (datR v n) = true := SeqAt.eqv_refl _ (lay_dat v n)
theorem ints_rows {B : Nat} {v : Nat → List Int} : ∀ l : List Nat, (∀ i ∈ l, ∀ n ∈ v i, n.natAbs < 2 ^ B) → intsAll B (l.map fun i => PyData.list ((v i).map PyData.int))
  | [], _ => trivial
  | i :: r, h => ⟨intsAll_of _ (h i List.mem_cons_self), ints_rows r fun j hj => h j (List.mem_cons_of_mem _ hj)⟩
theorem nod_ints (ns : List Int) : nod (.list (ns.map PyData.int)) = 3 * ns.length + 3 := by rw [nod, nodAll_ints]
theorem nodAll_rows {M : Nat} {v : Nat → List Int} : ∀ l : List Nat, (∀ i ∈ l, (v i).length ≤ M) → nodAll (l.map fun i => PyData.list ((v i).map PyData.int)) ≤ l.length * (3 * M + 5)
  | [], _ => Nat.zero_le _
  | i :: r, h => by
    have h1 := nodAll_rows r fun j hj => h j (List.mem_cons_of_mem _ hj)
    have h2 := h i List.mem_cons_self
    rw [List.map_cons, nodAll, nod_ints, List.length_cons, Nat.add_mul, Nat.one_mul]
    omega
theorem nod_dat {M n : Nat} {v : Nat → List Int} (h : ∀ i, i < n → (v i).length ≤ M) : nod (datR v n) ≤ n * (3 * M + 5) + 3 := by
  have := nodAll_rows (M := M) (v := v) (List.range' 0 n) fun i hi => h i (by rw [List.mem_range'_1] at hi; omega)
  rw [List.length_range'] at this
  unfold datR
  rw [nod]
  omega
/-- what repr asks of the rows of a walk -/
theorem ctn_bits {ns : List Int} {ks : List (Int × Int)} {cs : List Nat} (R : Rowy ns ks cs) (hz : ns.sum < 2 ^ 600) {i : Nat} (hi : i ≤ cs.length) : ∀ n ∈ ctn ns ks cs i, n.natAbs < 2 ^ 1020 := fun n hn => by
  have hc := ctn_con R i hi
  have h1 := hc.nn n hn
  have h2 := le_sum hc.nn hn
  have h3 := ctn_small R i hi hz
  exact abs_lt h1 (Int.lt_of_le_of_lt h2 h3)
theorem dat_ok {ns : List Int} {ks : List (Int × Int)} {cs : List Nat} (R : Rowy ns ks cs) (hz : ns.sum < 2 ^ 600) (h60 : cs.length ≤ 60) : intsP 1020 (datR (ctn ns ks cs) (cs.length + 1)) ∧ (1020 + 1) * nod (datR (ctn ns ks cs) (cs.length + 1)) ≤ 16777216 := by
  refine ⟨ints_rows _ fun i hi => ctn_bits R hz (by rw [List.mem_range'_1] at hi; omega), ?_⟩
  have h1 := nod_dat (M := 8) (n := cs.length + 1) (v := ctn ns ks cs) fun i hi => by rw [ctn_len]; exact R.con.le8
  have h2 : (cs.length + 1) * (3 * 8 + 5) ≤ 61 * 29 := Nat.mul_le_mul (by omega) (by omega)
  have h3 : nod (datR (ctn ns ks cs) (cs.length + 1)) ≤ 1772 := by omega
  exact Nat.le_trans (Nat.mul_le_mul_left _ h3) (by decide)
theorem con_bits {ns : List Int} (hc : Con ns) (hz : ns.sum < 2 ^ 1020) : intsP 1020 (.list (ns.map PyData.int)) ∧ (1020 + 1) * nod (.list (ns.map PyData.int)) ≤ 16777216 := by
  refine ⟨intsAll_of _ fun n hn => abs_lt (hc.nn n hn) (Int.lt_of_le_of_lt (le_sum hc.nn hn) hz), ?_⟩
  have h8 := hc.le8
  have h3 : nod (.list (ns.map PyData.int)) ≤ 27 := by rw [nod_ints]; omega
  exact Nat.le_trans (Nat.mul_le_mul_left _ h3) (by decide)
def two (ns ms : List Int) : PyData := .list [.list (ns.map PyData.int), .list (ms.map PyData.int)]
theorem rowI_len (cs : List Nat) : (rowI cs).length = cs.length := by unfold rowI; rw [List.length_map]
theorem two_ok {ns : List Int} {cs : List Nat} {k : Nat} (hc : Con ns) (hz : ns.sum < 2 ^ 1020) (h60 : cs.length ≤ 60) (hk : k ≤ 8) (hcs : ∀ c ∈ cs, c < k) : intsP 1020 (two ns (rowI cs)) ∧ (1020 + 1) * nod (two ns (rowI cs)) ≤ 16777216 ∧ (two ns (rowI cs)).depth ≤ 30 := by
  refine ⟨⟨(con_bits hc hz).1, intsAll_of _ fun n hn => ?_, trivial⟩, ?_, ?_⟩
  · obtain ⟨m, hm, e⟩ := List.mem_map.mp hn
    have e2 : (m : Int) = n := e
    have := hcs m hm
    rw [← e2, Int.natAbs_natCast]
    exact Nat.lt_of_lt_of_le (show m < 2 ^ 3 by omega) (Nat.pow_le_pow_right (by decide) (by decide))
  · have h8 := hc.le8
    have e : nod (two ns (rowI cs)) = (3 * ns.length + 3) + 2 + ((3 * cs.length + 3) + 2 + 0) + 3 := by
      unfold two
      rw [nod, nodAll, nodAll, nodAll, nod_ints, nod_ints, rowI_len]
    have h3 : nod (two ns (rowI cs)) ≤ 300 := by omega
    exact Nat.le_trans (Nat.mul_le_mul_left _ h3) (by decide)
  · have h1 := depth_ints ns
    have h2 := depth_ints (rowI cs)
    unfold two
    simp only [PyData.depth, PyData.depthAll]
    omega
theorem dp_two {K : PySem.W.Frag} {H : Hp} {o l r : Addr} {ns ms : List Int} (ho : H o = some (.lst [.ref l, .ref r])) (hl : LI H l ns) (hr2 : LI H r ms) : Dp K H (.ref o) (two ns ms) := .lst (SqL.of ho) (.cons (dp_li hl) (.cons (dp_li hr2) .nil))
def sp_topped (T : Addr) : Sp := fun vs H Q _ => ∃ (l t : Addr) (ns : List Int) (a b : Int) (c : Nat), vs = [V.ref l, V.ref t, V.int c] ∧ LI H l ns ∧ Con ns ∧ H t = some (.tup [.int a, .int b]) ∧ Kep a b ∧ c < ns.length ∧ ns.sum < 2 ^ 7900 ∧ H T = some (TabO T) ∧ ∀ p H', Same H H' → H p = none → LI H' p (step ns a b c) → Q (.ref p) H'

theorem map_ref {ps : List Addr} {i : Nat} {x : V} (h : (ps.map V.ref)[i]? = some x) : ∃ a, ps[i]? = some a ∧ x = .ref a := by
  rw [List.getElem?_map] at h
  cases e : ps[i]? with
  | none => rw [e] at h; cases h
  | some a => rw [e] at h; exact ⟨a, rfl, (Option.some.inj h).symm⟩
def pairD (q : Int × Int) : PyData := .tuple [.int q.1, .int q.2]
theorem dp_pairs {K : PySem.W.Frag} {H : Hp} : ∀ (ts : List Addr) (ks : List (Int × Int)), ts.length = ks.length → (∀ i t, ts[i]? = some t → H t = some (.tup [.int (ks.getD i (1, 2)).1, .int (ks.getD i (1, 2)).2])) → DpAll K H (ts.map V.ref) (ks.map pairD)
  | [], [], _, _ => .nil
  | [], _ :: _, h, _ => by cases h
  | _ :: _, [], h, _ => by cases h
  | t :: ts, q :: ks, h, f => .cons (.tup (SqT.of (f 0 t rfl)) (.cons (.int _) (.cons (.int _) .nil))) (dp_pairs ts ks (Nat.succ.inj h) fun i u hu => f (i + 1) u hu)
theorem dp_keeps {K : PySem.W.Frag} {H : Hp} {l : Addr} {ts : List Addr} {ks : List (Int × Int)} (h : Keeps H l ts ks) : Dp K H (.ref l) (.list (ks.map pairD)) := .lst (SqL.of h.at_) (dp_pairs ts ks h.len h.tup)
theorem ints_pairs {B : Nat} : ∀ ks : List (Int × Int), (∀ q ∈ ks, q.1.natAbs < 2 ^ B ∧ q.2.natAbs < 2 ^ B) → intsAll B (ks.map pairD)
  | [], _ => trivial
  | q :: r, h => ⟨⟨(h q List.mem_cons_self).1, (h q List.mem_cons_self).2, trivial⟩, ints_pairs r fun m hm => h m (List.mem_cons_of_mem _ hm)⟩
theorem nod_pairs : ∀ ks : List (Int × Int), nodAll (ks.map pairD) = 11 * ks.length
  | [] => rfl
  | q :: r => by
    have h1 : nod (pairD q) = 9 := by simp [pairD, nod, nodAll]
    rw [List.map_cons, nodAll, nod_pairs r, List.length_cons, h1]
    omega
theorem depth_pairs : ∀ ks : List (Int × Int), PyData.depthAll (ks.map pairD) ≤ 3
  | [] => by rw [List.map_nil, PyData.depthAll]; decide
  | q :: r => by
    have h1 := depth_pairs r
    simp only [List.map_cons, PyData.depthAll, pairD, PyData.depth]
    omega
def threeD (ns : List Int) (ks : List (Int × Int)) (ms : List Int) : PyData := .list [.list (ns.map PyData.int), .list (ks.map pairD), .list (ms.map PyData.int)]
theorem dp_three {K : PySem.W.Frag} {H : Hp} {o l d r : Addr} {ns ms : List Int} {ts : List Addr} {ks : List (Int × Int)} (ho : H o = some (.lst [.ref l, .ref d, .ref r])) (hl : LI H l ns) (hk : Keeps H d ts ks) (hr2 : LI H r ms) : Dp K H (.ref o) (threeD ns ks ms) :=
  .lst (SqL.of ho) (.cons (dp_li hl) (.cons (dp_keeps hk) (.cons (dp_li hr2) .nil)))
theorem three_ok {ns : List Int} {ks : List (Int × Int)} {cs : List Nat} {k : Nat} (hc : Con ns) (hz : ns.sum < 2 ^ 1020) (hk60 : ks.length ≤ 60) (hkp : ∀ q ∈ ks, Kep q.1 q.2) (h60 : cs.length ≤ 60) (hk : k ≤ 8) (hcs : ∀ c ∈ cs, c < k) :
    intsP 1020 (threeD ns ks (rowI cs)) ∧ (1020 + 1) * nod (threeD ns ks (rowI cs)) ≤ 16777216 ∧ (threeD ns ks (rowI cs)).depth ≤ 30 := by
  refine ⟨⟨(con_bits hc hz).1, ints_pairs _ fun q hq => ?_, intsAll_of _ fun n hn => ?_, trivial⟩, ?_, ?_⟩
  · have h := hkp q hq
    have h1 := h.a1
    have h2 := h.ab
    have h3 := h.b100
    have h4 : (100 : Int) < 2 ^ 1020 := by decide +kernel
    exact ⟨abs_lt (by omega) (by omega), abs_lt (by omega) (by omega)⟩
  · obtain ⟨m, hm, e⟩ := List.mem_map.mp hn
    have e2 : (m : Int) = n := e
    have := hcs m hm
    rw [← e2, Int.natAbs_natCast]
    exact Nat.lt_of_lt_of_le (show m < 2 ^ 3 by omega) (Nat.pow_le_pow_right (by decide) (by decide))
  · have h8 := hc.le8
    have e1 : nod (.list (ks.map pairD)) = 11 * ks.length + 3 := by rw [nod, nod_pairs]
    have e : nod (threeD ns ks (rowI cs)) = (3 * ns.length + 3) + 2 + ((11 * ks.length + 3) + 2 + ((3 * cs.length + 3) + 2 + 0)) + 3 := by
      unfold threeD
      rw [nod, nodAll, nodAll, nodAll, nodAll, nod_ints, nod_ints, rowI_len, e1]
    have h3 : nod (threeD ns ks (rowI cs)) ≤ 1000 := by omega
    exact Nat.le_trans (Nat.mul_le_mul_left _ h3) (by decide)
  · have h1 := depth_ints ns
    have h2 := depth_ints (rowI cs)
    have h3 := depth_pairs ks
    unfold threeD
    simp only [PyData.depth, PyData.depthAll]
    omega
theorem Jar.tab {H : Hp} {j T : Addr} {n : Nat} (h : Jar H j n) (e : H T = some (TabO T)) : T ≠ j := fun z => by
  obtain ⟨_, _, _, q, _⟩ := h
  rw [z, q] at e
  cases e
theorem Jar.tupne {H : Hp} {j T : Addr} {n : Nat} {xs : List V} (h : Jar H j n) (e : H T = some (.tup xs)) : T ≠ j := fun z => by
  obtain ⟨_, _, _, q, _⟩ := h
  rw [z, q] at e
  cases e

theorem dec_int {i j : Int} : decide (V.int i = V.int j) = decide (i = j) := by
  by_cases h : i = j
  · rw [h, decide_eq_true rfl, decide_eq_true rfl]
  · rw [decide_eq_false h, decide_eq_false fun z => h (by cases z; rfl)]
theorem dec_intN {i j : Int} : (!decide (V.int i = V.int j)) = decide (i ≠ j) := by
  rw [dec_int]
  by_cases h : i = j
  · rw [decide_eq_true h, decide_eq_false (by simp [h])]
    rfl
  · rw [decide_eq_false h, decide_eq_true h]
    rfl
def sp_is_pure : Sp := fun vs H Q _ => ∃ l ns, vs = [V.ref l] ∧ LI H l ns ∧ Q (.bl (decide (ns.sum = 1))) H
def sp_is_power : Sp := fun vs H Q _ => ∃ S b : Int, vs = [V.int S, V.int b] ∧ 1 ≤ S ∧ 2 ≤ b ∧ b ≤ 100 ∧ Q (.bl (powB b S)) H
def sp_can_be : Sp := fun vs H Q _ => ∃ (l t : Addr) (ns : List Int) (a b : Int) (c : Nat), vs = [V.ref l, V.ref t, V.int c] ∧ LI H l ns ∧ Con ns ∧ H t = some (.tup [.int a, .int b]) ∧ Kep a b ∧ c < ns.length ∧ ns.sum < 2 ^ 7000 ∧ Q (.bl (fit ns a b c)) H
def sp_before : Sp := fun vs H Q _ => ∃ (l t : Addr) (ns : List Int) (a b : Int) (c : Nat), vs = [V.ref l, V.ref t, V.int c] ∧ LI H l ns ∧ Con ns ∧ H t = some (.tup [.int a, .int b]) ∧ Kep a b ∧ c < ns.length ∧ fit ns a b c = true ∧ ns.sum < 2 ^ 7000 ∧ ∀ p H', Same H H' → H p = none → LI H' p (befo ns a b c) → Q (.ref p) H'
def optN : Option Nat → V
  | none => .non
  | some c => .int (c : Nat)
def sp_last : Sp := fun vs H Q _ => ∃ (l t : Addr) (ns : List Int) (a b : Int), vs = [V.ref l, V.ref t] ∧ LI H l ns ∧ Con ns ∧ H t = some (.tup [.int a, .int b]) ∧ Kep a b ∧ ns.sum < 2 ^ 7000 ∧ ∀ H', Same H H' → Q (optN (lastL ns a b)) H'

theorem ok_is_pure {f : Addr} {fd : FuncData}  (F : Fun K "is_pure" "is_pure" s_is_pure f fd) (B : Bl mg)  : FnOk P w K mg base CX0 1 f fd ["content"] (sp_is_pure) := by
  refine F.ok sc_is_pure (fun vs H Q E h => ?_) (fun cdv A outer s H vs Q E hr h => ?_)
  · obtain ⟨l, ns, rfl, _⟩ := h; rfl
  · obtain ⟨l, ns, rfl, hl, q⟩ := h
    have nd := sc_is_pure.nd
    refine ⟨_, (pss_one (ps_ret (pe_cmpR op_eq (pe_callB (cr_sum rfl) (by rfl) B.sum (by decide +kernel) (pa_cons (pv 0) pa_nil)) pe_int (nomark _)))), ?_⟩
    refine ⟨.ref l, rfl, l, ns, rfl, SqL.of hl, rfl, ?_⟩
    rw [dec_int]
    exact q

theorem ok_is_power {f : Addr} {fd : FuncData}  (F : Fun K "is_power" "is_power" s_is_power f fd) (B : Bl mg)  : FnOk P w K mg base CX0 1 f fd ["number", "base"] (sp_is_power) := by
  refine F.ok sc_is_power (fun vs H Q E h => ?_) (fun cdv A outer s H vs Q E hr h => ?_)
  · obtain ⟨S, b, rfl, _⟩ := h; rfl
  · obtain ⟨S, b, rfl, hS, hb, hb100, q⟩ := h
    have nd := sc_is_power.nd
    refine ⟨_, (pss_cons (ps_while PassesOwn.never (pt_cmpR op_eq (pe_op op_mod (pv 0) (pv 1)) pe_int (nomark _)) (pss_one (ps_aug (i := 0) nd rfl (Or.inl rfl) (pv 1) ip_fdivW)))
      (pss_one (ps_ret (pe_cmpR op_eq (pv 0) pe_int (nomark _))))), ?_⟩
    refine ⟨fun m σ H' => ∃ x : Int, σ = [some (.int x), some (.int b)] ∧ H' = H ∧ 1 ≤ x ∧ powB b x = powB b S ∧ m = x.toNat, ⟨S.toNat, S, rfl, rfl, hS, rfl, rfl⟩, fun m σ H' hW => ?_⟩
    obtain ⟨x, rfl, rfl, hx, e, rfl⟩ := hW
    refine ⟨.int x, rfl, .int b, rfl, x, b, rfl, rfl, by show (0 : Int) < b; omega, rfl, _, rfl, ?_⟩
    rw [dec_int]
    by_cases hm : x % b = 0
    · rw [decide_eq_true hm]
      refine iteT ⟨fun σ' H2 => ∃ m', m' < x.toNat ∧ ∃ x : Int, σ' = [some (.int x), some (.int b)] ∧ H2 = H' ∧ 1 ≤ x ∧ powB b x = powB b S ∧ m' = x.toNat, fun σ' H2 h => h, ?_⟩
      obtain ⟨p1, p2⟩ := div_lt' hb hx hm
      exact ⟨.int x, rfl, .int b, rfl, x, b, rfl, rfl, wide_div (by omega) (b := 7) (by omega) (by decide) (by decide), _, by omega, x / b, rfl, rfl, p1, by rw [← powB_div hb hx hm]; exact e, rfl⟩
    · rw [decide_eq_false hm]
      refine iteF ⟨.int x, rfl, rfl, ?_⟩
      rw [dec_int, ← powB_end hx hm, e]
      exact q

theorem fac_w {ns : List Int} {a b : Int} (hc : Con ns) (k : Kep a b) (hz : ns.sum < 2 ^ 7000) : CMulW (b - a) ns.sum := by
  have := k.a1
  have := k.ab
  have := k.b100
  exact wide_mul (a := 7) (b := 7000) (abs_lt (by omega) (by omega)) (abs_lt (Int.le_of_lt hc.amt.pos) hz) (by decide) (by decide) (by decide)
theorem fac_n {ns : List Int} {b n : Int} (hc : Con ns) (hb : 0 ≤ b ∧ b ≤ 100) (hz : ns.sum < 2 ^ 7000) (hn : n ∈ ns) : CMulW n b ∧ CMulW b n := by
  have h1 := le_sum hc.nn hn
  have h2 := hc.nn n hn
  have e1 : n.natAbs < 2 ^ 7000 := abs_lt h2 (Int.lt_of_le_of_lt h1 hz)
  exact ⟨wide_mul e1 (b := 7) (by omega) (by decide) (by decide) (by decide), wide_mul (a := 7) (by omega) e1 (by decide) (by decide) (by decide)⟩
theorem at_int {ns : List Int} {c : Nat} (h : c < ns.length) : atI (ns.map V.int) (c : Int) = some (.int (ns.getD c 0)) := atI_nat (get_map (by rw [List.getD_eq_getElem?_getD, List.getElem?_eq_getElem h]; rfl))

theorem ok_can_be_last {f : Addr} {fd : FuncData}  (F : Fun K "can_be_last" "can_be_last" s_can_be_last f fd) (B : Bl mg)  : FnOk P w K mg base CX0 1 f fd ["content", "kept", "liquid"] (sp_can_be) := by
  refine F.ok sc_can_be_last (fun vs H Q E h => ?_) (fun cdv A outer s H vs Q E hr h => ?_)
  · obtain ⟨l, t, ns, a, b, c, rfl, _⟩ := h; rfl
  · obtain ⟨l, t, ns, a, b, c, rfl, hl, hc, ht, k, hcl, hz, q⟩ := h
    have k1 := k.a1
    have k2 := k.ab
    have k3 := k.b100
    have nd := sc_can_be_last.nd
    refine ⟨_, (pss_cons (ps_asg (pv 1) (pg_tup (by rfl) (pgs_cons (pg_name (i := 3) nd rfl (Or.inl rfl)) (pgs_cons (pg_name (i := 4) nd rfl (Or.inl rfl)) pgs_nil))))
      (pss_one (ps_ret (pe_cmpR op_ge (pe_op op_mulW (pe_ix ix_list (pv 0) (pv 2) (fun _ _ => rfl)) (pv 4)) (pe_op op_mulW (pe_op op_sub (pv 4) (pv 3)) (pe_callB (cr_sum rfl) (by rfl) B.sum (by decide +kernel) (pa_cons (pv 0) pa_nil))) (nomark _))))), ?_⟩
    refine ⟨.ref t, rfl, t, [_, _], rfl, SqT.of ht, rfl, _, _, rfl, _, _, rfl, rfl, ?_⟩
    refine ⟨.ref l, rfl, .int c, rfl, l, _, c, .int (ns.getD c 0), rfl, rfl, SqL.of hl, at_int hcl, .int b, rfl, _, b, rfl, rfl, (fac_n hc ⟨by omega, k3⟩ hz (getD_in hcl)).1, ?_⟩
    exact ⟨.int b, rfl, .int a, rfl, b, a, rfl, rfl, .ref l, rfl, l, ns, rfl, SqL.of hl, _, _, rfl, rfl, fac_w hc k hz, _, _, rfl, rfl, q⟩

theorem ok_content_before {f : Addr} {fd : FuncData}  (F : Fun K "content_before" "content_before" s_content_before f fd) (B : Bl mg) (C_without_divisor : Cal P w K mg base 2 "without_divisor" ["numbers"] sp_without_divisor) : FnOk P w K mg base CX0 3 f fd ["content", "kept", "liquid"] (sp_before) := by
  refine F.ok sc_content_before (fun vs H Q E h => ?_) (fun cdv A outer s H vs Q E hr h => ?_)
  · obtain ⟨l, t, ns, a, b, c, rfl, _⟩ := h; rfl
  · obtain ⟨l, t, ns, a, b, c, rfl, hl, hc, ht, k, hcl, hf, hz, q⟩ := h
    have k1 := k.a1
    have k2 := k.ab
    have k3 := k.b100
    have nd := sc_content_before.nd
    refine ⟨_, (pss_cons (ps_asg (pv 1) (pg_tup (by rfl) (pgs_cons (pg_name (i := 3) nd rfl (Or.inl rfl)) (pgs_cons (pg_name (i := 4) nd rfl (Or.inr rfl)) pgs_nil))))
      (pss_cons (ps_setLc (i := 5) (own := [("amount", 6)]) (g := gName 6) rfl nd rfl rfl (sw_true rfl rfl rfl (by decide +kernel)) (pi_list (pv 0)) (blkOk_by (own := [("amount", 6)]) (N := ["content", "kept", "liquid", "stays", "whole", "amounts", "amount"]) (sc := defScope s_content_before) (by decide +kernel)) (fun _ _ _ _ _ => (pg_name (i := 6) nd rfl (Or.inl rfl))) (fun _ _ _ _ _ => pts_nil) (fun _ _ _ _ _ => (pe_op op_mulW (pv 6) (pv 4))))
      (pss_cons (ps_augS (pv 5) (pv 2) get_list (pe_op op_mulW (pe_op op_sub (pv 4) (pv 3)) (pe_callB (cr_sum rfl) (by rfl) B.sum (by decide +kernel) (pa_cons (pv 0) pa_nil))) ip_sub set_list)
      (pss_one (ps_ret (pe_cal C_without_divisor (hr.mono (by decide)) (pa_cons (pv 5) pa_nil))))))), ?_⟩
    refine ⟨.ref t, rfl, t, [_, _], rfl, SqT.of ht, rfl, _, _, rfl, _, _, rfl, rfl, ?_⟩
    refine ⟨.ref l, rfl, l, rfl, ⟨_, SqL.of hl⟩, fun D hD => lc_fm (fun i => ns[i]?.map fun n => V.int (n * b)) hD (SqL.of hl) (fun i x H' hx pv => ?_) (fun H' pv => ?_)⟩
    · obtain ⟨n, hn, rfl⟩ := map_get hx
      exact ⟨rfl, .int n, rfl, .int b, rfl, n, b, rfl, rfl, (fac_n hc ⟨by omega, k3⟩ hz (List.mem_of_getElem? hn)).1, pv.ext hD (by have := (List.getElem?_eq_some_iff.mp hn).1; have := hc.le8; omega) (sameR _) (by rw [hn]; rfl)⟩
    · have eD := pv.at_
      rw [List.length_map, fmL_map ns fun n => V.int (n * b)] at eD
      have e1 : ns.map (fun n => V.int (n * b)) = (ns.map fun n => n * b).map V.int := by rw [List.map_map]; rfl
      rw [e1] at eD
      have hl' := pv.s _ _ hl
      have hg : (ns.map fun n => n * b)[c]? = some (ns.getD c 0 * b) := by
        rw [List.getElem?_map, List.getD_eq_getElem?_getD, List.getElem?_eq_getElem hcl]
        rfl
      refine ⟨.ref D, rfl, .int c, rfl, D, _, c, .int (ns.getD c 0 * b), rfl, rfl, SqL.of eD, by omega, ?_, .int b, rfl, .int a, rfl, b, a, rfl, rfl, .ref l, rfl, l, ns, rfl, SqL.of hl', _, _, rfl, rfl, fac_w hc k hz, ?_⟩
      · rw [Int.toNat_natCast]
        exact get_map hg
      refine ⟨_, _, rfl, rfl, D, _, c, c, rfl, rfl, eD, ixN_of (by rw [List.length_map, List.length_map]; exact hcl), ?_⟩
      have e3 : L2.upd H' D (.lst (((ns.map fun n => n * b).map V.int).set c (.int (ns.getD c 0 * b - (b - a) * ns.sum)))) D = some (.lst ((bef ns a b c).map V.int)) := by
        rw [upd_same]
        unfold bef
        rw [List.map_set]
      have hA := bef_amt hc k hcl hf
      refine ⟨.ref D, rfl, D, bef ns a b c, rfl, e3, hA, by rw [bef_len]; have := hc.le8; omega, ?_, fun p H2 s2 np e4 => ?_⟩
      · have h1 := gcd_le_sum hA
        rw [bef_sum hcl] at h1
        have h2 : a * ns.sum ≤ 128 * 2 ^ 7000 := Int.mul_le_mul (by omega) (Int.le_of_lt hz) (Int.le_of_lt hc.amt.pos) (by decide)
        have h3 : (128 : Int) * 2 ^ 7000 < 2 ^ 8000 := by decide +kernel
        have h4 := abs_lt (n := ((gcdN (bef ns a b c) : Nat) : Int)) (by omega) (Int.lt_of_le_of_lt (Int.le_trans h1 h2) h3)
        rw [Int.natAbs_natCast] at h4
        exact h4
      · have sD : Same H (L2.upd H' D (.lst (((ns.map fun n => n * b).map V.int).set c (.int (ns.getD c 0 * b - (b - a) * ns.sum))))) := fun x u hx => by
          rw [upd_ne (ne_of_none hx hD)]
          exact pv.s x u hx
        exact q p H2 (sD.trans s2) (sD.free np) e4

end
end K09
end

section
set_option Elab.async false
set_option linter.all false
set_option maxRecDepth 100000
set_option maxHeartbeats 4000000
namespace K09
open PySem PySem.Spec PyProof.Rows L2 GxR Gx Ma Mc
section
variable {P : Program} {w : World} {K : PySem.W.Frag} {mg : Str → Option Value} {base : Heap}

theorem map_nat {M : List Nat} {i : Nat} {x : V} (h : ((rowI M).map V.int)[i]? = some x) : ∃ n : Nat, M[i]? = some n ∧ x = .int (n : Nat) := by
  unfold rowI at h
  rw [List.map_map, List.getElem?_map] at h
  cases e : M[i]? with
  | none => rw [e] at h; cases h
  | some n => rw [e] at h; exact ⟨n, rfl, (Option.some.inj h).symm⟩
theorem fm_range {p : Nat → Bool} (n : Nat) : fmL (fun i => if p i = true then some (V.int (i : Nat)) else none) n = (rowI ((List.range n).filter p)).map V.int := by
  unfold fmL rowI
  rw [List.map_map]
  induction List.range n with
  | nil => rfl
  | cons i r ih =>
    rw [List.filterMap_cons, List.filter_cons]
    cases p i <;> simp_all
theorem fm_nat {p : Nat → Bool} (M : List Nat) : (M.filterMap fun i => if p i = true then some (V.int (i : Nat)) else none) = (rowI (M.filter p)).map V.int := by
  unfold rowI
  rw [List.map_map]
  induction M with
  | nil => rfl
  | cons i r ih =>
    rw [List.filterMap_cons, List.filter_cons]
    cases p i <;> simp_all
theorem at_getLast {M : List Nat} {c : Nat} (h : M.getLast? = some c) : atI ((rowI M).map V.int) (-1) = some (.int (c : Nat)) := by
  obtain ⟨l, rfl⟩ := List.getLast?_eq_some_iff.mp h
  unfold rowI
  rw [List.map_append, List.map_append]
  exact atI_last _ _
theorem rowI_emp (M : List Nat) : ((rowI M).map V.int).isEmpty = M.isEmpty := by
  unfold rowI
  cases M <;> rfl
def sp_undone : Sp := fun vs H Q _ => ∃ (l t : Addr) (ns : List Int) (a b : Int), vs = [V.ref l, V.ref t] ∧ LI H l ns ∧ Con ns ∧ H t = some (.tup [.int a, .int b]) ∧ Kep a b ∧ ns.sum < 2 ^ 7000 ∧ ∀ p u v H', Same H H' → H p = none → H u = none → H v = none → u ≠ v → H' p = some (.tup [.ref u, .ref v]) → LI H' u (rowI (und ns a b).1) → LI H' v (und ns a b).2 → Q (.ref p) H'

theorem ok_last_liquid {f : Addr} {fd : FuncData}  (F : Fun K "last_liquid" "last_liquid" s_last_liquid f fd) (B : Bl mg) (C_can_be_last : Cal P w K mg base 1 "can_be_last" ["content", "kept", "liquid"] sp_can_be) : FnOk P w K mg base CX0 2 f fd ["content", "kept"] (sp_last) := by
  refine F.ok sc_last_liquid (fun vs H Q E h => ?_) (fun cdv A outer s H vs Q E hr h => ?_)
  · obtain ⟨l, t, ns, a, b, rfl, _⟩ := h; rfl
  · obtain ⟨l, t, ns, a, b, rfl, hl, hc, ht, k, hz, q⟩ := h
    have k1 := k.a1
    have k2 := k.ab
    have k3 := k.b100
    have h8 := hc.le8
    have nd := sc_last_liquid.nd
    refine ⟨_, (pss_cons (ps_set (i := 2) nd rfl (Or.inr rfl) (pe_ix ix_tup (pv 1) pe_int (fun _ _ => rfl)))
      (pss_cons (ps_setLc (i := 3) (own := [("liquid", 5), ("amount", 6)]) (g := gTup K 2 (gCons (gName 5) (gCons (gName 6) gNil))) rfl nd rfl rfl (sw_true rfl rfl rfl (by decide +kernel)) (pi_enum (by rfl) B.enumerate (pa_cons (pv 0) pa_nil)) (blkOk_by (own := [("liquid", 5), ("amount", 6)]) (N := ["content", "kept", "stays", "marked", "fitting", "liquid", "amount"]) (sc := defScope s_last_liquid) (by decide +kernel)) (fun _ _ _ _ _ => (pg_tup (by rfl) (pgs_cons (pg_name (i := 5) nd rfl (Or.inl rfl)) (pgs_cons (pg_name (i := 6) nd rfl (Or.inl rfl)) pgs_nil)))) (fun _ _ _ _ _ => (pts_one (PW.pt (pw_or (pt_cmpR op_eq (pv 2) pe_int (nomark _)) (pw_or1 (pt_cmpR op_ne (pe_op op_mod (pv 6) (pv 2)) pe_int (nomark _))))))) (fun _ _ _ _ _ => (pv 5)))
      (pss_cons (ps_if (PW.pt (pw_and (pt_cmpR op_gt (pv 2) pe_int (nomark _)) (pw_and1 (pt_cmpR op_gt (pe_callB call_len_seq (by rfl) B.len PySem.boot_len (pa_cons (pv 3) pa_nil)) pe_int (nomark _)))))
      (pss_one (ps_ret pe_non)) pss_nil)
      (pss_cons (ps_setLc (i := 4) (own := [("liquid", 5)]) (g := gName 5) rfl nd rfl rfl (sw_true rfl rfl rfl (by decide +kernel)) (pi_list (pv 3)) (blkOk_by (own := [("liquid", 5)]) (N := ["content", "kept", "stays", "marked", "fitting", "liquid", "amount"]) (sc := defScope s_last_liquid) (by decide +kernel)) (fun _ _ _ _ _ => (pg_name (i := 5) nd rfl (Or.inl rfl))) (fun _ _ _ _ _ => (pts_one (pt_val (pe_cal C_can_be_last (hr.mono (by decide)) (pa_cons (pv 0) (pa_cons (pv 1) (pa_cons (pv 5) pa_nil))))))) (fun _ _ _ _ _ => (pv 5)))
      (pss_one (ps_ret (pe_ifExp (pt_truth (pv 4) (by intro _; rfl)) (pe_ix ix_list (pv 4) (pe_un un_neg pe_int) (fun _ _ => rfl)) pe_non))))))), ?_⟩
    refine ⟨.ref t, rfl, t, _, 0, .int a, rfl, rfl, SqT.of ht, rfl, ?_⟩
    refine ⟨.ref l, rfl, l, _, rfl, SqL.of hl, fun D hD => ?_⟩
    refine lc_it walk_enum (PvF (fun i => if mark ns a i = true then some (V.int (i : Nat)) else none) H D) (PvF.zero hD) (fun i H' _ p => SqL.of (p.s _ _ hl)) (fun i x H' H2 hi pv hy => ?_) (fun H' pv => ?_)
    · obtain ⟨T09, x1, x2, rfl, nT2, rfl, hx1, hx2⟩ := hy
      cases hx1
      obtain ⟨n, hn, rfl⟩ := map_get hx2
      have sT := sameN (o := .tup [.int (i : Nat), .int n]) nT2
      have em : mark ns a i = (decide (a = 1) || decide (n % a ≠ 0)) := by unfold mark; rw [getD_of hn]
      rw [List.length_map] at hi
      refine ⟨T09, _, rfl, SqT.of upd_same, rfl, _, _, rfl, _, _, rfl, rfl, rfl, ?_⟩
      refine ⟨.int a, rfl, rfl, _, rfl, ?_⟩
      rw [dec_int]
      by_cases h1 : a = 1
      · rw [decide_eq_true h1]
        refine iteT ⟨_, rfl, pv.ext hD (by omega) sT ?_⟩
        rw [em, decide_eq_true h1]
        rfl
      · rw [decide_eq_false h1]
        refine iteF ⟨.int n, rfl, .int a, rfl, n, a, rfl, rfl, by show (0 : Int) < a; omega, rfl, _, rfl, ?_⟩
        rw [dec_intN]
        by_cases h2 : n % a = 0
        · rw [decide_eq_false (by simp [h2])]
          refine iteF (pv.skip sT ?_)
          rw [em, decide_eq_false h1, decide_eq_false (by simp [h2])]
          rfl
        · rw [decide_eq_true h2]
          refine iteT ⟨_, rfl, pv.ext hD (by omega) sT ?_⟩
          rw [em, decide_eq_false h1, decide_eq_true h2]
          rfl
    · have eD := pv.at_
      rw [List.length_map, fm_range] at eD
      have hM : (List.range ns.length).filter (mark ns a) = marked ns a := rfl
      rw [hM] at eD
      have lM : (marked ns a).length ≤ 8 := by
        have h1 := List.length_filter_le (mark ns a) (List.range ns.length)
        rw [List.length_range] at h1
        have h2 : (marked ns a).length ≤ ns.length := h1
        omega
      have sD := pv.s
      by_cases hC : a > 1 ∧ (marked ns a).length > 1
      · refine ⟨.int a, rfl, a, 1, rfl, rfl, _, rfl, ?_⟩
        rw [decide_eq_true hC.1]
        refine iteT ⟨.ref D, rfl, D, _, rfl, .inl (SqL.of eD), _, 1, rfl, rfl, _, rfl, ?_⟩
        rw [List.length_map, rowI_len, decide_eq_true (show (((marked ns a).length : Nat) : Int) > 1 by omega)]
        refine iteT ?_
        have e := q H' sD
        unfold lastL at e
        rw [if_pos hC] at e
        exact e
      · have eq : lastL ns a b = ((marked ns a).filter (fit ns a b)).getLast? := by unfold lastL; rw [if_neg hC]
        refine ⟨.int a, rfl, a, 1, rfl, rfl, _, rfl, ite_dup ?_ (fun hgt r => ⟨.ref D, rfl, D, _, rfl, .inl (SqL.of eD), _, 1, rfl, rfl, _, rfl, ?_⟩)⟩
        rotate_left
        · rw [List.length_map, rowI_len, decide_eq_false (show ¬ (((marked ns a).length : Nat) : Int) > 1 by omega)]
          exact iteF r
        refine ⟨.ref D, rfl, D, rfl, ⟨_, SqL.of eD⟩, fun E2 hE => lc_fm (fun m => (marked ns a)[m]?.bind fun i => if fit ns a b i = true then some (V.int (i : Nat)) else none) hE (SqL.of eD) (fun m x H5 hx pv5 => ?_) (fun H5 pv5 => ?_)⟩
        · obtain ⟨i, hi, rfl⟩ := map_nat hx
          have hm := (List.getElem?_eq_some_iff.mp hi).1
          have him := List.mem_of_getElem? hi
          have hin : i < ns.length := by
            rw [← hM] at him
            exact List.mem_range.mp (List.mem_filter.mp him).1
          have s5 := sD.trans pv5.s
          refine ⟨rfl, .ref l, rfl, .ref t, rfl, .int (i : Nat), rfl, l, t, ns, a, b, i, rfl, s5 _ _ hl, hc, s5 _ _ ht, k, hin, hz, _, rfl, ?_⟩
          cases hf : fit ns a b i with
          | true => exact iteT ⟨_, rfl, pv5.ext hE (by omega) (sameR _) (by rw [hi]; show (if fit ns a b i = true then _ else _) = _; rw [hf]; rfl)⟩
          | false => exact iteF (pv5.skip (sameR _) (by rw [hi]; show (if fit ns a b i = true then _ else _) = _; rw [hf]; rfl))
        · have eE := pv5.at_
          rw [List.length_map, rowI_len, fmL_bind (marked ns a), fm_nat] at eE
          have s5 := sD.trans pv5.s
          have q5 := q H5 s5
          rw [eq] at q5
          refine ⟨.ref E2, rfl, _, .inl ⟨_, SqL.of eE, rfl⟩, ?_⟩
          rw [rowI_emp]
          generalize (marked ns a).filter (fit ns a b) = F5 at *
          cases hF : F5.isEmpty with
          | true =>
            have : F5 = [] := List.isEmpty_iff.mp hF
            subst this
            exact iteF q5
          | false =>
            cases hg : F5.getLast? with
            | none =>
              rw [List.getLast?_eq_none_iff] at hg
              subst hg
              cases hF
            | some c =>
              rw [hg] at q5
              exact iteT ⟨.ref E2, rfl, 1, rfl, E2, _, -1, _, rfl, rfl, SqL.of eE, at_getLast hg, q5⟩

end
end K09
end

section
set_option Elab.async false
set_option linter.all false
set_option maxRecDepth 100000
set_option maxHeartbeats 4000000
namespace K09
open PySem PySem.Spec PyProof.Rows L2 GxR Gx Ma Mc
section
variable {P : Program} {w : World} {K : PySem.W.Frag} {mg : Str → Option Value} {base : Heap}

theorem ok_undone_and_left {f : Addr} {fd : FuncData}  (F : Fun K "undone_and_left" "undone_and_left" s_undone_and_left f fd) (B : Bl mg) (C_is_pure : Cal P w K mg base 1 "is_pure" ["content"] sp_is_pure) (C_is_power : Cal P w K mg base 1 "is_power" ["number", "base"] sp_is_power) (C_last_liquid : Cal P w K mg base 2 "last_liquid" ["content", "kept"] sp_last) (C_content_before : Cal P w K mg base 3 "content_before" ["content", "kept", "liquid"] sp_before) : FnOk P w K mg base CX0 4 f fd ["content", "kept"] (sp_undone) := by
  refine F.ok sc_undone_and_left (fun vs H Q E h => ?_) (fun cdv A outer s H vs Q E hr h => ?_)
  · obtain ⟨l, t, ns, a, b, rfl, _⟩ := h; rfl
  · obtain ⟨l, t, ns, a, b, rfl, hl, hc, ht, k, hz, q⟩ := h
    have k1 := k.a1
    have k2 := k.ab
    have k3 := k.b100
    have nd := sc_undone_and_left.nd
    refine ⟨_, (pss_cons (ps_set (i := 2) nd rfl (Or.inl rfl) (pe_lst pa_nil))
      (pss_cons (ps_set (i := 3) nd rfl (Or.inl rfl) (pe_callTy call_list_of (by rfl) B.list (by decide +kernel) (pa_cons (pv 0) pa_nil)))
      (pss_cons (ps_while PassesOwn.never (PW.pt (pw_and (pt_not (pt_val (pe_cal C_is_pure (hr.mono (by decide)) (pa_cons (pv 3) pa_nil)))) (pw_and1 (pt_val (pe_cal C_is_power (hr.mono (by decide)) (pa_cons (pe_callB (cr_sum rfl) (by rfl) B.sum (by decide +kernel) (pa_cons (pv 3) pa_nil)) (pa_cons (pe_ix ix_tup (pv 1) pe_int (fun _ _ => rfl)) pa_nil))))))) (pss_cons (ps_set (i := 4) nd rfl (Or.inl rfl) (pe_cal C_last_liquid (hr.mono (by decide)) (pa_cons (pv 3) (pa_cons (pv 1) pa_nil))))
      (pss_cons (ps_if (pt_cmpR op_isN (pv 4) pe_non (nomark _))
      (pss_one (ps_ret (pe_tup (pa_cons (pv 2) (pa_cons (pv 3) pa_nil))))) pss_nil)
      (pss_cons (ps_expr (pe_bm PySem.F.plainAttrs_list PySem.F.slot_list_append PySem.F.type_list_append mt_append (pv 2) (pa_cons (pv 4) pa_nil)))
      (pss_one (ps_set (i := 3) nd rfl (Or.inl rfl) (pe_cal C_content_before (hr.mono (by decide)) (pa_cons (pv 3) (pa_cons (pv 1) (pa_cons (pv 4) pa_nil))))))))))
      (pss_one (ps_ret (pe_tup (pa_cons (pv 2) (pa_cons (pv 3) pa_nil)))))))), ?_⟩
    refine ⟨by show 0 ≤ 16777216; decide, fun U nU => ?_⟩
    have sU := sameN (o := .lst []) nU
    have hU0 : L2.upd H U (.lst []) U = some (.lst []) := upd_same
    generalize L2.upd H U (.lst []) = HU at *
    refine ⟨.ref l, rfl, l, _, rfl, .inl (SqL.of (sU _ _ hl)), fun L0 nL0 => ?_⟩
    have sL := sameN (o := .lst (ns.map V.int)) nL0
    have hL0 : L2.upd HU L0 (.lst (ns.map V.int)) L0 = some (.lst (ns.map V.int)) := upd_same
    have hU1 := sL _ _ hU0
    have hUL : U ≠ L0 := fun z => by rw [z, nL0] at hU0; cases hU0
    generalize L2.upd HU L0 (.lst (ns.map V.int)) = HL at *
    refine ⟨fun m σ H' => ∃ (us : List Nat) (ms : List Int) (L : Addr) (y : Option V), σ = [some (.ref l), some (.ref t), some (.ref U), some (.ref L), y] ∧ Un a b ns us ms ∧ Same H H' ∧ H' U = some (.lst ((rowI us).map V.int)) ∧ LI H' L ms ∧ H U = none ∧ H L = none ∧ U ≠ L ∧ m = ms.sum.toNat, ⟨_, [], ns, L0, none, rfl, .nil, sU.trans sL, hU1, hL0, nU, sU.free nL0, hUL, rfl⟩, fun m σ H' hW => ?_⟩
    obtain ⟨us, ms, L, y, rfl, u, s1, hU, hL, fU, fL, nUL, rfl⟩ := hW
    have cm := u.con k hc
    have zm : ms.sum < 2 ^ 7000 := Int.lt_of_le_of_lt (u.sum k hc) hz
    have pm := cm.amt.pos
    have ht1 := s1 _ _ ht
    have eu := u.und k hc
    refine ⟨.ref L, rfl, L, ms, rfl, hL, _, rfl, ?_⟩
    have fin : (∀ c, ¬ Goes ms a b c) → ∀ p H2, Same H' H2 → H' p = none → H2 p = some (.tup [.ref U, .ref L]) → Q (.ref p) H2 := fun hn p H2 s2 np hp => by
      rw [und_stop cm hn, List.append_nil] at eu
      refine q p U L H2 (s1.trans s2) (s1.free np) fU fL nUL hp ?_ ?_
      · rw [eu]; exact s2 _ _ hU
      · rw [eu]; exact s2 _ _ hL
    have ret : (∀ c, ¬ Goes ms a b c) → ∀ (y4 : Option V) (p : Addr), H' p = none → Q (.ref p) (L2.upd H' p (.tup [.ref U, .ref L])) := fun hn _ p np => fin hn p _ (sameN np) np upd_same
    by_cases h1 : ms.sum = 1
    · rw [decide_eq_true h1]
      refine iteF ⟨.ref U, rfl, .ref L, rfl, by show 2 ≤ 16777216; decide, fun p np => ret (fun c G => G.s1 h1) none p np⟩
    · rw [decide_eq_false h1]
      refine iteT ⟨.ref L, rfl, L, ms, rfl, SqL.of hL, .ref t, rfl, t, _, 1, .int b, rfl, rfl, SqT.of ht1, rfl, ms.sum, b, rfl, by omega, by omega, k3, _, rfl, ?_⟩
      cases hp : powB b ms.sum with
      | false =>
        refine iteF ⟨.ref U, rfl, .ref L, rfl, by show 2 ≤ 16777216; decide, fun p np => ret (fun c G => by have := G.pw; rw [hp] at this; cases this) none p np⟩
      | true =>
        refine iteT ⟨fun σ' H2 => ∃ m', m' < ms.sum.toNat ∧ ∃ (us : List Nat) (ms : List Int) (L : Addr) (y : Option V), σ' = [some (.ref l), some (.ref t), some (.ref U), some (.ref L), y] ∧ Un a b ns us ms ∧ Same H H2 ∧ H2 U = some (.lst ((rowI us).map V.int)) ∧ LI H2 L ms ∧ H U = none ∧ H L = none ∧ U ≠ L ∧ m' = ms.sum.toNat, fun σ' H2 h => h, ?_⟩
        refine ⟨.ref L, rfl, .ref t, rfl, L, t, ms, a, b, rfl, hL, cm, ht1, k, zm, fun H2 s2 => ?_⟩
        cases hla : lastL ms a b with
        | none =>
          refine ⟨.non, rfl, rfl, _, rfl, ?_⟩
          rw [decide_eq_true rfl]
          exact iteT ⟨.ref U, rfl, .ref L, rfl, by show 2 ≤ 16777216; decide, fun p np => fin (fun c G => by have := G.la; rw [hla] at this; cases this) p _ (s2.trans (sameN np)) (s2.free np) upd_same⟩
        | some c =>
          have G : Goes ms a b c := ⟨h1, hp, hla⟩
          obtain ⟨hcl, hcf⟩ := lastL_some hla
          refine ⟨.int (c : Nat), rfl, rfl, _, rfl, ?_⟩
          rw [decide_eq_false (fun z => by cases z)]
          have hU2 := s2 _ _ hU
          have ul := u.len_lt k hc G hz
          refine iteF ⟨.ref U, rfl, .inl ⟨rfl, _, SqL.of hU2⟩, .int (c : Nat), rfl, U, _, _, rfl, rfl, hU2, ?_, ?_⟩
          · rw [List.length_map, rowI_len]
            show us.length < 16777216
            omega
          have s3 : Same H (L2.upd H2 U (.lst ((rowI us).map V.int ++ [.int (c : Nat)]))) := fun x o hx => by
            rw [upd_ne (ne_of_none hx fU)]
            exact (s1.trans s2) x o hx
          have hL3 : LI (L2.upd H2 U (.lst ((rowI us).map V.int ++ [.int (c : Nat)]))) L ms := by
            show L2.upd _ _ _ L = _
            rw [upd_ne (fun z => nUL z.symm)]
            exact s2 _ _ hL
          have hU3 : L2.upd H2 U (.lst ((rowI us).map V.int ++ [.int (c : Nat)])) U = some (.lst ((rowI (us ++ [c])).map V.int)) := by rw [upd_same, rowI_app]
          generalize L2.upd H2 U (.lst ((rowI us).map V.int ++ [.int (c : Nat)])) = H3 at *
          refine ⟨.ref L, rfl, .ref t, rfl, .int (c : Nat), rfl, L, t, ms, a, b, c, rfl, hL3, cm, s3 _ _ ht, k, hcl, hcf, zm, fun p H4 s4 np lp => ?_⟩
          have hlt := G.lt cm k
          have pb := (G.con cm k).amt.pos
          have hUp : U ≠ p := fun z => by
            rw [← z, hU3] at np
            cases np
          have hlt2 : (befo ms a b c).sum.toNat < ms.sum.toNat := by
            clear hz zm ul
            omega
          exact ⟨_, hlt2, us ++ [c], befo ms a b c, p, some (.int (c : Nat)), rfl, .go u G, s3.trans s4, s4 _ _ hU3, lp, fU, s3.free np, hUp, rfl⟩

end
end K09
end

section
set_option Elab.async false
set_option linter.all false
set_option maxRecDepth 100000
set_option maxHeartbeats 4000000
namespace K09
open PySem PySem.Spec PyProof.Rows L2 GxR Gx Ma Mc
section
variable {P : Program} {w : World} {K : PySem.W.Frag} {mg : Str → Option Value} {base : Heap}

/-- histories as tuples (start, row), the rows in lists of their own -/
inductive HA (H0 H : Hp) : List (Addr × Addr) → List (Nat × List Nat) → Prop
  | nil : HA H0 H [] []
  | cons {x : Addr × Addr} {ps : List (Addr × Addr)} {h : Nat × List Nat} {hs : List (Nat × List Nat)} : H x.1 = some (.tup [.int (h.1 : Nat), .ref x.2]) → LI H x.2 (rowI h.2) → H0 x.1 = none → H0 x.2 = none → HA H0 H ps hs → HA H0 H (x :: ps) (h :: hs)
theorem HA.len {H0 H : Hp} : ∀ {ps : List (Addr × Addr)} {hs : List (Nat × List Nat)}, HA H0 H ps hs → ps.length = hs.length
  | _, _, .nil => rfl
  | _, _, .cons _ _ _ _ r => congrArg (· + 1) r.len
theorem HA.same {H0 H H' : Hp} (s : Same H H') : ∀ {ps : List (Addr × Addr)} {hs : List (Nat × List Nat)}, HA H0 H ps hs → HA H0 H' ps hs
  | _, _, .nil => .nil
  | _, _, .cons a b c d r => .cons (s _ _ a) (s _ _ b) c d (r.same s)
theorem HA.down {H0 H1 H : Hp} (s : ∀ x, H1 x = none → H0 x = none) : ∀ {ps : List (Addr × Addr)} {hs : List (Nat × List Nat)}, HA H1 H ps hs → HA H0 H ps hs
  | _, _, .nil => .nil
  | _, _, .cons a b c d r => .cons a b (s _ c) (s _ d) (r.down s)
theorem HA.at {H0 H : Hp} : ∀ {ps : List (Addr × Addr)} {hs : List (Nat × List Nat)}, HA H0 H ps hs → ∀ (i : Nat) (x : Addr × Addr), ps[i]? = some x → ∃ h : Nat × List Nat, hs[i]? = some h ∧ H x.1 = some (.tup [.int (h.1 : Nat), .ref x.2]) ∧ LI H x.2 (rowI h.2) ∧ H0 x.1 = none ∧ H0 x.2 = none
  | _, _, .cons a b c d r, 0, x, e => by cases e; exact ⟨_, rfl, a, b, c, d⟩
  | _, _, .cons a b c d r, i + 1, x, e => r.at i x e
theorem HA.snoc {H0 H : Hp} {x : Addr × Addr} {h : Nat × List Nat} (a : H x.1 = some (.tup [.int (h.1 : Nat), .ref x.2])) (b : LI H x.2 (rowI h.2)) (c : H0 x.1 = none) (d : H0 x.2 = none) : ∀ {ps : List (Addr × Addr)} {hs : List (Nat × List Nat)}, HA H0 H ps hs → HA H0 H (ps ++ [x]) (hs ++ [h])
  | _, _, .nil => .cons a b c d .nil
  | _, _, .cons a' b' c' d' r => .cons a' b' c' d' (HA.snoc a b c d r)
structure HistL (H0 H : Hp) (p : Addr) (ps : List (Addr × Addr)) (hs : List (Nat × List Nat)) : Prop where
  at_ : H p = some (.lst (ps.map fun x => V.ref x.1))
  new : H0 p = none
  ha : HA H0 H ps hs
  nd : (ps.map (·.2)).Nodup
def sp_shorts : Sp := fun vs H Q _ => ∃ (l t : Addr) (ns : List Int) (a b : Int), vs = [V.ref l, V.ref t] ∧ LI H l ns ∧ Con ns ∧ H t = some (.tup [.int a, .int b]) ∧ Kep a b ∧ ns.sum < 2 ^ 7000 ∧ ∀ p ps H', Same H H' → HistL H H' p ps (shorts ns a b) → Q (.ref p) H'
theorem shaped_pair (a b : Int) : SeqAt.shaped (.tuple [.int a, .int b]) = true := rfl
theorem eqv_pair (a b c d : Int) : PyData.eqv (.tuple [.int a, .int b]) (.tuple [.int c, .int d]) = decide (a = c ∧ b = d) := by
  by_cases h : a = c
  · subst h
    by_cases h2 : b = d
    · subst h2
      rw [decide_eq_true ⟨rfl, rfl⟩]
      exact SeqAt.eqv_refl _ rfl
    · rw [decide_eq_false fun z => h2 z.2]
      simp [PyData.eqv, PyData.eqvAll, h2]
  · rw [decide_eq_false fun z => h z.1]
    simp [PyData.eqv, PyData.eqvAll, h]
theorem rowI_rev (us : List Nat) : ((rowI us).map V.int).reverse = (rowI us.reverse).map V.int := by
  unfold rowI
  rw [List.map_map, List.map_map, List.map_reverse]
theorem dp_pair {K : PySem.W.Frag} {H : Hp} {t : Addr} {x y : Int} (h : H t = some (.tup [.int x, .int y])) : Dp K H (.ref t) (.tuple [.int x, .int y]) := .tup (SqT.of h) (.cons (.int x) (.cons (.int y) .nil))
theorem cut_tail (xs : List V) : cutV xs (some 1) none = xs.drop 1 := by
  unfold cutV
  rw [show (1 : Int) = ((1 : Nat) : Int) from rfl, HT.sIx_nat, HT.sIx_none]
  by_cases h : 1 ≤ xs.length
  · rw [Nat.min_eq_left h, List.take_of_length_le (by rw [List.length_drop]; omega)]
  · rw [Nat.min_eq_right (by omega), List.drop_length, Nat.sub_self, List.drop_of_length_le (by omega)]
    rfl
theorem ixf {ns : List Int} {m : Nat} {z : V} (h : m < startOf ns) (e : (ns.map V.int)[m]? = some z) : eqV z (.int 1) = false := by
  obtain ⟨n, hn, rfl⟩ := map_get e
  have h1 := start_min h
  rw [getD_of hn] at h1
  show (n == 1) = false
  simpa using h1
theorem flat_ints (ns : List Int) : (ns.map V.int).all flatV = true := by
  rw [List.all_eq_true]
  intro x hx
  obtain ⟨n, _, rfl⟩ := List.mem_map.mp hx
  rfl

theorem ok_short_histories {f : Addr} {fd : FuncData}  (F : Fun K "short_histories" "short_histories" s_short_histories f fd) (B : Bl mg) (C_undone_and_left : Cal P w K mg base 4 "undone_and_left" ["content", "kept"] sp_undone) (C_is_pure : Cal P w K mg base 1 "is_pure" ["content"] sp_is_pure) : FnOk P w K mg base CX0 5 f fd ["content", "kept"] (sp_shorts) := by
  refine F.ok sc_short_histories (fun vs H Q E h => ?_) (fun cdv A outer s H vs Q E hr h => ?_)
  · obtain ⟨l, t, ns, a, b, rfl, _⟩ := h; rfl
  · obtain ⟨l, t, ns, a, b, rfl, hl, hc, ht, k, hz, q⟩ := h
    have k1 := k.a1
    have k2 := k.ab
    have k3 := k.b100
    have nd := sc_short_histories.nd
    refine ⟨_, (pss_cons (ps_asg (pe_cal C_undone_and_left (hr.mono (by decide)) (pa_cons (pv 0) (pa_cons (pv 1) pa_nil))) (pg_tup (by rfl) (pgs_cons (pg_name (i := 2) nd rfl (Or.inl rfl)) (pgs_cons (pg_name (i := 3) nd rfl (Or.inl rfl)) pgs_nil))))
      (pss_cons (ps_if (pt_not (pt_val (pe_cal C_is_pure (hr.mono (by decide)) (pa_cons (pv 3) pa_nil))))
      (pss_one (ps_ret (pe_lst pa_nil))) pss_nil)
      (pss_cons (ps_set (i := 4) nd rfl (Or.inl rfl) (pe_bm PySem.F.plainAttrs_list PySem.F.slot_list_index PySem.F.type_list_index mt_index (pv 3) (pa_cons pe_int pa_nil)))
      (pss_cons (ps_set (i := 5) nd rfl (Or.inl rfl) (pe_revL (pv 2)))
      (pss_cons (ps_if (PW.pt (pw_and (pt_cmpR (op_eqD hr.units) (pv 1) (pe_tup (pa_cons pe_int (pa_cons pe_int pa_nil))) (nomark _)) (pw_and1 (pt_truth (pv 5) (by intro _; rfl)))))
      (pss_one (ps_ret (pe_lst (pa_cons (pe_tup (pa_cons (pv 4) (pa_cons (pv 5) pa_nil))) (pa_cons (pe_tup (pa_cons (pe_ix ix_list (pv 5) pe_int (fun _ _ => rfl)) (pa_cons (pe_op op_cat (pe_lst (pa_cons (pv 4) pa_nil)) (pe_slice sl_list (pv 5) (po_some pe_int) po_none)) pa_nil))) pa_nil))))) pss_nil)
      (pss_one (ps_ret (pe_lst (pa_cons (pe_tup (pa_cons (pv 4) (pa_cons (pv 5) pa_nil))) pa_nil))))))))), ?_⟩
    refine ⟨.ref l, rfl, .ref t, rfl, l, t, ns, a, b, rfl, hl, hc, ht, k, hz, fun p u v H1 s1 np nu nv nuv hp hu hv => ?_⟩
    refine ⟨p, [_, _], rfl, SqT.of hp, rfl, _, _, rfl, _, _, rfl, rfl, ?_⟩
    have cv := und_con k hc
    have us := und_size k hc hz
    have ul := und_liq k hc
    have eS : shorts ns a b = if (und ns a b).2.sum = 1 then shortsOf (startOf (und ns a b).2) (und ns a b).1.reverse a b else [] := rfl
    generalize (und ns a b).2 = L at *
    generalize (und ns a b).1 = U at *
    refine ⟨.ref v, rfl, v, L, rfl, hv, _, rfl, ?_⟩
    by_cases h1 : L.sum = 1
    · rw [if_pos h1] at eS
      rw [decide_eq_true h1]
      obtain ⟨i1, i2⟩ := start_at cv.nn h1
      have i8 := cv.le8
      refine iteF ⟨.ref v, rfl, .inl ⟨rfl, _, SqL.of hv⟩, v, _, .int 1, startOf L, .int 1, rfl, rfl, SqL.of hv, rfl, flat_ints L, get_map i2, rfl, fun m z hm hz => ixf hm hz, ?_⟩
      refine ⟨.ref u, rfl, u, _, rfl, SqL.of hu, fun r nr => ?_⟩
      rw [rowI_rev]
      have sr := sameN (o := .lst ((rowI U.reverse).map V.int)) nr
      have hr0 : L2.upd H1 r (.lst ((rowI U.reverse).map V.int)) r = some (.lst ((rowI U.reverse).map V.int)) := upd_same
      have fr : H r = none := s1.free nr
      generalize L2.upd H1 r (.lst ((rowI U.reverse).map V.int)) = H2 at *
      have s2 := s1.trans sr
      have rl : U.reverse.length ≤ 7000 := by rw [List.length_reverse]; exact us
      generalize U.reverse = row at *
      generalize startOf L = st at *
      refine ⟨.ref t, rfl, by show 2 ≤ 16777216; decide, fun t2 nt2 => ?_⟩
      have s3 := sameN (o := .tup [.int 1, .int 2]) nt2
      have ht2 : L2.upd H2 t2 (.tup [.int 1, .int 2]) t2 = some (.tup [.int 1, .int 2]) := upd_same
      generalize L2.upd H2 t2 (.tup [.int 1, .int 2]) = H3 at *
      have s4 := s2.trans s3
      have hr3 := s3 _ _ hr0
      refine ⟨_, _, dp_pair (s4 _ _ ht), dp_pair ht2, shaped_pair a b, rfl, ?_⟩
      rw [eqv_pair]
      have single : shorts ns a b = [(st, row)] → ∀ (p1 p2 : Addr), H3 p1 = none → L2.upd H3 p1 (.tup [.int (st : Nat), .ref r]) p2 = none → Q (.ref p2) (L2.upd (L2.upd H3 p1 (.tup [.int (st : Nat), .ref r])) p2 (.lst [.ref p1])) := fun e p1 p2 n1 n2 => by
        have e1 := sameN (o := .tup [.int (st : Nat), .ref r]) n1
        have e2 := sameN (o := .lst [.ref p1]) n2
        refine q p2 [(p1, r)] _ ((s4.trans e1).trans e2) ⟨upd_same, (s4.trans e1).free n2, ?_, by simp⟩
        rw [e]
        exact .cons (e2 _ _ upd_same) (e2 _ _ (e1 _ _ hr3)) (s4.free n1) fr .nil
      refine ⟨_, rfl, ?_⟩
      by_cases hab : a = 1 ∧ b = 2
      · rw [decide_eq_true hab]
        refine iteT ⟨.ref r, rfl, _, .inl ⟨_, SqL.of hr3, rfl⟩, ?_⟩
        rw [rowI_emp]
        cases row with
        | nil =>
          refine iteF ⟨.int (st : Nat), rfl, .ref r, rfl, by show 2 ≤ 16777216; decide, fun p1 n1 => ⟨by show 1 ≤ 16777216; decide, fun p2 n2 => ?_⟩⟩
          exact single (by rw [eS]; unfold shortsOf; rw [if_pos hab]) p1 p2 n1 n2
        | cons c rr =>
          have eS2 : shorts ns a b = [(st, c :: rr), (c, st :: rr)] := by rw [eS]; unfold shortsOf; rw [if_pos hab]
          refine iteT ⟨.int (st : Nat), rfl, .ref r, rfl, by show 2 ≤ 16777216; decide, fun p1 n1 => ?_⟩
          have e1 := sameN (o := .tup [.int (st : Nat), .ref r]) n1
          have hp1 : L2.upd H3 p1 (.tup [.int (st : Nat), .ref r]) p1 = some (.tup [.int (st : Nat), .ref r]) := upd_same
          have f1 := s4.free n1
          generalize L2.upd H3 p1 (.tup [.int (st : Nat), .ref r]) = H4 at *
          have hr4 := e1 _ _ hr3
          refine ⟨.ref r, rfl, r, _, 0, .int (c : Nat), rfl, rfl, SqL.of hr4, (show atI ((rowI (c :: rr)).map V.int) ((0 : Nat) : Int) = _ from atI_nat rfl), .int (st : Nat), rfl, by show 1 ≤ 16777216; decide, fun o1 no1 => ?_⟩
          have e2 := sameN (o := .lst [.int (st : Nat)]) no1
          have ho1 : L2.upd H4 o1 (.lst [.int (st : Nat)]) o1 = some (.lst [.int (st : Nat)]) := upd_same
          generalize L2.upd H4 o1 (.lst [.int (st : Nat)]) = H5 at *
          have hr5 := e2 _ _ hr4
          refine ⟨.ref r, rfl, 1, rfl, r, _, rfl, SqL.of hr5, fun o2 no2 => ?_⟩
          rw [cut_tail]
          have e3 := sameN (o := .lst (((rowI (c :: rr)).map V.int).drop 1)) no2
          have ho2 : L2.upd H5 o2 (.lst (((rowI (c :: rr)).map V.int).drop 1)) o2 = some (.lst (((rowI (c :: rr)).map V.int).drop 1)) := upd_same
          generalize L2.upd H5 o2 (.lst (((rowI (c :: rr)).map V.int).drop 1)) = H6 at *
          refine ⟨o1, o2, _, _, rfl, rfl, e3 _ _ ho1, ho2, ?_, fun r2 nr2 => ?_⟩
          · rw [List.length_drop, List.length_map, rowI_len]
            show 1 + _ ≤ 16777216
            omega
          have e4 := sameN (o := .lst ([.int (st : Nat)] ++ ((rowI (c :: rr)).map V.int).drop 1)) nr2
          have hr2 : L2.upd H6 r2 (.lst ([.int (st : Nat)] ++ ((rowI (c :: rr)).map V.int).drop 1)) r2 = some (.lst ((rowI (st :: rr)).map V.int)) := by rw [upd_same]; rfl
          have s6 := (s4.trans e1).trans (e2.trans e3)
          have fr2 := s6.free nr2
          have rr2 : r ≠ r2 := fun z => by rw [← z, e3 _ _ hr5] at nr2; cases nr2
          generalize L2.upd H6 r2 (.lst ([.int (st : Nat)] ++ ((rowI (c :: rr)).map V.int).drop 1)) = H7 at *
          refine ⟨by show 2 ≤ 16777216; decide, fun p2 n2 => ?_⟩
          have e5 := sameN (o := .tup [.int (c : Nat), .ref r2]) n2
          have hp2 : L2.upd H7 p2 (.tup [.int (c : Nat), .ref r2]) p2 = some (.tup [.int (c : Nat), .ref r2]) := upd_same
          have s7 := s6.trans e4
          have f2 := s7.free n2
          generalize L2.upd H7 p2 (.tup [.int (c : Nat), .ref r2]) = H8 at *
          refine ⟨by show 2 ≤ 16777216; decide, fun p3 n3 => ?_⟩
          have e6 := sameN (o := .lst [.ref p1, .ref p2]) n3
          have s8 := s7.trans e5
          have ea := ((e2.trans e3).trans (e4.trans e5)).trans e6
          refine q p3 [(p1, r), (p2, r2)] _ (s8.trans e6) ⟨upd_same, s8.free n3, ?_, ?_⟩
          · rw [eS2]
            exact .cons (ea _ _ hp1) (ea _ _ hr4) f1 fr (.cons (e6 _ _ hp2) (e6 _ _ (e5 _ _ hr2)) f2 fr2 .nil)
          · show [r, r2].Nodup
            simp [rr2]
      · rw [decide_eq_false hab]
        refine iteF ⟨.int (st : Nat), rfl, .ref r, rfl, by show 2 ≤ 16777216; decide, fun p1 n1 => ⟨by show 1 ≤ 16777216; decide, fun p2 n2 => ?_⟩⟩
        exact single (by rw [eS]; unfold shortsOf; rw [if_neg hab]) p1 p2 n1 n2
    · rw [if_neg h1] at eS
      rw [decide_eq_false h1]
      refine iteT ⟨by show 0 ≤ 16777216; decide, fun p2 n2 => ?_⟩
      exact q p2 [] _ (s1.trans (sameN n2)) ⟨upd_same, s1.free n2, by rw [eS]; exact .nil, by simp⟩

end
end K09
end

section
set_option Elab.async false
set_option linter.all false
set_option maxRecDepth 100000
set_option maxHeartbeats 4000000
namespace K09
open PySem PySem.Spec PyProof.Rows L2 GxR Gx Ma Mc
section
variable {P : Program} {w : World} {K : PySem.W.Frag} {mg : Str → Option Value} {base : Heap}

def sp_hist (T : Addr) : Sp := fun vs H Q _ => ∃ (l t : Addr) (ns : List Int) (a b : Int), vs = [V.ref l, V.ref t] ∧ LI H l ns ∧ Con ns ∧ H t = some (.tup [.int a, .int b]) ∧ Kep a b ∧ ns.sum < 2 ^ 7000 ∧ H T = some (TabO T) ∧ (∀ h r, shorts ns a b = h :: r → ∀ p u H', Same H H' → H p = none → H u = none → p ≠ u → H' p = some (.tup [.int (h.1 : Nat), .ref u]) → LI H' u (rowI h.2) → Q (.ref p) H') ∧ (shorts ns a b = [] → ∀ H', Same H H' → Q .non H')
def sp_stuck (T : Addr) : Sp := fun vs H Q _ => ∃ (l t : Addr) (ns : List Int) (a b : Int), vs = [V.ref l, V.ref t] ∧ LI H l ns ∧ Con ns ∧ H t = some (.tup [.int a, .int b]) ∧ Kep a b ∧ ns.sum < 2 ^ 7000 ∧ H T = some (TabO T) ∧ ((und ns a b).2.sum = 1 → ∀ H', Same H H' → Q .non H') ∧ ((und ns a b).2.sum ≠ 1 → ∀ p u v H', Same H H' → H p = none → H u = none → H v = none → u ≠ v → H' p = some (.tup [.ref u, .ref v]) → LI H' u (rowI (und ns a b).1) → LI H' v (und ns a b).2 → Q (.ref p) H')
def sp_hofl : Sp := fun vs H Q _ => ∃ (l t : Addr) (ns : List Int) (a b : Int) (n : Nat), vs = [V.ref l, V.ref t, V.int n] ∧ LI H l ns ∧ Con ns ∧ H t = some (.tup [.int a, .int b]) ∧ Kep a b ∧ ns.sum < 2 ^ 7000 ∧ n ≤ 60 ∧ ∀ p ps H', Same H H' → HistL H H' p ps (hofl ns a b n) → Q (.ref p) H'
def sp_allh (T : Addr) : Sp := fun vs H Q _ => ∃ (l t : Addr) (ns : List Int) (a b : Int) (n : Nat), vs = [V.ref l, V.ref t, V.int n] ∧ LI H l ns ∧ Con ns ∧ H t = some (.tup [.int a, .int b]) ∧ Kep a b ∧ ns.sum < 2 ^ 7000 ∧ H T = some (TabO T) ∧ n ≤ 60 ∧ ∀ p ps H', Same H H' → HistL H H' p ps (hofl ns a b n) → Q (.ref p) H'

theorem ok_history_of {f : Addr} {fd : FuncData}  (F : Fun K "history_of" "history_of" s_history_of f fd) (B : Bl mg) {T : Addr} (C_check_content : Cal P w K mg base 7 "check_content" ["content"] (sp_check_content T)) (C_check_kept : Cal P w K mg base 4 "check_kept" ["kept"] sp_check_kept) (C_short_histories : Cal P w K mg base 5 "short_histories" ["content", "kept"] sp_shorts) : FnOk P w K mg base CX0 8 f fd ["content", "kept"] (sp_hist T) := by
  refine F.ok sc_history_of (fun vs H Q E h => ?_) (fun cdv A outer s H vs Q E hr h => ?_)
  · obtain ⟨l, t, ns, a, b, rfl, _⟩ := h; rfl
  · obtain ⟨l, t, ns, a, b, rfl, hl, hc, ht, k, hz, hT, q1, q2⟩ := h
    have nd := sc_history_of.nd
    refine ⟨_, (pss_cons (ps_expr (pe_cal C_check_content (hr.mono (by decide)) (pa_cons (pv 0) pa_nil)))
      (pss_cons (ps_expr (pe_cal C_check_kept (hr.mono (by decide)) (pa_cons (pv 1) pa_nil)))
      (pss_cons (ps_set (i := 2) nd rfl (Or.inl rfl) (pe_cal C_short_histories (hr.mono (by decide)) (pa_cons (pv 0) (pa_cons (pv 1) pa_nil))))
      (pss_one (ps_ret (pe_ifExp (pt_truth (pv 2) (by intro _; rfl)) (pe_ix ix_list (pv 2) pe_int (fun _ _ => rfl)) pe_non)))))), ?_⟩
    refine ⟨.ref l, rfl, l, ns, rfl, hl, hc, hT, .ref t, rfl, t, a, b, rfl, ht, k, ?_⟩
    refine ⟨.ref l, rfl, .ref t, rfl, l, t, ns, a, b, rfl, hl, hc, ht, k, hz, fun p ps H1 s1 HL => ?_⟩
    have hat := HL.at_
    have ha := HL.ha
    refine ⟨.ref p, rfl, _, .inl ⟨_, SqL.of hat, rfl⟩, ?_⟩
    generalize hE : shorts ns a b = hs at *
    cases ha with
    | nil => exact iteF (q2 rfl _ s1)
    | cons e1 e2 e3 e4 r =>
      rename_i x ps h hs
      refine iteT ⟨.ref p, rfl, p, _, 0, .ref x.1, rfl, rfl, SqL.of hat, (show atI _ ((0 : Nat) : Int) = _ from atI_nat rfl), ?_⟩
      refine q1 _ _ rfl x.1 x.2 H1 s1 e3 e4 (fun z => ?_) e1 e2
      have e2' : H1 x.2 = some (.lst ((rowI h.2).map V.int)) := e2
      rw [← z, e1] at e2'
      cases e2'

theorem ok_stuck_at {f : Addr} {fd : FuncData}  (F : Fun K "stuck_at" "stuck_at" s_stuck_at f fd) (B : Bl mg) {T : Addr} (C_check_content : Cal P w K mg base 7 "check_content" ["content"] (sp_check_content T)) (C_check_kept : Cal P w K mg base 4 "check_kept" ["kept"] sp_check_kept) (C_undone_and_left : Cal P w K mg base 4 "undone_and_left" ["content", "kept"] sp_undone) (C_is_pure : Cal P w K mg base 1 "is_pure" ["content"] sp_is_pure) : FnOk P w K mg base CX0 8 f fd ["content", "kept"] (sp_stuck T) := by
  refine F.ok sc_stuck_at (fun vs H Q E h => ?_) (fun cdv A outer s H vs Q E hr h => ?_)
  · obtain ⟨l, t, ns, a, b, rfl, _⟩ := h; rfl
  · obtain ⟨l, t, ns, a, b, rfl, hl, hc, ht, k, hz, hT, q1, q2⟩ := h
    have nd := sc_stuck_at.nd
    refine ⟨_, (pss_cons (ps_expr (pe_cal C_check_content (hr.mono (by decide)) (pa_cons (pv 0) pa_nil)))
      (pss_cons (ps_expr (pe_cal C_check_kept (hr.mono (by decide)) (pa_cons (pv 1) pa_nil)))
      (pss_cons (ps_asg (pe_cal C_undone_and_left (hr.mono (by decide)) (pa_cons (pv 0) (pa_cons (pv 1) pa_nil))) (pg_tup (by rfl) (pgs_cons (pg_name (i := 2) nd rfl (Or.inl rfl)) (pgs_cons (pg_name (i := 3) nd rfl (Or.inl rfl)) pgs_nil))))
      (pss_one (ps_ret (pe_ifExp (pt_val (pe_cal C_is_pure (hr.mono (by decide)) (pa_cons (pv 3) pa_nil))) pe_non (pe_tup (pa_cons (pv 2) (pa_cons (pv 3) pa_nil))))))))), ?_⟩
    refine ⟨.ref l, rfl, l, ns, rfl, hl, hc, hT, .ref t, rfl, t, a, b, rfl, ht, k, ?_⟩
    refine ⟨.ref l, rfl, .ref t, rfl, l, t, ns, a, b, rfl, hl, hc, ht, k, hz, fun p u v H1 s1 np nu nv nuv hp hu hv => ?_⟩
    refine ⟨p, [_, _], rfl, SqT.of hp, rfl, _, _, rfl, _, _, rfl, rfl, ?_⟩
    refine ⟨.ref v, rfl, v, _, rfl, hv, _, rfl, ?_⟩
    by_cases h1 : (und ns a b).2.sum = 1
    · rw [decide_eq_true h1]
      exact iteT (q1 h1 H1 s1)
    · rw [decide_eq_false h1]
      exact iteF ⟨.ref u, rfl, .ref v, rfl, by show 2 ≤ 16777216; decide, fun p2 n2 => q2 h1 p2 u v _ (s1.trans (sameN n2)) (s1.free n2) nu nv nuv upd_same ((sameN n2) _ _ hu) ((sameN n2) _ _ hv)⟩

theorem rep_ints (s n : Nat) (row : List Nat) : (List.replicate n [V.int (s : Nat)]).flatten ++ (rowI row).map V.int = (rowI (List.replicate n s ++ row)).map V.int := by
  rw [rep_flat]
  unfold rowI
  rw [List.map_append, List.map_append, List.map_replicate, List.map_replicate]

theorem ok_histories_of_length {f : Addr} {fd : FuncData}  (F : Fun K "histories_of_length" "histories_of_length" s_histories_of_length f fd) (B : Bl mg) (C_short_histories : Cal P w K mg base 5 "short_histories" ["content", "kept"] sp_shorts) : FnOk P w K mg base CX0 6 f fd ["content", "kept", "number"] (sp_hofl) := by
  refine F.ok sc_histories_of_length (fun vs H Q E h => ?_) (fun cdv A outer s H vs Q E hr h => ?_)
  · obtain ⟨l, t, ns, a, b, n, rfl, _⟩ := h; rfl
  · obtain ⟨l, t, ns, a, b, n, rfl, hl, hc, ht, k, hz, hn, q⟩ := h
    have nd := sc_histories_of_length.nd
    refine ⟨_, (pss_cons (ps_set (i := 3) nd rfl (Or.inl rfl) (pe_lst pa_nil))
      (pss_cons (ps_for PassesOwn.never rfl (pi_list (pe_cal C_short_histories (hr.mono (by decide)) (pa_cons (pv 0) (pa_cons (pv 1) pa_nil)))) (pg_tup (by rfl) (pgs_cons (pg_name (i := 4) nd rfl (Or.inl rfl)) (pgs_cons (pg_name (i := 5) nd rfl (Or.inl rfl)) pgs_nil))) (pss_one (ps_if (pt_cmpR op_le (pe_callB call_len_seq (by rfl) B.len PySem.boot_len (pa_cons (pv 5) pa_nil)) (pv 2) (nomark _))
      (pss_one (ps_expr (pe_bm PySem.F.plainAttrs_list PySem.F.slot_list_append PySem.F.type_list_append mt_append (pv 3) (pa_cons (pe_tup (pa_cons (pv 4) (pa_cons (pe_op op_cat (pe_op op_rep (pe_lst (pa_cons (pv 4) pa_nil)) (pe_op op_sub (pv 2) (pe_callB call_len_seq (by rfl) B.len PySem.boot_len (pa_cons (pv 5) pa_nil)))) (pv 5)) pa_nil))) pa_nil)))) pss_nil)))
      (pss_one (ps_ret (pv 3))))), ?_⟩
    refine ⟨by show 0 ≤ 16777216; decide, fun D nD => ?_⟩
    have sD := sameN (o := .lst []) nD
    have hD0 : L2.upd H D (.lst []) D = some (.lst []) := upd_same
    generalize L2.upd H D (.lst []) = HD at *
    refine ⟨.ref l, rfl, .ref t, rfl, l, t, ns, a, b, rfl, sD _ _ hl, hc, sD _ _ ht, k, hz, fun p ps H1 s1 HL => ?_⟩
    have hlen := HL.ha.len
    have sz := shorts_size k hc hz
    refine ⟨p, rfl, ⟨_, SqL.of HL.at_⟩, for_list (xs := ps.map fun x => V.ref x.1) (fun i σ H' => ∃ y4 y5 qs, σ = [some (.ref l), some (.ref t), some (.int n), some (.ref D), y4, y5] ∧ Same H H' ∧ (∀ x o, x ≠ D → H1 x = some o → H' x = some o) ∧ H' D = some (.lst (qs.map fun x => V.ref x.1)) ∧ HA HD H' qs (((shorts ns a b).take i).filterMap (pad n)) ∧ (qs.map (·.2)).Nodup ∧ qs.length ≤ i) ⟨none, none, [], rfl, sD.trans s1, fun x o _ h => h, s1 _ _ hD0, .nil, List.nodup_nil, Nat.le_refl _⟩ (fun i σ H' _ ⟨_, _, _, _, _, e, _⟩ => ?_) (fun i x σ H' hx ⟨y4, y5, qs, e1, e2, e3, e4, e5, e6, e7⟩ => ?_) (fun σ H' ⟨y4, y5, qs, e1, e2, e3, e4, e5, e6, e7⟩ => ?_)⟩
    · exact SqL.of (e p _ (fun z => by have h1 := HL.new; rw [z, hD0] at h1; cases h1) HL.at_)
    · subst e1
      rw [List.getElem?_map] at hx
      cases hp : ps[i]? with
      | none => rw [hp] at hx; cases hx
      | some x0 =>
        rw [hp] at hx
        cases (show V.ref x0.1 = x from Option.some.inj hx)
        obtain ⟨h, hh, a1, a2, a3, a4⟩ := HL.ha.at i x0 hp
        have hi := (List.getElem?_eq_some_iff.mp hp).1
        have hl8 := (List.getElem?_eq_some_iff.mp hh).1
        have ne1 : ∀ x, HD x = none → x ≠ D := fun x hx z => by rw [z, hD0] at hx; cases hx
        have a1' := e3 _ _ (ne1 _ a3) a1
        have a2' : LI H' x0.2 (rowI h.2) := e3 _ _ (ne1 _ a4) a2
        have tk : ((shorts ns a b).take (i + 1)).filterMap (pad n) = ((shorts ns a b).take i).filterMap (pad n) ++ (pad n h).toList := by
          rw [List.take_add_one, hh, List.filterMap_append]
          show _ ++ [h].filterMap (pad n) = _
          cases e : pad n h <;> simp [e]
        have szh := sz h (List.mem_of_getElem? hh)
        refine ⟨x0.1, [_, _], rfl, SqT.of a1', rfl, _, _, rfl, _, _, rfl, rfl, ?_⟩
        refine ⟨.ref x0.2, rfl, x0.2, _, rfl, .inl (SqL.of a2'), .int n, rfl, _, n, rfl, rfl, _, rfl, ?_⟩
        rw [List.length_map, rowI_len]
        by_cases hle : h.2.length ≤ n
        · rw [decide_eq_true (show ((h.2.length : Nat) : Int) ≤ n by omega)]
          have ep : pad n h = some (h.1, List.replicate (n - h.2.length) h.1 ++ h.2) := by unfold pad; rw [if_pos hle]
          refine iteT ⟨.ref D, rfl, .inl ⟨rfl, _, SqL.of e4⟩, .int (h.1 : Nat), rfl, .int (h.1 : Nat), rfl, by show 1 ≤ 16777216; decide, fun o1 no1 => ?_⟩
          have b1 := sameN (o := .lst [.int (h.1 : Nat)]) no1
          have ho1 : L2.upd H' o1 (.lst [.int (h.1 : Nat)]) o1 = some (.lst [.int (h.1 : Nat)]) := upd_same
          generalize L2.upd H' o1 (.lst [.int (h.1 : Nat)]) = H2 at *
          refine ⟨.int n, rfl, .ref x0.2, rfl, x0.2, _, rfl, .inl (SqL.of (b1 _ _ a2')), n, _, rfl, rfl, o1, _, _, rfl, rfl, ho1, ?_, ?_, ?_, fun o2 no2 => ?_⟩
          · rw [List.length_map, rowI_len]; omega
          · rw [List.length_map, rowI_len]; omega
          · rw [List.length_map, rowI_len]
            show 1 * _ ≤ 16777216
            omega
          rw [List.length_map, rowI_len, show ((n : Int) - ((h.2.length : Nat) : Int)).toNat = n - h.2.length by omega]
          have b2 := sameN (o := .lst (List.replicate (n - h.2.length) [V.int (h.1 : Nat)]).flatten) no2
          have ho2 : L2.upd H2 o2 (.lst (List.replicate (n - h.2.length) [V.int (h.1 : Nat)]).flatten) o2 = some (.lst (List.replicate (n - h.2.length) [V.int (h.1 : Nat)]).flatten) := upd_same
          generalize L2.upd H2 o2 (.lst (List.replicate (n - h.2.length) [V.int (h.1 : Nat)]).flatten) = H3 at *
          refine ⟨.ref x0.2, rfl, o2, x0.2, _, _, rfl, rfl, ho2, b2 _ _ (b1 _ _ a2'), ?_, fun r nr => ?_⟩
          · rw [rep_flat, List.length_replicate, List.length_map, rowI_len]
            show _ ≤ 16777216
            omega
          rw [rep_ints]
          have b3 := sameN (o := .lst ((rowI (List.replicate (n - h.2.length) h.1 ++ h.2)).map V.int)) nr
          have hr0 : L2.upd H3 r (.lst ((rowI (List.replicate (n - h.2.length) h.1 ++ h.2)).map V.int)) r = some (.lst ((rowI (List.replicate (n - h.2.length) h.1 ++ h.2)).map V.int)) := upd_same
          have nr' : H' r = none := (b1.trans b2).free nr
          generalize L2.upd H3 r (.lst ((rowI (List.replicate (n - h.2.length) h.1 ++ h.2)).map V.int)) = H4 at *
          refine ⟨by show 2 ≤ 16777216; decide, fun p2 np2 => ?_⟩
          have b4 := sameN (o := .tup [.int (h.1 : Nat), .ref r]) np2
          have hp2 : L2.upd H4 p2 (.tup [.int (h.1 : Nat), .ref r]) p2 = some (.tup [.int (h.1 : Nat), .ref r]) := upd_same
          have np2' : H' p2 = none := ((b1.trans b2).trans b3).free np2
          generalize L2.upd H4 p2 (.tup [.int (h.1 : Nat), .ref r]) = H5 at *
          have bb := ((b1.trans b2).trans b3).trans b4
          refine ⟨D, _, _, rfl, rfl, bb _ _ e4, ?_, ?_⟩
          · rw [List.length_map]
            have h8 : (shorts ns a b).length ≤ 16 := by
              unfold shorts
              split
              · unfold shortsOf
                split
                · split <;> simp
                · simp
              · simp
            show qs.length < 16777216
            omega
          have fH : ∀ x, H' x = none → HD x = none := fun x hx => s1.free (by
            cases hq : H1 x with
            | none => rfl
            | some o =>
              by_cases hxD : x = D
              · rw [hxD, e4] at hx; cases hx
              · rw [e3 x o hxD hq] at hx; cases hx)
          have hAt : HA HD H5 qs (((shorts ns a b).take i).filterMap (pad n)) := e5.same bb
          have up : ∀ {qs : List (Addr × Addr)} {hs : List (Nat × List Nat)} {o : HO}, HA HD H5 qs hs → HA HD (L2.upd H5 D o) qs hs := fun {qs hs o} g => by
            induction g with
            | nil => exact .nil
            | cons c1 c2 c3 c4 r ih => exact .cons (by rw [upd_ne (ne1 _ c3)]; exact c1) (by show L2.upd _ _ _ _ = _; rw [upd_ne (ne1 _ c4)]; exact c2) c3 c4 ih
          have nDr := ne1 r (fH r nr')
          have nDp := ne1 p2 (fH p2 np2')
          have ex : qs.map (fun x => V.ref x.1) ++ [V.ref p2] = (qs ++ [(p2, r)]).map fun x => V.ref x.1 := by rw [List.map_append]; rfl
          rw [ex]
          refine ⟨_, _, qs ++ [(p2, r)], rfl, fun x o hx => ?_, fun x o hx ho => ?_, upd_same, ?_, ?_, ?_⟩
          · rw [upd_ne (ne_of_none hx nD)]
            exact bb _ _ (e2 x o hx)
          · rw [upd_ne hx]
            exact bb _ _ (e3 x o hx ho)
          · rw [tk, ep]
            exact HA.snoc (x := (p2, r)) (by rw [upd_ne nDp]; exact hp2) (by show L2.upd _ _ _ r = _; rw [upd_ne nDr]; exact b4 _ _ hr0) (fH p2 np2') (fH r nr') (up hAt)
          · rw [List.map_append, List.nodup_append]
            refine ⟨e6, by simp, fun y hy z hz => ?_⟩
            rw [List.mem_singleton.mp hz]
            obtain ⟨x1, hx1, rfl⟩ := List.mem_map.mp hy
            obtain ⟨m, hm, em⟩ := List.mem_iff_getElem.mp hx1
            obtain ⟨h5, _, _, c2, _, _⟩ := e5.at m x1 (by rw [List.getElem?_eq_getElem hm, em])
            intro z2
            rw [z2] at c2
            have c2' : H' r = some _ := c2
            rw [nr'] at c2'
            cases c2'
          · rw [List.length_append]
            show qs.length + 1 ≤ i + 1
            omega
        · rw [decide_eq_false (show ¬ ((h.2.length : Nat) : Int) ≤ n by omega)]
          refine iteF ⟨some (.int (h.1 : Nat)), some (.ref x0.2), qs, rfl, e2, e3, e4, ?_, e6, by omega⟩
          rw [tk]
          have ep : pad n h = none := by unfold pad; rw [if_neg hle]
          rw [ep]
          simpa using e5
    · subst e1
      rw [List.length_map, hlen, List.take_length] at e5
      exact ⟨.ref D, rfl, q D qs _ e2 ⟨e4, nD, e5.down (fun x hx => sD.free hx), e6⟩⟩

theorem ok_all_histories {f : Addr} {fd : FuncData}  (F : Fun K "all_histories" "all_histories" s_all_histories f fd) (B : Bl mg) {T : Addr} (C_check_content : Cal P w K mg base 7 "check_content" ["content"] (sp_check_content T)) (C_check_kept : Cal P w K mg base 4 "check_kept" ["kept"] sp_check_kept) (C_check_number : Cal P w K mg base 3 "check_number" ["number", "least", "most"] sp_check_number) (C_histories_of_length : Cal P w K mg base 6 "histories_of_length" ["content", "kept", "number"] sp_hofl) : FnOk P w K mg base CX0 8 f fd ["content", "kept", "number"] (sp_allh T) := by
  refine F.ok sc_all_histories (fun vs H Q E h => ?_) (fun cdv A outer s H vs Q E hr h => ?_)
  · obtain ⟨l, t, ns, a, b, n, rfl, _⟩ := h; rfl
  · obtain ⟨l, t, ns, a, b, n, rfl, hl, hc, ht, k, hz, hT, hn, q⟩ := h
    have nd := sc_all_histories.nd
    refine ⟨_, (pss_cons (ps_expr (pe_cal C_check_content (hr.mono (by decide)) (pa_cons (pv 0) pa_nil)))
      (pss_cons (ps_expr (pe_cal C_check_kept (hr.mono (by decide)) (pa_cons (pv 1) pa_nil)))
      (pss_cons (ps_expr (pe_cal C_check_number (hr.mono (by decide)) (pa_cons (pv 2) (pa_cons pe_int (pa_cons (pe_gi B.MOST_TOP_UPS) pa_nil)))))
      (pss_one (ps_ret (pe_cal C_histories_of_length (hr.mono (by decide)) (pa_cons (pv 0) (pa_cons (pv 1) (pa_cons (pv 2) pa_nil))))))))), ?_⟩
    refine ⟨.ref l, rfl, l, ns, rfl, hl, hc, hT, .ref t, rfl, t, a, b, rfl, ht, k, .int n, rfl, (n : Int), 0, 60, rfl, by omega, by omega, ?_⟩
    exact ⟨.ref l, rfl, .ref t, rfl, .int n, rfl, l, t, ns, a, b, n, rfl, hl, hc, ht, k, hz, hn, q⟩

end
end K09
end

section
set_option Elab.async false
set_option linter.all false
set_option maxRecDepth 100000
set_option maxHeartbeats 4000000
namespace K09
open PySem PySem.Spec PyProof.Rows L2 GxR Gx Ma Mc
section
variable {P : Program} {w : World} {K : PySem.W.Frag} {mg : Str → Option Value} {base : Heap}

def sp_lpower : Sp := fun vs H Q _ => ∃ (b : Int) (n : Nat), vs = [V.int b, V.int n] ∧ 2 ≤ b ∧ b ≤ 100 ∧ n ≤ 101 ∧ Q (.int (b ^ n)) H
theorem pow_w {b : Int} (hb : 2 ≤ b) (h : b ≤ 100) {i : Nat} (hi : i ≤ 101) : (b ^ i).natAbs < 2 ^ 800 ∧ CMulW (b ^ i) b := by
  have e : (b ^ i).natAbs < 2 ^ 800 := by
    rw [Int.natAbs_pow]
    have h1 : b.natAbs ^ i ≤ 100 ^ i := Nat.pow_le_pow_left (by omega) i
    have h2 : 100 ^ i ≤ 100 ^ 101 := Nat.pow_le_pow_right (by decide) hi
    have h3 : 100 ^ 101 < 2 ^ 800 := by decide +kernel
    omega
  exact ⟨e, wide_mul e (b := 7) (by omega) (by decide) (by decide) (by decide)⟩
/-- the number of top-ups that a bottom tells, in the law's words -/
def hgt (S b : Int) : Nat → Nat → Option Nat
  | 0, _ => none
  | f + 1, i => if b ^ i ≥ S then (if b ^ i = S then some i else none) else hgt S b f (i + 1)
def sp_lheight : Sp := fun vs H Q _ => ∃ (S b : Int), vs = [V.int S, V.int b] ∧ 2 ≤ b ∧ b ≤ 100 ∧ Q (optN (hgt S b 101 0)) H
theorem hgt_some {S b : Int} (hb : 2 ≤ b) : ∀ (f i : Nat), (hgt S b f i).isSome = true → ∃ n : Nat, S = b ^ n
  | 0, _, h => by cases h
  | f + 1, i, h => by
    unfold hgt at h
    split at h
    · split at h
      · rename_i e; exact ⟨i, e.symm⟩
      · cases h
    · exact hgt_some hb f (i + 1) h
theorem hgt_pow {b : Int} (hb : 2 ≤ b) (n : Nat) : ∀ (f i : Nat), i ≤ n → n < i + f → (hgt (b ^ n) b f i).isSome = true
  | 0, i, h1, h2 => by omega
  | f + 1, i, h1, h2 => by
    unfold hgt
    by_cases e : i = n
    · subst e
      rw [if_pos (Int.le_refl _), if_pos rfl]
      rfl
    · have hlt : b ^ i < b ^ n := Int.pow_lt_pow_of_lt (by omega) (by omega)
      rw [if_neg (by omega)]
      exact hgt_pow hb n f (i + 1) (by omega) (by omega)
theorem two_pow {b : Int} (hb : 2 ≤ b) : ∀ n : Nat, (2 : Int) ^ n ≤ b ^ n
  | 0 => by rw [Int.pow_zero, Int.pow_zero]; exact Int.le_refl _
  | n + 1 => by
    rw [Int.pow_succ, Int.pow_succ]
    have h1 := two_pow hb n
    have h2 : (0 : Int) < 2 ^ n := Int.pow_pos (by decide)
    exact Int.mul_le_mul h1 hb (by decide) (by omega)
theorem hgt_powB {S b : Int} (hb : 2 ≤ b) (hS : 1 ≤ S) (hz : S < 2 ^ 101) : (hgt S b 101 0).isSome = powB b S := by
  cases hp : powB b S with
  | true =>
    obtain ⟨n, rfl⟩ := powB_ex hb hp
    refine hgt_pow hb n 101 0 (Nat.zero_le _) ?_
    have h1 : (2 : Int) ^ n ≤ b ^ n := two_pow hb n
    rcases Nat.lt_or_ge n 101 with z | z
    · omega
    · have := two_le z
      omega
  | false =>
    cases h : (hgt S b 101 0).isSome with
    | false => rfl
    | true =>
      obtain ⟨n, rfl⟩ := hgt_some hb _ _ h
      rw [powB_pow hb n] at hp
      cases hp

theorem ok__law_power {f : Addr} {fd : FuncData}  (F : Fun K "_law_power" "_law_power" s__law_power f fd) (B : Bl mg)  : FnOk P w K mg base CX0 1 f fd ["number_here", "times"] (sp_lpower) := by
  refine F.ok sc__law_power (fun vs H Q E h => ?_) (fun cdv A outer s H vs Q E hr h => ?_)
  · obtain ⟨b, n, rfl, _⟩ := h; rfl
  · obtain ⟨b, n, rfl, hb, hb2, hn, q⟩ := h
    have nd := sc__law_power.nd
    refine ⟨_, (pss_cons (ps_set (i := 2) nd rfl (Or.inl rfl) pe_int)
      (pss_cons (ps_for PassesOwn.never rfl (pi_range1 rfl B.range (pa_cons (pv 1) pa_nil)) (pg_name (i := 3) nd rfl (Or.inl rfl)) (pss_one (ps_set (i := 2) nd rfl (Or.inl rfl) (pe_op op_mulW (pv 2) (pv 0)))))
      (pss_one (ps_ret (pv 2))))), ?_⟩
    refine ⟨.int n, rfl, n, rfl, by omega, by omega, ?_⟩
    refine for_range (lo := 0) (n := (n : Int).toNat) (fun i σ H' => ∃ y, σ = [some (.int b), some (.int n), some (.int (b ^ i)), y] ∧ H' = H) ⟨none, by rw [Int.pow_zero]; rfl, rfl⟩ (fun i σ H' hi ⟨y, e1, e2⟩ => ?_) (fun σ H' ⟨y, e1, e2⟩ => ?_)
    · subst e1 e2
      exact ⟨.int (b ^ i), rfl, .int b, rfl, _, _, rfl, rfl, (pow_w hb hb2 (i := i) (by omega)).2, some (.int (0 + (i : Nat))), (by show _ = [some (V.int b), some (V.int n), some (V.int (b ^ (i + 1))), some (V.int (0 + (i : Nat)))]; rw [Int.pow_succ]; rfl), rfl⟩
    · subst e1 e2
      rw [Int.toNat_natCast]
      exact ⟨.int (b ^ n), rfl, q⟩

theorem ok__law_height {f : Addr} {fd : FuncData}  (F : Fun K "_law_height" "_law_height" s__law_height f fd) (B : Bl mg) (C__law_power : Cal P w K mg base 1 "_law_power" ["number_here", "times"] sp_lpower) : FnOk P w K mg base CX0 2 f fd ["bottom_here", "whole"] (sp_lheight) := by
  refine F.ok sc__law_height (fun vs H Q E h => ?_) (fun cdv A outer s H vs Q E hr h => ?_)
  · obtain ⟨S, b, rfl, _⟩ := h; rfl
  · obtain ⟨S, b, rfl, hb, hb2, q⟩ := h
    have nd := sc__law_height.nd
    refine ⟨_, (pss_cons (ps_for PassesOwn.never rfl (pi_range1 rfl B.range (pa_cons pe_int pa_nil)) (pg_name (i := 2) nd rfl (Or.inl rfl)) (pss_one (ps_if (pt_cmpR op_ge (pe_cal C__law_power (hr.mono (by decide)) (pa_cons (pv 1) (pa_cons (pv 2) pa_nil))) (pv 0) (nomark _))
      (pss_one (ps_ret (pe_ifExp (pt_cmpR op_eq (pe_cal C__law_power (hr.mono (by decide)) (pa_cons (pv 1) (pa_cons (pv 2) pa_nil))) (pv 0) (nomark _)) (pv 2) pe_non))) pss_nil)))
      (pss_one (ps_ret pe_non))), ?_⟩
    refine ⟨101, rfl, by decide, by decide, ?_⟩
    refine for_range (lo := 0) (n := 101) (fun i σ H' => ∃ y, σ = [some (.int S), some (.int b), y] ∧ H' = H ∧ hgt S b 101 0 = hgt S b (101 - i) i) ⟨none, rfl, rfl, rfl⟩ (fun i σ H' hi ⟨y, e1, e2, e3⟩ => ?_) (fun σ H' ⟨y, e1, e2, e3⟩ => ?_)
    · subst e1 e2
      rw [Int.zero_add]
      obtain ⟨f, hf⟩ : ∃ f, 101 - i = f + 1 := ⟨100 - i, by omega⟩
      have e4 : hgt S b (f + 1) i = if b ^ i ≥ S then (if b ^ i = S then some i else none) else hgt S b f (i + 1) := rfl
      rw [hf, e4] at e3
      refine ⟨.int b, rfl, .int (i : Nat), rfl, b, i, rfl, hb, hb2, by omega, .int S, rfl, _, S, rfl, rfl, _, rfl, ?_⟩
      by_cases h1 : b ^ i ≥ S
      · rw [if_pos h1] at e3
        rw [decide_eq_true h1]
        refine iteT ⟨.int b, rfl, .int (i : Nat), rfl, b, i, rfl, hb, hb2, by omega, .int S, rfl, rfl, _, rfl, ?_⟩
        rw [dec_int]
        by_cases h2 : b ^ i = S
        · rw [if_pos h2] at e3
          rw [decide_eq_true h2]
          rw [e3] at q
          exact iteT ⟨_, rfl, q⟩
        · rw [if_neg h2] at e3
          rw [decide_eq_false h2]
          rw [e3] at q
          exact iteF q
      · rw [if_neg h1] at e3
        rw [decide_eq_false h1]
        exact iteF ⟨_, rfl, rfl, by rw [e3, show 101 - (i + 1) = f by omega]⟩
    · subst e1 e2
      rw [e3] at q
      exact q

end
end K09
end

section
set_option Elab.async false
set_option linter.all false
set_option maxRecDepth 100000
set_option maxHeartbeats 4000000
namespace K09
open PySem PySem.Spec PyProof.Rows L2 GxR Gx Ma Mc
section
variable {P : Program} {w : World} {K : PySem.W.Frag} {mg : Str → Option Value} {base : Heap}

def sp_llasts : Sp := fun vs H Q _ => ∃ (l t : Addr) (ns : List Int) (a b : Int), vs = [V.ref l, V.ref t] ∧ LI H l ns ∧ Con ns ∧ H t = some (.tup [.int a, .int b]) ∧ Kep a b ∧ ns.sum < 2 ^ 7000 ∧ ∀ p H', Same H H' → H p = none → LI H' p (rowI (lastsL ns a b)) → Q (.ref p) H'
theorem eqv_nat {M : List Nat} (i : Nat) : PyData.eqv (.list ((rowI M).map PyData.int)) (.list [.int (i : Nat)]) = decide (M = [i]) := by
  unfold rowI
  match M with
  | [] => rfl
  | [c] =>
    by_cases h : c = i
    · subst h
      rw [decide_eq_true rfl]
      exact SeqAt.eqv_refl _ rfl
    · rw [decide_eq_false (by simpa using h)]
      have : ¬ ((c : Int) = (i : Int)) := by omega
      simp [PyData.eqv, PyData.eqvAll]
      exact this
  | c :: d :: r =>
    rw [decide_eq_false (by simp)]
    simp [PyData.eqv, PyData.eqvAll]
theorem filter_le8 {p : Nat → Bool} {n : Nat} (h : n ≤ 8) : ((List.range n).filter p).length ≤ 8 := by
  have h1 := List.length_filter_le p (List.range n)
  rw [List.length_range] at h1
  omega

theorem ok__law_lasts {f : Addr} {fd : FuncData}  (F : Fun K "_law_lasts" "_law_lasts" s__law_lasts f fd) (B : Bl mg)  : FnOk P w K mg base CX0 1 f fd ["pot", "share_here"] (sp_llasts) := by
  refine F.ok sc__law_lasts (fun vs H Q E h => ?_) (fun cdv A outer s H vs Q E hr h => ?_)
  · obtain ⟨l, t, ns, a, b, rfl, _⟩ := h; rfl
  · obtain ⟨l, t, ns, a, b, rfl, hl, hc, ht, k, hz, q⟩ := h
    have k1 := k.a1
    have k2 := k.ab
    have k3 := k.b100
    have h8 := hc.le8
    have nd := sc__law_lasts.nd
    refine ⟨_, (pss_cons (ps_asg (pv 1) (pg_tup (by rfl) (pgs_cons (pg_name (i := 2) nd rfl (Or.inr rfl)) (pgs_cons (pg_name (i := 3) nd rfl (Or.inl rfl)) pgs_nil))))
      (pss_cons (ps_set (i := 4) nd rfl (Or.inr rfl) (pe_op op_fdivW (pe_op op_mulW (pe_op op_sub (pv 3) (pv 2)) (pe_callB (cr_sum rfl) (by rfl) B.sum (by decide +kernel) (pa_cons (pv 0) pa_nil))) (pv 3)))
      (pss_cons (ps_setLc (i := 5) (own := [("spot", 7), ("part", 8)]) (g := gTup K 2 (gCons (gName 7) (gCons (gName 8) gNil))) rfl nd rfl rfl (sw_true rfl rfl rfl (by decide +kernel)) (pi_enum (by rfl) B.enumerate (pa_cons (pv 0) pa_nil)) (blkOk_by (own := [("spot", 7), ("part", 8)]) (N := ["pot", "share_here", "stays", "whole", "least", "great", "odd", "spot", "part"]) (sc := defScope s__law_lasts) (by decide +kernel)) (fun _ _ _ _ _ => (pg_tup (by rfl) (pgs_cons (pg_name (i := 7) nd rfl (Or.inl rfl)) (pgs_cons (pg_name (i := 8) nd rfl (Or.inl rfl)) pgs_nil)))) (fun _ _ _ _ _ => (pts_one (pt_cmpR op_ge (pv 8) (pv 4) (nomark _)))) (fun _ _ _ _ _ => (pv 7)))
      (pss_cons (ps_if (pt_cmpR op_eq (pv 2) pe_int (nomark _))
      (pss_one (ps_ret (pv 5))) pss_nil)
      (pss_cons (ps_set (i := 6) nd rfl (Or.inr rfl) (pe_lc (own := [("spot", 7), ("part", 8)]) (g := gTup K 2 (gCons (gName 7) (gCons (gName 8) gNil))) rfl nd (pi_enum (by rfl) B.enumerate (pa_cons (pv 0) pa_nil)) (blkOk_by (own := [("spot", 7), ("part", 8)]) (N := ["pot", "share_here", "stays", "whole", "least", "great", "odd", "spot", "part"]) (sc := defScope s__law_lasts) (by decide +kernel)) (fun _ _ _ _ _ => (pg_tup (by rfl) (pgs_cons (pg_name (i := 7) nd rfl (Or.inl rfl)) (pgs_cons (pg_name (i := 8) nd rfl (Or.inl rfl)) pgs_nil)))) (fun _ _ _ _ _ => (pts_one (pt_cmpR op_gt (pe_op op_mod (pe_callTy call_int1 (by rfl) B.int (by decide +kernel) (pa_cons (pv 8) pa_nil)) (pv 2)) pe_int (nomark _)))) (fun _ _ _ _ _ => (pv 7))))
      (pss_one (ps_ret (pe_lc (own := [("spot", 7)]) (g := gName 7) rfl nd (pi_list (pv 5)) (blkOk_by (own := [("spot", 7)]) (N := ["pot", "share_here", "stays", "whole", "least", "great", "odd", "spot", "part"]) (sc := defScope s__law_lasts) (by decide +kernel)) (fun _ _ _ _ _ => (pg_name (i := 7) nd rfl (Or.inl rfl))) (fun _ _ _ _ _ => (pts_one (pt_cmpR (op_eqDK (K := K) rfl hr.units) (pv 6) (pe_lst (pa_cons (pv 7) pa_nil)) (nomark _)))) (fun _ _ _ _ _ => (pv 7)))))))))), ?_⟩
    refine ⟨.ref t, rfl, t, [_, _], rfl, SqT.of ht, rfl, _, _, rfl, _, _, rfl, rfl, ?_⟩
    refine ⟨.int b, rfl, .int a, rfl, b, a, rfl, rfl, .ref l, rfl, l, ns, rfl, SqL.of hl, _, _, rfl, rfl, fac_w hc k hz, .int b, rfl, _, b, rfl, rfl, wide_div (by omega) (b := 7) (by omega) (by decide) (by decide), ?_⟩
    refine ⟨.ref l, rfl, l, _, rfl, SqL.of hl, fun D hD => ?_⟩
    refine lc_it walk_enum (PvF (fun i => if decide (ns.getD i 0 ≥ (b - a) * ns.sum / b) = true then some (V.int (i : Nat)) else none) H D) (PvF.zero hD) (fun i H' _ p => SqL.of (p.s _ _ hl)) (fun i x H' H2 hi pv hy => ?_) (fun H' pv => ?_)
    · obtain ⟨T09, x1, x2, rfl, nT2, rfl, hx1, hx2⟩ := hy
      cases hx1
      obtain ⟨n, hn, rfl⟩ := map_get hx2
      have sT := sameN (o := .tup [.int (i : Nat), .int n]) nT2
      rw [List.length_map] at hi
      refine ⟨T09, _, rfl, SqT.of upd_same, rfl, _, _, rfl, _, _, rfl, rfl, rfl, ?_⟩
      refine ⟨.int n, rfl, .int ((b - a) * ns.sum / b), rfl, n, _, rfl, rfl, _, rfl, ?_⟩
      by_cases h1 : n ≥ (b - a) * ns.sum / b
      · rw [decide_eq_true h1]
        exact iteT ⟨_, rfl, pv.ext hD (by omega) sT (by rw [getD_of hn, decide_eq_true h1]; rfl)⟩
      · rw [decide_eq_false h1]
        exact iteF (pv.skip sT (by rw [getD_of hn, decide_eq_false h1]; rfl))
    have eD := pv.at_
    rw [List.length_map, fm_range] at eD
    have hM : (List.range ns.length).filter (fun i => decide (ns.getD i 0 ≥ (b - a) * ns.sum / b)) = greatL ns a b := rfl
    have lG : (greatL ns a b).length ≤ 8 := filter_le8 h8
    rw [hM] at eD
    have sD := pv.s
    refine ⟨.int a, rfl, rfl, _, rfl, ?_⟩
    rw [dec_int]
    by_cases h1 : a = 1
    · have eq : lastsL ns a b = greatL ns a b := by unfold lastsL; rw [if_pos h1]
      rw [decide_eq_true h1]
      exact iteT ⟨.ref D, rfl, q D H' sD hD (by rw [eq]; exact eD)⟩
    · have eq : lastsL ns a b = (greatL ns a b).filter fun i => decide (oddL ns a = [i]) := by unfold lastsL; rw [if_neg h1]
      rw [decide_eq_false h1]
      have hl' := sD _ _ hl
      refine iteF ⟨.ref l, rfl, l, _, rfl, SqL.of hl', fun E2 hE => ?_⟩
      refine lc_it walk_enum (PvF (fun i => if decide (ns.getD i 0 % a > 0) = true then some (V.int (i : Nat)) else none) H' E2) (PvF.zero hE) (fun i H' _ p => SqL.of (p.s _ _ hl')) (fun i x H3 H2 hi pv hy => ?_) (fun H3 pv => ?_)
      · obtain ⟨T09, x1, x2, rfl, nT2, rfl, hx1, hx2⟩ := hy
        cases hx1
        obtain ⟨n, hn, rfl⟩ := map_get hx2
        have sT := sameN (o := .tup [.int (i : Nat), .int n]) nT2
        rw [List.length_map] at hi
        refine ⟨T09, _, rfl, SqT.of upd_same, rfl, _, _, rfl, _, _, rfl, rfl, rfl, ?_⟩
        refine ⟨.int n, rfl, .inl ⟨n, rfl, .int a, rfl, n, a, rfl, rfl, by show (0 : Int) < a; omega, _, 0, rfl, rfl, _, rfl, ?_⟩⟩
        by_cases h1 : n % a > 0
        · rw [decide_eq_true h1]
          exact iteT ⟨_, rfl, pv.ext hE (by omega) sT (by rw [getD_of hn, decide_eq_true h1]; rfl)⟩
        · rw [decide_eq_false h1]
          exact iteF (pv.skip sT (by rw [getD_of hn, decide_eq_false h1]; rfl))
      have eE := pv.at_
      rw [List.length_map, fm_range] at eE
      have hO : (List.range ns.length).filter (fun i => decide (ns.getD i 0 % a > 0)) = oddL ns a := rfl
      rw [hO] at eE
      have sE := pv.s
      have eD2 := sE _ _ eD
      refine ⟨.ref D, rfl, D, rfl, ⟨_, SqL.of eD2⟩, fun F2 hF => lc_fm (fun m => (greatL ns a b)[m]?.bind fun i => if decide (oddL ns a = [i]) = true then some (V.int (i : Nat)) else none) hF (SqL.of eD2) (fun m x H5 hx pv5 => ?_) (fun H5 pv5 => ?_)⟩
      · obtain ⟨i, hi, rfl⟩ := map_nat hx
        have hm := (List.getElem?_eq_some_iff.mp hi).1
        refine ⟨rfl, .ref E2, rfl, .int (i : Nat), rfl, by show 1 ≤ 16777216; decide, fun z nz => ?_⟩
        have sz := sameN (o := .lst [.int (i : Nat)]) nz
        refine ⟨_, _, dp_li (sz _ _ (pv5.s _ _ eE)), .lst (SqL.of upd_same) (.cons (.int _) .nil), shaped_ints _, rfl, ?_⟩
        rw [eqv_nat]
        refine ⟨_, rfl, ?_⟩
        by_cases h5 : oddL ns a = [i]
        · rw [decide_eq_true h5]
          exact iteT ⟨_, rfl, pv5.ext hF (by omega) sz (by rw [hi]; show (if decide (oddL ns a = [i]) = true then _ else _) = _; rw [decide_eq_true h5]; rfl)⟩
        · rw [decide_eq_false h5]
          exact iteF (pv5.skip sz (by rw [hi]; show (if decide (oddL ns a = [i]) = true then _ else _) = _; rw [decide_eq_false h5]; rfl))
      · have eF := pv5.at_
        rw [List.length_map, rowI_len, fmL_bind (greatL ns a b), fm_nat] at eF
        exact q F2 H5 ((sD.trans sE).trans pv5.s) ((sD.trans sE).free hF) (by rw [eq]; exact eF)

end
end K09
end

section
set_option Elab.async false
set_option linter.all false
set_option maxRecDepth 100000
set_option maxHeartbeats 4000000
namespace K09
open PySem PySem.Spec PyProof.Rows L2 GxR Gx Ma Mc
section
variable {P : Program} {w : World} {K : PySem.W.Frag} {mg : Str → Option Value} {base : Heap}

def sp_lback : Sp := fun vs H Q _ => ∃ (l t : Addr) (ns : List Int) (a b : Int), vs = [V.ref l, V.ref t] ∧ LI H l ns ∧ Con ns ∧ H t = some (.tup [.int a, .int b]) ∧ Kep a b ∧ ns.sum < 2 ^ 101 ∧ ∀ p u v H', Same H H' → H p = none → H u = none → H' p = some (.tup [.ref u, .ref v]) → LI H' u (rowI (und ns a b).1) → LI H' v (und ns a b).2 → Q (.ref p) H'
theorem opt_not (o : Option Nat) : (!decide (optN o = V.non)) = o.isSome := by
  cases o with
  | none => rfl
  | some c => show (!decide (V.int (c : Nat) = V.non)) = true; rw [decide_eq_false (fun z => by cases z)]; rfl
theorem at_getD {ns : List Int} {c : Nat} (h : c < ns.length) : ns[c]? = some (ns.getD c 0) := by rw [List.getD_eq_getElem?_getD, List.getElem?_eq_getElem h]; rfl

theorem ok__law_back {f : Addr} {fd : FuncData}  (F : Fun K "_law_back" "_law_back" s__law_back f fd) (B : Bl mg) (C__law_height : Cal P w K mg base 2 "_law_height" ["bottom_here", "whole"] sp_lheight) (C__law_lasts : Cal P w K mg base 1 "_law_lasts" ["pot", "share_here"] sp_llasts) (C__law_plain : Cal P w K mg base 2 "_law_plain" ["numbers_here"] sp_without_divisor) : FnOk P w K mg base CX0 3 f fd ["pot", "share_here"] (sp_lback) := by
  refine F.ok sc__law_back (fun vs H Q E h => ?_) (fun cdv A outer s H vs Q E hr h => ?_)
  · obtain ⟨l, t, ns, a, b, rfl, _⟩ := h; rfl
  · obtain ⟨l, t, ns, a, b, rfl, hl, hc, ht, k, hz, q⟩ := h
    have k1 := k.a1
    have k2 := k.ab
    have k3 := k.b100
    have nd := sc__law_back.nd
    refine ⟨_, (pss_cons (ps_set (i := 2) nd rfl (Or.inl rfl) (pe_lst pa_nil))
      (pss_cons (ps_while PassesOwn.never (PW.pt (pw_and (pt_cmpR op_gt (pe_callB (cr_sum rfl) (by rfl) B.sum (by decide +kernel) (pa_cons (pv 0) pa_nil)) pe_int (nomark _)) (pw_and1 (pt_cmpR op_notN (pe_cal C__law_height (hr.mono (by decide)) (pa_cons (pe_callB (cr_sum rfl) (by rfl) B.sum (by decide +kernel) (pa_cons (pv 0) pa_nil)) (pa_cons (pe_ix ix_tup (pv 1) pe_int (fun _ _ => rfl)) pa_nil))) pe_non (nomark _))))) (pss_cons (ps_set (i := 3) nd rfl (Or.inl rfl) (pe_cal C__law_lasts (hr.mono (by decide)) (pa_cons (pv 0) (pa_cons (pv 1) pa_nil))))
      (pss_cons (ps_if (pt_cmpR (op_eqD hr.units) (pv 3) (pe_lst pa_nil) (nomark _))
      (pss_one (ps_ret (pe_tup (pa_cons (pv 2) (pa_cons (pv 0) pa_nil))))) pss_nil)
      (pss_cons (ps_expr (pe_bm PySem.F.plainAttrs_list PySem.F.slot_list_append PySem.F.type_list_append mt_append (pv 2) (pa_cons (pe_ix ix_list (pv 3) (pe_un un_neg pe_int) (fun _ _ => rfl)) pa_nil)))
      (pss_cons (ps_set (i := 4) nd rfl (Or.inl rfl) (pe_op op_mulW (pe_op op_sub (pe_ix ix_tup (pv 1) pe_int (fun _ _ => rfl)) (pe_ix ix_tup (pv 1) pe_int (fun _ _ => rfl))) (pe_callB (cr_sum rfl) (by rfl) B.sum (by decide +kernel) (pa_cons (pv 0) pa_nil))))
      (pss_cons (ps_setLc (i := 5) (own := [("part", 6)]) (g := gName 6) rfl nd rfl rfl (sw_true rfl rfl rfl (by decide +kernel)) (pi_list (pv 0)) (blkOk_by (own := [("part", 6)]) (N := ["pot", "share_here", "undone", "found", "poured", "later", "part"]) (sc := defScope s__law_back) (by decide +kernel)) (fun _ _ _ _ _ => (pg_name (i := 6) nd rfl (Or.inl rfl))) (fun _ _ _ _ _ => pts_nil) (fun _ _ _ _ _ => (pe_op op_mulW (pe_ix (ix_tupK (K := K) rfl) (pv 1) pe_int (fun _ _ => rfl)) (pv 6))))
      (pss_cons (ps_asg (pe_op op_sub (pe_ix ix_list (pv 5) (pe_ix ix_list (pv 3) (pe_un un_neg pe_int) (fun _ _ => rfl)) (fun _ _ => rfl)) (pv 4)) (pg_sub (pv 5) (pe_ix ix_list (pv 3) (pe_un un_neg pe_int) (fun _ _ => rfl)) set_list))
      (pss_one (ps_set (i := 0) nd rfl (Or.inl rfl) (pe_cal C__law_plain (hr.mono (by decide)) (pa_cons (pv 5) pa_nil)))))))))))
      (pss_one (ps_ret (pe_tup (pa_cons (pv 2) (pa_cons (pv 0) pa_nil))))))), ?_⟩
    refine ⟨by show 0 ≤ 16777216; decide, fun U nU => ?_⟩
    have sU := sameN (o := .lst []) nU
    have hU0 : L2.upd H U (.lst []) U = some (.lst []) := upd_same
    generalize L2.upd H U (.lst []) = HU at *
    have nlU : l ≠ U := fun z => by
      rw [← z, hl] at nU
      cases nU
    refine ⟨fun m σ H' => ∃ (us : List Nat) (ms : List Int) (L : Addr) (y3 y4 y5 y6 : Option V), σ = [some (.ref L), some (.ref t), some (.ref U), y3, y4, y5, y6] ∧ Un a b ns us ms ∧ Same H H' ∧ H' U = some (.lst ((rowI us).map V.int)) ∧ LI H' L ms ∧ L ≠ U ∧ m = ms.sum.toNat, ⟨_, [], ns, l, none, none, none, none, rfl, .nil, sU, hU0, sU _ _ hl, nlU, rfl⟩, fun m σ H' hW => ?_⟩
    obtain ⟨us, ms, L, y3, y4, y5, y6, rfl, u, s1, hU, hL, nLU, rfl⟩ := hW
    have cm := u.con k hc
    have zs := Int.lt_of_le_of_lt (u.sum k hc) hz
    have zm : ms.sum < 2 ^ 7000 := Int.lt_of_lt_of_le zs (two_le (by decide))
    have pm := cm.amt.pos
    have ht1 := s1 _ _ ht
    have eu := u.und k hc
    have fin : (∀ c, ¬ Goes ms a b c) → ∀ p H2, Same H' H2 → H' p = none → H2 p = some (.tup [.ref U, .ref L]) → Q (.ref p) H2 := fun hn p H2 s2 np hp => by
      rw [und_stop cm hn, List.append_nil] at eu
      refine q p U L H2 (s1.trans s2) (s1.free np) nU hp ?_ ?_
      · rw [eu]; exact s2 _ _ hU
      · rw [eu]; exact s2 _ _ hL
    refine ⟨.ref L, rfl, L, ms, rfl, SqL.of hL, _, 1, rfl, rfl, _, rfl, ?_⟩
    by_cases h1 : ms.sum = 1
    · rw [decide_eq_false (show ¬ ms.sum > 1 by omega)]
      exact iteF ⟨.ref U, rfl, .ref L, rfl, by show 2 ≤ 16777216; decide, fun p np => fin (fun c G => G.s1 h1) p _ (sameN np) np upd_same⟩
    rw [decide_eq_true (show ms.sum > 1 by omega)]
    refine iteT ⟨.ref L, rfl, L, ms, rfl, SqL.of hL, .ref t, rfl, t, _, 1, .int b, rfl, rfl, SqT.of ht1, rfl, ms.sum, b, rfl, by omega, k3, rfl, _, rfl, ?_⟩
    rw [opt_not, hgt_powB (by omega) (by omega) zs]
    cases hp : powB b ms.sum with
    | false =>
      exact iteF ⟨.ref U, rfl, .ref L, rfl, by show 2 ≤ 16777216; decide, fun p np => fin (fun c G => by have := G.pw; rw [hp] at this; cases this) p _ (sameN np) np upd_same⟩
    | true =>
      have hdv : b ∣ ms.sum := by
        obtain ⟨n, hn⟩ := powB_ex (show 2 ≤ b by omega) hp
        exact pow_dvd hn h1
      refine iteT ⟨fun σ' H2 => ∃ m', m' < ms.sum.toNat ∧ ∃ (us : List Nat) (ms : List Int) (L : Addr) (y3 y4 y5 y6 : Option V), σ' = [some (.ref L), some (.ref t), some (.ref U), y3, y4, y5, y6] ∧ Un a b ns us ms ∧ Same H H2 ∧ H2 U = some (.lst ((rowI us).map V.int)) ∧ LI H2 L ms ∧ L ≠ U ∧ m' = ms.sum.toNat, fun σ' H2 h => h, ?_⟩
      refine ⟨.ref L, rfl, .ref t, rfl, L, t, ms, a, b, rfl, hL, cm, ht1, k, zm, fun F H2 s2 nF hF => ?_⟩
      have ela := lasts_last k hdv
      generalize lastsL ms a b = X at *
      refine ⟨.ref F, rfl, by show 0 ≤ 16777216; decide, fun z nz => ?_⟩
      have sz := sameN (o := .lst []) nz
      refine ⟨_, _, dp_li (sz _ _ hF), .lst (SqL.of upd_same) .nil, shaped_ints _, by decide, ?_⟩
      have e0 : PyData.eqv (.list ((rowI X).map PyData.int)) (.list []) = X.isEmpty := by cases X <;> rfl
      rw [e0]
      refine ⟨_, rfl, ?_⟩
      have s3 := s1.trans (s2.trans sz)
      have hU3 := sz _ _ (s2 _ _ hU)
      have hL3 := sz _ _ (s2 _ _ hL)
      have hF3 := sz _ _ hF
      have fz : ∀ x, (L2.upd H2 z (.lst [])) x = none → H' x = none := fun x hx => (s2.trans sz).free hx
      have s23 := s2.trans sz
      generalize L2.upd H2 z (.lst []) = H3 at *
      cases hX : X.getLast? with
      | none =>
        rw [List.getLast?_eq_none_iff] at hX
        subst hX
        exact iteT ⟨.ref U, rfl, .ref L, rfl, by show 2 ≤ 16777216; decide, fun p np => fin (fun c G => by have := G.la; rw [← ela] at this; cases this) p _ (s23.trans (sameN np)) (fz p np) upd_same⟩
      | some c =>
        rw [hX] at ela
        have G : Goes ms a b c := ⟨h1, hp, ela.symm⟩
        obtain ⟨hcl, hcf⟩ := lastL_some G.la
        have eX : X.isEmpty = false := by
          cases X with
          | nil => cases hX
          | cons _ _ => rfl
        rw [eX]
        have ul := u.len_lt k hc G hz
        have aF := at_getLast hX
        have nFU : F ≠ U := fun z => by rw [z, hU] at nF; cases nF
        have nFL : F ≠ L := fun z => by rw [z, hL] at nF; cases nF
        refine iteF ⟨.ref U, rfl, .inl ⟨rfl, _, SqL.of hU3⟩, .ref F, rfl, 1, rfl, F, _, -1, _, rfl, rfl, SqL.of hF3, aF, U, _, _, rfl, rfl, hU3, ?_, ?_⟩
        · rw [List.length_map, rowI_len]
          show us.length < 16777216
          omega
        have s4 : Same H (L2.upd H3 U (.lst ((rowI us).map V.int ++ [.int (c : Nat)]))) := fun x o hx => by
          rw [upd_ne (ne_of_none hx nU)]
          exact s3 x o hx
        have hL4 : LI (L2.upd H3 U (.lst ((rowI us).map V.int ++ [.int (c : Nat)]))) L ms := by
          show L2.upd _ _ _ L = _
          rw [upd_ne nLU]
          exact hL3
        have hF4 : LI (L2.upd H3 U (.lst ((rowI us).map V.int ++ [.int (c : Nat)]))) F (rowI X) := by
          show L2.upd _ _ _ F = _
          rw [upd_ne nFU]
          exact hF3
        have hU4 : L2.upd H3 U (.lst ((rowI us).map V.int ++ [.int (c : Nat)])) U = some (.lst ((rowI (us ++ [c])).map V.int)) := by rw [upd_same, rowI_app]
        generalize L2.upd H3 U (.lst ((rowI us).map V.int ++ [.int (c : Nat)])) = H4 at *
        have ht4 := s4 _ _ ht
        refine ⟨.ref t, rfl, t, _, 1, .int b, rfl, rfl, SqT.of ht4, rfl, .ref t, rfl, t, _, 0, .int a, rfl, rfl, SqT.of ht4, rfl, b, a, rfl, rfl, .ref L, rfl, L, ms, rfl, SqL.of hL4, _, _, rfl, rfl, fac_w cm k zm, ?_⟩
        refine ⟨.ref L, rfl, L, rfl, ⟨_, SqL.of hL4⟩, fun D hD => lc_fm (fun i => ms[i]?.map fun n => V.int (n * b)) hD (SqL.of hL4) (fun i x H5 hx pv => ?_) (fun H5 pv => ?_)⟩
        · obtain ⟨n, hn, rfl⟩ := map_get hx
          refine ⟨rfl, .ref t, rfl, t, _, 1, .int b, rfl, rfl, SqT.of (pv.s _ _ ht4), rfl, .int n, rfl, b, n, rfl, rfl, (fac_n cm ⟨by omega, k3⟩ zm (List.mem_of_getElem? hn)).2, pv.ext hD (by have := (List.getElem?_eq_some_iff.mp hn).1; have := cm.le8; omega) (sameR _) (by rw [hn]; show some (V.int (n * b)) = some (V.int (b * n)); rw [Int.mul_comm])⟩
        · have eD := pv.at_
          rw [List.length_map, fmL_map ms fun n => V.int (n * b)] at eD
          have e1 : ms.map (fun n => V.int (n * b)) = (ms.map fun n => n * b).map V.int := by rw [List.map_map]; rfl
          rw [e1] at eD
          have hg : (ms.map fun n => n * b)[c]? = some (ms.getD c 0 * b) := by
            rw [List.getElem?_map, at_getD hcl]
            rfl
          have hF5 := pv.s _ _ hF4
          refine ⟨.ref D, rfl, .ref F, rfl, 1, rfl, F, _, -1, _, rfl, rfl, SqL.of hF5, aF, D, _, c, .int (ms.getD c 0 * b), rfl, rfl, SqL.of eD, atI_nat (get_map hg), .int ((b - a) * ms.sum), rfl, _, _, rfl, rfl, .ref D, rfl, .ref F, rfl, 1, rfl, F, _, -1, _, rfl, rfl, SqL.of hF5, aF, D, _, c, c, rfl, rfl, eD, ixN_of (by rw [List.length_map, List.length_map]; exact hcl), ?_⟩
          have e3 : L2.upd H5 D (.lst (((ms.map fun n => n * b).map V.int).set c (.int (ms.getD c 0 * b - (b - a) * ms.sum)))) D = some (.lst ((bef ms a b c).map V.int)) := by
            rw [upd_same]
            unfold bef
            rw [List.map_set]
          have hA := bef_amt cm k hcl hcf
          have sD : Same H4 (L2.upd H5 D (.lst (((ms.map fun n => n * b).map V.int).set c (.int (ms.getD c 0 * b - (b - a) * ms.sum))))) := fun x u hx => by
            rw [upd_ne (ne_of_none hx hD)]
            exact pv.s x u hx
          generalize L2.upd H5 D (.lst (((ms.map fun n => n * b).map V.int).set c (.int (ms.getD c 0 * b - (b - a) * ms.sum)))) = H6 at *
          refine ⟨.ref D, rfl, D, bef ms a b c, rfl, e3, hA, by rw [bef_len]; have := cm.le8; omega, ?_, fun p H7 s7 np lp => ?_⟩
          · have h1 := gcd_le_sum hA
            rw [bef_sum hcl] at h1
            have h2 : a * ms.sum ≤ 128 * 2 ^ 7000 := Int.mul_le_mul (by omega) (Int.le_of_lt zm) (Int.le_of_lt pm) (by decide)
            have h3 : (128 : Int) * 2 ^ 7000 < 2 ^ 8000 := by decide +kernel
            have h4 := abs_lt (n := ((gcdN (bef ms a b c) : Nat) : Int)) (by omega) (Int.lt_of_le_of_lt (Int.le_trans h1 h2) h3)
            rw [Int.natAbs_natCast] at h4
            exact h4
          · have hlt := G.lt cm k
            have pb := (G.con cm k).amt.pos
            have hlt2 : (befo ms a b c).sum.toNat < ms.sum.toNat := by
              clear hz zm ul zs
              omega
            have hU6 := sD _ _ hU4
            have npU : p ≠ U := fun z => by rw [z, hU6] at np; cases np
            exact ⟨_, hlt2, us ++ [c], befo ms a b c, p, _, _, _, _, rfl, .go u G, s4.trans (sD.trans s7), s7 _ _ hU6, lp, npU, rfl⟩

end
end K09
end

section
set_option Elab.async false
set_option linter.all false
set_option maxHeartbeats 1000000
namespace Ma
/-! a top-up and what is undone -/
theorem list_ext {xs ys : List Int} (hl : xs.length = ys.length) (h : ∀ i, i < xs.length → xs.getD i 0 = ys.getD i 0) : xs = ys := by
  refine List.ext_getElem hl fun i h1 h2 => ?_
  have := h i h1
  rw [List.getD_eq_getElem?_getD, List.getD_eq_getElem?_getD, List.getElem?_eq_getElem h1, List.getElem?_eq_getElem h2] at this
  exact this
theorem map_getD {ns : List Int} {f : Int → Int} {i : Nat} (h : i < ns.length) : (ns.map f).getD i 0 = f (ns.getD i 0) := by
  rw [List.getD_eq_getElem?_getD, List.getD_eq_getElem?_getD, List.getElem?_map, List.getElem?_eq_getElem h]
  rfl
theorem step_get {x : List Int} {a b : Int} {c i : Nat} (hi : i < x.length) : (step x a b c).getD i 0 * ((gcdN (pre x a b c) : Nat) : Int) = x.getD i 0 * a + if i = c then (b - a) * x.sum else 0 := by
  unfold step plain
  rw [map_getD (by rw [pre_len]; exact hi)]
  have := plain_mul (getD_in (ns := pre x a b c) (i := i) (by rw [pre_len]; exact hi))
  rw [this, getD_of (pre_get hi)]
theorem step_sum_g {x : List Int} {a b : Int} {c : Nat} (h : Con x) (k : Kep a b) (hc : c < x.length) : (step x a b c).sum * ((gcdN (pre x a b c) : Nat) : Int) = b * x.sum := by
  have := plain_sum (pre_amt h k hc)
  rw [pre_sum hc] at this
  exact this
theorem fit_step {x : List Int} {a b : Int} {c : Nat} (h : Con x) (k : Kep a b) (hc : c < x.length) : fit (step x a b c) a b c = true := by
  have hg := gcdN_pos (pre_amt h k hc)
  have k1 := k.a1
  have k2 := k.ab
  have e1 := step_get (a := a) (b := b) (c := c) hc
  have e2 := step_sum_g h k hc
  rw [if_pos rfl] at e1
  have hx := Int.mul_nonneg (h.nn _ (getD_in hc)) (show 0 ≤ a by omega)
  refine decide_eq_true (Int.le_of_mul_le_mul_right (a := ((gcdN (pre x a b c) : Nat) : Int)) ?_ (by omega))
  rw [Int.mul_assoc, e2, Int.mul_right_comm, e1]
  have e3 : (b - a) * (b * x.sum) = (b - a) * x.sum * b := by rw [Int.mul_comm b x.sum, Int.mul_assoc]
  rw [e3]
  exact Int.mul_le_mul_of_nonneg_right (by omega) (by omega)
theorem befo_step {x : List Int} {a b : Int} {c : Nat} (h : Con x) (k : Kep a b) (hc : c < x.length) : befo (step x a b c) a b c = x := by
  have hA := pre_amt h k hc
  have hg := gcdN_pos hA
  have k1 := k.a1
  have k2 := k.ab
  have e0 : ∀ i, i < x.length → (step x a b c).getD i 0 * ((gcdN (pre x a b c) : Nat) : Int) = x.getD i 0 * a + if i = c then (b - a) * x.sum else 0 := fun i hi => by
    unfold step plain
    rw [map_getD (by rw [pre_len]; exact hi)]
    have := plain_mul (getD_in (ns := pre x a b c) (i := i) (by rw [pre_len]; exact hi))
    rw [this, getD_of (pre_get hi)]
  have es : (step x a b c).sum * ((gcdN (pre x a b c) : Nat) : Int) = b * x.sum := by
    have := plain_sum hA
    rw [pre_sum hc] at this
    exact this
  have e1 : (bef (step x a b c) a b c).map (fun n => ((gcdN (pre x a b c) : Nat) : Int) * n) = x.map fun n => (a * b) * n := by
    refine list_ext (by simp [bef_len, step_len]) fun i hi => ?_
    rw [List.length_map, bef_len, step_len] at hi
    rw [map_getD (by rw [bef_len, step_len]; exact hi), map_getD hi, getD_of (bef_get (by rw [step_len]; exact hi)), Int.mul_sub, ← Int.mul_assoc, Int.mul_comm _ ((step x a b c).getD i 0), e0 i hi]
    by_cases hic : i = c
    · subst hic
      rw [if_pos rfl, if_pos rfl]
      have : ((gcdN (pre x a b i) : Nat) : Int) * ((b - a) * (step x a b i).sum) = (b - a) * ((step x a b i).sum * ((gcdN (pre x a b i) : Nat) : Int)) := by
        rw [Int.mul_comm, Int.mul_assoc]
      rw [this, es]
      have e5 : (b - a) * (b * x.sum) = (b - a) * x.sum * b := by rw [Int.mul_comm b x.sum, Int.mul_assoc]
      rw [e5, Int.add_mul, Int.add_sub_cancel, Int.mul_comm (x.getD i 0) a, Int.mul_assoc, Int.mul_comm (x.getD i 0) b, Int.mul_assoc]
    · rw [if_neg hic, if_neg hic, Int.mul_zero, Int.sub_zero, Int.add_zero, Int.mul_comm (x.getD i 0) a, Int.mul_assoc, Int.mul_comm (x.getD i 0) b, Int.mul_assoc]
  have hgx : 0 < gcdN x := by rw [h.g]; decide
  have hab : 0 < a * b := Int.mul_pos (by omega) (by omega)
  have hb2 := gcdN_pos (bef_amt (step_con h k hc) k (by rw [step_len]; exact hc) (fit_step h k hc))
  have e3 := plain_scale (ns := bef (step x a b c) a b c) (t := ((gcdN (pre x a b c) : Nat) : Int)) (by omega) hb2
  have e4 := plain_scale (ns := x) hab hgx
  unfold befo
  rw [← e3, e1, e4, plain_of_one h.g]
end Ma
namespace Ma
theorem cop_of {a S d : Nat} (h : Nat.gcd a S = 1) (hd : d ∣ S) : Nat.gcd d a = 1 := by
  have : Nat.gcd d a ∣ Nat.gcd a S := Nat.dvd_gcd (Nat.gcd_dvd_right _ _) (Nat.dvd_trans (Nat.gcd_dvd_left _ _) hd)
  rw [h] at this
  exact Nat.dvd_one.mp this
theorem dvd_sum_but {d : Int} {c : Nat} : ∀ {ns : List Int}, c < ns.length → (∀ i, i < ns.length → i ≠ c → d ∣ ns.getD i 0) → d ∣ ns.sum → d ∣ ns.getD c 0
  | [], hc, _, _ => by simp at hc
  | n :: r, hc, h, hs => by
    rw [List.sum_cons] at hs
    cases c with
    | zero =>
      have hr : d ∣ r.sum := by
        have : ∀ m ∈ r, d ∣ m := fun m hm => by
          obtain ⟨i, hi, e⟩ := mem_at hm
          have := h (i + 1) (by simp; exact hi) (by omega)
          rw [← e]
          exact this
        clear h hs hc
        induction r with
        | nil => exact Int.dvd_zero _
        | cons m r ih => rw [List.sum_cons]; exact Int.dvd_add (this m List.mem_cons_self) (ih fun y hy => this y (List.mem_cons_of_mem _ hy))
      have := Int.dvd_sub hs hr
      rw [Int.add_sub_cancel] at this
      exact this
    | succ c =>
      have h0 : d ∣ n := h 0 (by simp) (by omega)
      have := Int.dvd_sub hs h0
      rw [Int.add_comm, Int.add_sub_cancel] at this
      exact dvd_sum_but (ns := r) (c := c) (Nat.lt_of_succ_lt_succ hc) (fun i hi hic => h (i + 1) (Nat.succ_lt_succ hi) (by omega)) this
/-- a top-up by a kept share of a content whose bottom is a multiple of the whole: nothing to divide by -/
theorem pre_one {x : List Int} {a b : Int} {c : Nat} (h : Con x) (k : Kep a b) (hc : c < x.length) (hd : b ∣ x.sum) (hcop : Nat.gcd a.natAbs x.sum.natAbs = 1) : gcdN (pre x a b c) = 1 := by
  have hs := h.amt.pos
  have hb := k.g
  have hA := pre_amt h k hc
  generalize hg : gcdN (pre x a b c) = d
  have dd : ∀ i, i < x.length → (d : Int) ∣ x.getD i 0 * a + if i = c then (b - a) * x.sum else 0 := fun i hi => by
    rw [← getD_of (pre_get hi), ← hg]
    exact gcdN_dvd (getD_in (by rw [pre_len]; exact hi))
  have ds : (d : Int) ∣ b * x.sum := by
    rw [← pre_sum hc, ← hg, ← plain_sum hA]
    exact Int.dvd_mul_left _ _
  have dsN : d ∣ b.natAbs * x.sum.natAbs := by
    have := Int.natAbs_dvd_natAbs.mpr ds
    rw [Int.natAbs_mul, Int.natAbs_natCast] at this
    exact this
  have hab : Nat.gcd a.natAbs (b.natAbs * x.sum.natAbs) = 1 := Nat.Coprime.mul_right hb hcop
  have hda := cop_of hab dsN
  have hi : ∀ i, i < x.length → i ≠ c → (d : Int) ∣ x.getD i 0 := fun i hi hic => by
    have := dd i hi
    rw [if_neg hic, Int.add_zero] at this
    have := Int.natAbs_dvd_natAbs.mpr this
    rw [Int.natAbs_mul, Int.natAbs_natCast] at this
    have := Nat.Coprime.dvd_of_dvd_mul_right hda this
    exact Int.natAbs_dvd_natAbs.mp (by rw [Int.natAbs_natCast]; exact this)
  -- e divides all of x
  have he : Nat.gcd d x.sum.natAbs = 1 := by
    have e1 : ((Nat.gcd d x.sum.natAbs : Nat) : Int) ∣ x.sum := Int.natAbs_dvd_natAbs.mp (by rw [Int.natAbs_natCast]; exact Nat.gcd_dvd_right _ _)
    have e2 : ((Nat.gcd d x.sum.natAbs : Nat) : Int) ∣ (d : Int) := Int.natAbs_dvd_natAbs.mp (by rw [Int.natAbs_natCast, Int.natAbs_natCast]; exact Nat.gcd_dvd_left _ _)
    have e3 : ∀ i, i < x.length → ((Nat.gcd d x.sum.natAbs : Nat) : Int) ∣ x.getD i 0 := fun i hix => by
      by_cases hic : i = c
      · subst hic
        exact dvd_sum_but hix (fun m hm hmc => Int.dvd_trans e2 (hi m hm hmc)) e1
      · exact Int.dvd_trans e2 (hi i hix hic)
    have e4 : Nat.gcd d x.sum.natAbs ∣ gcdN x := dvd_gcdN.mpr fun n hn => by
      obtain ⟨i, hi, e⟩ := mem_at hn
      have := Int.natAbs_dvd_natAbs.mpr (e3 i hi)
      rw [Int.natAbs_natCast, e] at this
      exact this
    rw [h.g] at e4
    exact Nat.dvd_one.mp e4
  have hdb : d ∣ b.natAbs := Nat.Coprime.dvd_of_dvd_mul_right he dsN
  have hdS : d ∣ x.sum.natAbs := Nat.dvd_trans hdb (Int.natAbs_dvd_natAbs.mpr hd)
  have : d ∣ Nat.gcd d x.sum.natAbs := Nat.dvd_gcd (Nat.dvd_refl _) hdS
  rw [he] at this
  exact Nat.dvd_one.mp this
/-- what such a top-up tells -/
structure Reg (x : List Int) (a b : Int) : Prop where
  con : Con x
  ex : ∃ m : Nat, x.sum = b ^ (m + 1)
theorem cop_pow {a b : Int} (h : Nat.gcd a.natAbs b.natAbs = 1) : ∀ m : Nat, Nat.gcd a.natAbs (b ^ m).natAbs = 1
  | 0 => by rw [Int.pow_zero]; exact Nat.gcd_one_right _
  | m + 1 => by rw [Int.pow_succ, Int.natAbs_mul]; exact Nat.Coprime.mul_right (cop_pow h m) h
theorem single_of {p : Nat → Bool} {c n : Nat} (hc : c < n) (h : ∀ i, i < n → (p i = true ↔ i = c)) : (List.range n).filter p = [c] := by
  have e : (List.range n).filter p = (List.range n).filter fun i => (fun _ => true) i && decide (i = c) := by
    refine List.filter_congr fun i hi => ?_
    have := h i (List.mem_range.mp hi)
    by_cases hic : i = c
    · rw [this.mpr hic, hic, decide_eq_true rfl]
      rfl
    · rw [decide_eq_false hic]
      cases hp : p i with
      | false => rfl
      | true => exact absurd (this.mp hp) hic
  rw [e, range_single n hc]
  rfl
theorem mod_ne {a b S x : Int} (ha : 2 ≤ a) (h : Nat.gcd a.natAbs (b * S).natAbs = 1) : (x * a + (b - a) * S) % a ≠ 0 := fun z => by
  have h1 : a ∣ x * a + (b - a) * S := Int.dvd_of_emod_eq_zero z
  have h2 : a ∣ b * S := by
    have e : b * S = (x * a + (b - a) * S) - (x * a - a * S) := by rw [Int.sub_mul]; omega
    rw [e]
    exact Int.dvd_sub h1 (Int.dvd_sub (Int.dvd_mul_left _ _) (Int.dvd_mul_right _ _))
  have h3 := Nat.dvd_gcd (Nat.dvd_refl a.natAbs) (Int.natAbs_dvd_natAbs.mpr h2)
  rw [h] at h3
  have := Nat.dvd_one.mp h3
  omega
theorem two_le_sum {ns : List Int} (hn : ∀ n ∈ ns, 0 ≤ n) {i j : Nat} (hi : i < ns.length) (hj : j < ns.length) (hij : i ≠ j) : ns.getD i 0 + ns.getD j 0 ≤ ns.sum := by
    have e := sum_set 0 ns i hi
    have h1 : ∀ n ∈ ns.set i 0, 0 ≤ n := fun n hm => by
      rcases List.mem_or_eq_of_mem_set hm with z | z
      · exact hn n z
      · rw [z]; exact Int.le_refl _
    have h2 : (ns.set i 0).getD j 0 = ns.getD j 0 := by
      rw [List.getD_eq_getElem?_getD, List.getD_eq_getElem?_getD, List.getElem?_set_ne hij]
    have h3 := le_sum h1 (getD_in (ns := ns.set i 0) (i := j) (by rw [List.length_set]; exact hj))
    rw [h2] at h3
    omega
/-- the last liquid of a top-up is told -/
theorem step_last {x : List Int} {a b : Int} {c : Nat} (h : Con x) (k : Kep a b) (hc : c < x.length) (hg : gcdN (pre x a b c) = 1) (hcop : Nat.gcd a.natAbs x.sum.natAbs = 1) (hx : 2 ≤ a ∨ 3 ≤ b ∨ x.sum ≠ 1) : lastL (step x a b c) a b = some c := by
  have k1 := k.a1
  have k2 := k.ab
  have hs := h.amt.pos
  have eS : (step x a b c).sum = b * x.sum := by
    have := step_sum_g h k hc
    rw [hg] at this
    omega
  have eI : ∀ i, i < x.length → (step x a b c).getD i 0 = x.getD i 0 * a + if i = c then (b - a) * x.sum else 0 := fun i hi => by
    have := step_get (a := a) (b := b) (c := c) hi
    rw [hg] at this
    omega
  have hfit := fit_step h k hc
  have hl : (step x a b c).length = x.length := step_len _ _ _ _
  unfold lastL
  by_cases ha : 2 ≤ a
  · have hm : marked (step x a b c) a = [c] := by
      unfold marked
      refine single_of (by rw [hl]; exact hc) fun i hi => ?_
      rw [hl] at hi
      unfold mark
      rw [decide_eq_false (show ¬ a = 1 by omega), Bool.false_or, decide_eq_true_eq, eI i hi]
      constructor
      · intro z
        refine Classical.byContradiction fun hic => z ?_
        rw [if_neg hic, Int.add_zero]
        exact Int.mul_emod_left _ _
      · intro z
        subst z
        rw [if_pos rfl]
        refine mod_ne ha ?_
        rw [Int.natAbs_mul]
        exact Nat.Coprime.mul_right k.g hcop
    rw [hm, if_neg (by simp), List.filter_cons, if_pos hfit]
    rfl
  · have h1 : a = 1 := by omega
    subst h1
    have hm : marked (step x 1 b c) 1 = List.range x.length := by
      unfold marked
      rw [hl, List.filter_eq_self]
      intro i _
      rfl
    rw [hm, if_neg (by omega)]
    have e : (List.range x.length).filter (fit (step x 1 b c) 1 b) = [c] := by
      refine single_of hc fun i hi => ?_
      constructor
      · intro z
        refine Classical.byContradiction fun hic => ?_
        have z2 := of_decide_eq_true z
        rw [eI i hi, if_neg hic, eS, Int.add_zero, Int.mul_one] at z2
        have h0 := h.nn _ (getD_in hi)
        have hle := le_sum h.nn (getD_in hi)
        have z3 : (b - 1) * (b * x.sum) = (b - 1) * x.sum * b := by rw [Int.mul_comm b x.sum, Int.mul_assoc]
        rw [z3] at z2
        have z4 := Int.le_of_mul_le_mul_right z2 (by omega)
        -- (b - 1) * S ≤ x_i ≤ S
        by_cases hb : 3 ≤ b
        · have : 2 * x.sum ≤ (b - 1) * x.sum := Int.mul_le_mul_of_nonneg_right (by omega) (by omega)
          omega
        · have hb2 : b = 2 := by omega
          subst hb2
          have hS1 : x.sum ≠ 1 := by omega
          have z5 : x.getD i 0 = x.sum := by omega
          -- all others are 0, so the sum divides all
          have hz : ∀ j, j < x.length → j ≠ i → x.getD j 0 = 0 := fun j hj hji => by
            have := two_le_sum h.nn hi hj (fun z => hji z.symm)
            have := h.nn _ (getD_in hj)
            omega
          have hdv : x.sum.natAbs ∣ gcdN x := dvd_gcdN.mpr fun n hn => by
            obtain ⟨j, hj, ej⟩ := mem_at hn
            rw [← ej]
            by_cases hji : j = i
            · rw [hji, z5]; exact Nat.dvd_refl _
            · rw [hz j hj hji]
              exact Nat.dvd_zero _
          rw [h.g] at hdv
          have := Nat.dvd_one.mp hdv
          omega
      · intro z
        subst z
        exact hfit
    rw [e]
    rfl
theorem Reg.step {x : List Int} {a b : Int} {c : Nat} (R : Reg x a b) (k : Kep a b) (hc : c < x.length) : Reg (step x a b c) a b ∧ und (step x a b c) a b = (c :: (und x a b).1, (und x a b).2) := by
  have k1 := k.a1
  have k2 := k.ab
  have hb : 2 ≤ b := by omega
  obtain ⟨m, hm⟩ := R.ex
  have hd : b ∣ x.sum := by rw [hm, Int.pow_succ]; exact Int.dvd_mul_left _ _
  have hcop : Nat.gcd a.natAbs x.sum.natAbs = 1 := by rw [hm]; exact cop_pow k.g _
  have hg := pre_one R.con k hc hd hcop
  have eS : (Ma.step x a b c).sum = b ^ (m + 1 + 1) := by
    have := step_sum_g R.con k hc
    rw [hg, hm] at this
    rw [Int.pow_succ, Int.mul_comm]
    omega
  have hx1 : x.sum ≠ 1 := by
    have h1 := pow_pos' hb m
    have h2 := Int.mul_le_mul_of_nonneg_left hb (show 0 ≤ b ^ m by omega)
    rw [hm, Int.pow_succ]
    omega
  have hc2 := step_con R.con k hc
  refine ⟨⟨hc2, m + 1, eS⟩, ?_⟩
  have hlt := R.con.amt.pos
  have G : Goes (Ma.step x a b c) a b c := by
    refine ⟨?_, by rw [eS]; exact powB_pow hb _, step_last R.con k hc hg hcop (.inr (.inr hx1))⟩
    rw [eS, Int.pow_succ]
    have h1 := pow_pos' hb (m + 1)
    have h2 := Int.mul_le_mul_of_nonneg_left hb (show 0 ≤ b ^ (m + 1) by omega)
    omega
  rw [und_go k hc2 G, befo_step R.con k hc]
theorem Reg.walk {a b : Int} (k : Kep a b) : ∀ (cs : List Nat) {x : List Int}, Reg x a b → (∀ c ∈ cs, c < x.length) → und (cs.foldl (fun x c => Ma.step x a b c) x) a b = (cs.reverse ++ (und x a b).1, (und x a b).2) ∧ Reg (cs.foldl (fun x c => Ma.step x a b c) x) a b
  | [], x, R, _ => ⟨rfl, R⟩
  | c :: r, x, R, h => by
    obtain ⟨R1, e1⟩ := R.step k (h c List.mem_cons_self)
    obtain ⟨e2, R2⟩ := Reg.walk k r R1 fun d hd => by rw [step_len]; exact h d (List.mem_cons_of_mem _ hd)
    refine ⟨?_, R2⟩
    rw [List.foldl_cons, e2, e1, List.reverse_cons, List.append_assoc]
    rfl
end Ma
end

section
set_option Elab.async false
set_option linter.all false
set_option maxRecDepth 100000
set_option maxHeartbeats 4000000
namespace K09
open PySem PySem.Spec PyProof.Rows L2 GxR Gx Ma Mc
section
variable {P : Program} {w : World} {K : PySem.W.Frag} {mg : Str → Option Value} {base : Heap}

theorem ref_non {p : Addr} : (!decide (V.ref p = V.non)) = true := by rw [decide_eq_false (fun z => by cases z)]; rfl
theorem non_non : (!decide (V.non = V.non)) = false := by rw [decide_eq_true rfl]; rfl
theorem str_ne (x : Str) : (!decide (V.str x = V.str x)) = false := by rw [decide_eq_true rfl]; rfl
def duoD (U : List Nat) (L : List Int) : PyData := .tuple [.list ((rowI U).map PyData.int), .list (L.map PyData.int)]
theorem dp_duo {K : PySem.W.Frag} {H : Hp} {d u v : Addr} {U : List Nat} {L : List Int} (hd : H d = some (.tup [.ref u, .ref v])) (hu : LI H u (rowI U)) (hv : LI H v L) : Dp K H (.ref d) (duoD U L) := .tup (SqT.of hd) (.cons (dp_li hu) (.cons (dp_li hv) .nil))
theorem canLay_duo (U : List Nat) (L : List Int) : (duoD U L).canLay0 = true := by
  have h1 : (PyData.list ((rowI U).map PyData.int)).canLay0 = true := canLay_ints _
  have h2 : (PyData.list (L.map PyData.int)).canLay0 = true := canLay_ints _
  show PyData.canLayAll0 [PyData.list ((rowI U).map PyData.int), PyData.list (L.map PyData.int)] = true
  simp only [PyData.canLayAll0, h1, h2, Bool.and_self]
theorem depth_duo (U : List Nat) (L : List Int) : (duoD U L).depth ≤ 4 := by
  have h1 := depth_ints (rowI U)
  have h2 := depth_ints L
  unfold duoD
  simp only [PyData.depth, PyData.depthAll]
  omega
theorem shaped_duo (U : List Nat) (L : List Int) : SeqAt.shaped (duoD U L) = true := by
  have h1 := depth_duo U L
  unfold SeqAt.shaped
  rw [Bool.and_eq_true]
  exact ⟨canLay_duo U L, decide_eq_true (by omega)⟩
theorem eqv_duo (U : List Nat) (L : List Int) : PyData.eqv (duoD U L) (duoD U L) = true := SeqAt.eqv_refl _ (canLay_duo U L)
theorem sh_ints {B : Nat} : ∀ ns : List Int, (∀ n ∈ ns, n.natAbs < 2 ^ B) → shAll B (ns.map PyData.int)
  | [], _ => trivial
  | n :: r, h => ⟨h n List.mem_cons_self, sh_ints r fun m hm => h m (List.mem_cons_of_mem _ hm)⟩
theorem sh_row {B : Nat} (hB : 3 ≤ B) (U : List Nat) (h : ∀ c ∈ U, c < 8) : shAll B ((rowI U).map PyData.int) := sh_ints _ fun n hn => by
  obtain ⟨c, hc, rfl⟩ := List.mem_map.mp hn
  have := h c hc
  show (Int.natAbs (c : Int)) < 2 ^ B
  rw [Int.natAbs_natCast]
  exact Nat.lt_of_lt_of_le (show c < 2 ^ 3 by omega) (Nat.pow_le_pow_right (by decide) hB)
theorem shows_duo {U : List Nat} {L : List Int} (hU : ∀ c ∈ U, c < 8) (hl : U.length ≤ 101) (hc : Con L) (hz : L.sum < 2 ^ 101) : Shows (duoD U L) := by
  refine ⟨⟨101, ⟨sh_row (by decide) U hU, sh_ints L fun n hn => abs_lt (hc.nn n hn) (Int.lt_of_le_of_lt (le_sum hc.nn hn) hz), trivial⟩, by decide, by decide, ?_⟩, Nat.le_trans (depth_duo U L) (by decide)⟩
  have h8 := hc.le8
  have e : nod (duoD U L) = (3 * U.length + 3) + 2 + ((3 * L.length + 3) + 2 + 0) + 3 := by
    unfold duoD
    rw [nod, nodAll, nodAll, nodAll, nod_ints, nod_ints, rowI_len]
  have h3 : nod (duoD U L) ≤ 400 := by omega
  exact Nat.le_trans (Nat.mul_le_mul_left _ h3) (by decide)
theorem shortsOf_ne (s : Nat) (row : List Nat) (a b : Int) : shortsOf s row a b ≠ [] := by
  unfold shortsOf
  split
  · split <;> simp
  · simp
theorem shorts_none {ns : List Int} {a b : Int} (h : (und ns a b).2.sum ≠ 1) : shorts ns a b = [] := by unfold shorts; rw [if_neg h]
theorem shorts_some {ns : List Int} {a b : Int} (h : (und ns a b).2.sum = 1) : shorts ns a b ≠ [] := by unfold shorts; rw [if_pos h]; exact shortsOf_ne _ _ _ _
def sp_lright (T : Addr) : Sp := fun vs H Q _ => ∃ (l t : Addr) (ns : List Int) (a b : Int), vs = [V.ref l, V.ref t] ∧ LI H l ns ∧ Con ns ∧ H t = some (.tup [.int a, .int b]) ∧ Kep a b ∧ ns.sum < 2 ^ 101 ∧ H T = some (TabO T) ∧ ∀ H', Same H H' → Q (.bl true) H'
theorem ne_tl {H : Hp} {p q : Addr} {xs : List V} {ns : List Int} (h1 : H p = some (.tup xs)) (h2 : LI H q ns) : p ≠ q := fun z => by
  have h2' : H q = some (.lst (ns.map V.int)) := h2
  rw [← z, h1] at h2'
  cases h2'
theorem app_new {H H' : Hp} {p : Addr} {o : HO} (e : Same H H') (h : H p = none) : Same H (L2.upd H' p o) := fun b x hb => by
  rw [L2.upd_ne (ne_of_none hb h)]
  exact e b x hb

theorem ok__law_right {f : Addr} {fd : FuncData}  (F : Fun K "_law_right" "_law_right" s__law_right f fd) (B : Bl mg) {T : Addr} (C__law_back : Cal P w K mg base 3 "_law_back" ["pot", "share_here"] sp_lback) (C_history_of : Cal P w K mg base 8 "history_of" ["content", "kept"] (sp_hist T)) (CK_history_of_01 : CalK P w K mg base 8 "history_of" ["content", "kept"] ["content", "kept"] (gVof [0, 1] 2) (sp_hist T)) (C_stuck_at : Cal P w K mg base 8 "stuck_at" ["content", "kept"] (sp_stuck T)) (CK_stuck_at_01 : CalK P w K mg base 8 "stuck_at" ["content", "kept"] ["content", "kept"] (gVof [0, 1] 2) (sp_stuck T)) (CK_stuck_at_10 : CalK P w K mg base 8 "stuck_at" ["content", "kept"] ["kept", "content"] (gVof [1, 0] 2) (sp_stuck T)) (C_all_histories : Cal P w K mg base 8 "all_histories" ["content", "kept", "number"] (sp_allh T)) : FnG P w K mg base 9 f fd ["pot", "share_here"] (sp_lright T) := by
  refine fnG_of F sc__law_right (fun vs H Q E h => ?_) (fun cdv A outer s H vs Q E hr hgd h => ?_)
  · obtain ⟨l, t, ns, a, b, rfl, _⟩ := h; rfl
  · obtain ⟨l, t, ns, a, b, rfl, hl, hc, ht, k, hz, hT, q⟩ := h
    have z7 : ns.sum < 2 ^ 7000 := Int.lt_of_lt_of_le hz (two_le (by decide))
    have nd := sc__law_right.nd
    refine ⟨_, (pss_cons (ps_par (i := 2) (j := 3) (by rfl) nd rfl rfl (by decide) rfl rfl (pa_cons (pe_callTy call_list_of (by rfl) B.list (by decide +kernel) (pa_cons (pv 0) pa_nil)) (pa_cons (pe_cal C__law_back (hr.mono (by decide)) (pa_cons (pv 0) (pa_cons (pv 1) pa_nil))) pa_nil)) (by rfl))
      (pss_cons (ps_if (pt_cmpR op_eq (pe_callB (cr_sum rfl) (by rfl) B.sum (by decide +kernel) (pa_cons (pe_ix ix_tup (pv 3) pe_int (fun _ _ => rfl)) pa_nil)) pe_int (nomark _))
      (pss_cons (ps_set (i := 4) nd rfl (Or.inl rfl) (pe_cal C_history_of (hr.mono (by decide)) (pa_cons (pv 0) (pa_cons (pv 1) pa_nil))))
      (pss_one (ps_ret (pe_and (pe_cmpR op_notN (pv 4) pe_non (nomark _)) (pe_and (pe_cmpR op_isN (pe_calK CK_stuck_at_01 (hr.mono (by decide)) (pk_cons (pv 0) (pk_cons (pv 1) pk_nil))) pe_non (nomark _)) (pe_one (pe_cmpR (op_eqD hr.units) (pv 0) (pv 2) (nomark _)))))))) pss_nil)
      (pss_cons (ps_set (i := 5) nd rfl (Or.inl rfl) (pe_calK CK_stuck_at_10 (hr.mono (by decide)) (pk_cons (pv 1) (pk_cons (pv 0) pk_nil))))
      (pss_cons (ps_if (PW.pt (pw_or (pt_cmpR op_ne (pe_callB (cr_reprD hr hgd) (by rfl) B.repr (by decide +kernel) (pa_cons (pv 5) pa_nil)) (pe_callB (cr_reprD hr hgd) (by rfl) B.repr (by decide +kernel) (pa_cons (pv 3) pa_nil)) (nomark _)) (pw_or1 (pt_cmpR op_notN (pe_calK CK_history_of_01 (hr.mono (by decide)) (pk_cons (pv 0) (pk_cons (pv 1) pk_nil))) pe_non (nomark _)))))
      (pss_one (ps_ret pe_bl)) pss_nil)
      (pss_cons (ps_expr (pe_bm PySem.F.plainAttrs_list PySem.F.slot_list_append PySem.F.type_list_append mt_append (pe_ix ix_tup (pv 5) pe_int (fun _ _ => rfl)) (pa_cons pe_non pa_nil)))
      (pss_cons (ps_expr (pe_bm PySem.F.plainAttrs_list PySem.F.slot_list_append PySem.F.type_list_append mt_append (pe_ix ix_tup (pv 5) pe_int (fun _ _ => rfl)) (pa_cons pe_non pa_nil)))
      (pss_cons (ps_if (PW.pt (pw_or (pt_cmpR (op_neD hr.units) (pe_cal C_stuck_at (hr.mono (by decide)) (pa_cons (pv 0) (pa_cons (pv 1) pa_nil))) (pv 3) (nomark _)) (pw_or1 (pt_cmpR (op_neD hr.units) (pv 0) (pv 2) (nomark _)))))
      (pss_one (ps_ret pe_bl)) pss_nil)
      (pss_one (ps_ret (pe_cmpR (op_eqD hr.units) (pe_cal C_all_histories (hr.mono (by decide)) (pa_cons (pv 0) (pa_cons (pv 1) (pa_cons (pe_callB (call_min2 rfl) (by rfl) B.min (by decide +kernel) (pa_cons pe_int (pa_cons (pe_op op_add (pe_callB call_len_seq (by rfl) B.len PySem.boot_len (pa_cons (pe_ix ix_tup (pv 3) pe_int (fun _ _ => rfl)) pa_nil)) pe_int) pa_nil))) pa_nil)))) (pe_lst pa_nil) (nomark _))))))))))), ?_⟩
    refine ⟨.ref l, rfl, l, _, rfl, .inl (SqL.of hl), fun p np => ?_⟩
    have s1 := sameN (o := .lst (ns.map V.int)) np
    have hp : L2.upd H p (.lst (ns.map V.int)) p = some (.lst (ns.map V.int)) := upd_same
    generalize L2.upd H p (.lst (ns.map V.int)) = H1 at *
    refine ⟨.ref l, rfl, .ref t, rfl, l, t, ns, a, b, rfl, s1 _ _ hl, hc, s1 _ _ ht, k, hz, fun d u v H2 s2 nd2 nu2 hd hu hv => ?_⟩
    have t2 := s1.trans s2
    have cL := und_con k hc
    have uL := und_liq k hc
    have uz := und_size k hc hz
    have ul8 : ∀ c ∈ (und ns a b).1, c < 8 := fun c hc2 => Nat.lt_of_lt_of_le (uL c hc2) hc.le8
    have zL : (und ns a b).2.sum < 2 ^ 101 := Int.lt_of_le_of_lt ((und_un' k hc).sum k hc) hz
    have hp2 := s2 _ _ hp
    refine ⟨.ref p, .ref d, rfl, .ref d, rfl, d, _, 1, .ref v, rfl, rfl, SqT.of hd, rfl, v, _, rfl, SqL.of hv, rfl, _, rfl, ?_⟩
    rw [dec_int]
    by_cases h1 : (und ns a b).2.sum = 1
    · rw [decide_eq_true h1]
      refine iteT ⟨.ref l, rfl, .ref t, rfl, l, t, ns, a, b, rfl, t2 _ _ hl, hc, t2 _ _ ht, k, z7, t2 _ _ hT, fun h r e p3 u3 H3 s3 np3 nu3 npu hp3 hu3 => ?_, fun e => absurd e (shorts_some h1)⟩
      have t3 := t2.trans s3
      refine ⟨.ref p3, rfl, rfl, _, rfl, ?_⟩
      rw [ref_non]
      refine iteT ⟨.ref l, rfl, .ref t, rfl, l, t, ns, a, b, rfl, t3 _ _ hl, hc, t3 _ _ ht, k, z7, t3 _ _ hT, fun _ H4 s4 => ?_, fun ne => absurd h1 ne⟩
      have t4 := t3.trans s4
      refine ⟨rfl, _, rfl, ?_⟩
      rw [decide_eq_true rfl]
      refine iteT ⟨.ref l, rfl, .ref p, rfl, _, _, dp_li (t4 _ _ hl), dp_li (s4 _ _ (s3 _ _ hp2)), shaped_ints _, shaped_ints _, ?_⟩
      rw [eqv_ints]
      exact q _ t4
    · rw [decide_eq_false h1]
      have e0 := shorts_none h1
      refine iteF ⟨.ref t, rfl, .ref l, rfl, l, t, ns, a, b, rfl, t2 _ _ hl, hc, t2 _ _ ht, k, z7, t2 _ _ hT, fun e => absurd e h1, fun _ tp tu tv H3 s3 ntp ntu ntv nuv htp htu htv => ?_⟩
      have t3 := t2.trans s3
      have hd3 := s3 _ _ hd
      have hu3 : LI H3 u _ := s3 _ _ hu
      have hv3 : LI H3 v _ := s3 _ _ hv
      have sd := shows_duo ul8 uz cL zL
      refine ⟨.ref tp, rfl, _, _, rfl, dp_duo htp htu htv, sd, .ref d, rfl, _, _, rfl, dp_duo hd3 hu3 hv3, sd, rfl, _, rfl, ?_⟩
      rw [str_ne]
      refine iteF ⟨.ref l, rfl, .ref t, rfl, l, t, ns, a, b, rfl, t3 _ _ hl, hc, t3 _ _ ht, k, z7, t3 _ _ hT, fun h r e => (absurd (e0.symm.trans e) (by simp)), fun _ H4 s4 => ?_⟩
      have t4 := t3.trans s4
      refine ⟨rfl, _, rfl, ?_⟩
      rw [non_non]
      have htp4 := s4 _ _ htp
      have htu4 : LI H4 tu _ := s4 _ _ htu
      have htv4 : LI H4 tv _ := s4 _ _ htv
      refine iteF ⟨.ref tp, rfl, tp, _, 0, .ref tu, rfl, rfl, SqT.of htp4, rfl, .inl ⟨rfl, _, SqL.of htu4⟩, tu, _, _, rfl, rfl, htu4, ?_, ?_⟩
      · rw [List.length_map, rowI_len]
        show _ < 16777216
        omega
      have s5 : Same H2 (L2.upd H4 tu (.lst ((rowI (und ns a b).1).map V.int ++ [.non]))) := app_new (s3.trans s4) ntu
      have htp5 : L2.upd H4 tu (.lst ((rowI (und ns a b).1).map V.int ++ [.non])) tp = some (.tup [.ref tu, .ref tv]) := by
        rw [upd_ne (ne_tl htp4 htu4)]
        exact htp4
      have htv5 : LI (L2.upd H4 tu (.lst ((rowI (und ns a b).1).map V.int ++ [.non]))) tv (und ns a b).2 := by
        show L2.upd _ _ _ tv = _
        rw [upd_ne (fun z => nuv z.symm)]
        exact htv4
      generalize L2.upd H4 tu (.lst ((rowI (und ns a b).1).map V.int ++ [.non])) = H5 at *
      refine ⟨.ref tp, rfl, tp, _, 1, .ref tv, rfl, rfl, SqT.of htp5, rfl, .inl ⟨rfl, _, SqL.of htv5⟩, tv, _, _, rfl, rfl, htv5, ?_, ?_⟩
      · rw [List.length_map]
        have := cL.le8
        show _ < 16777216
        omega
      have s6 : Same H2 (L2.upd H5 tv (.lst ((und ns a b).2.map V.int ++ [.non]))) := app_new s5 ntv
      generalize L2.upd H5 tv (.lst ((und ns a b).2.map V.int ++ [.non])) = H6 at *
      have t6 := t2.trans s6
      refine ⟨.ref l, rfl, .ref t, rfl, l, t, ns, a, b, rfl, t6 _ _ hl, hc, t6 _ _ ht, k, z7, t6 _ _ hT, fun e => absurd e h1, fun _ xp xu xv H7 s7 nxp nxu nxv nxuv hxp hxu hxv => ?_⟩
      have t7 := t6.trans s7
      have s27 := s6.trans s7
      refine ⟨.ref d, rfl, _, _, dp_duo hxp hxu hxv, dp_duo (s27 _ _ hd) (s27 _ _ hu) (s27 _ _ hv), shaped_duo _ _, shaped_duo _ _, _, rfl, ?_⟩
      rw [eqv_duo]
      refine iteF ⟨.ref l, rfl, .ref p, rfl, _, _, dp_li (t7 _ _ hl), dp_li (s27 _ _ hp2), shaped_ints _, shaped_ints _, _, rfl, ?_⟩
      rw [eqv_ints]
      refine iteF ⟨.ref l, rfl, .ref t, rfl, .ref d, rfl, d, _, 0, .ref u, rfl, rfl, SqT.of (s27 _ _ hd), rfl, u, _, rfl, .inl (SqL.of (s27 _ _ hu)), _, 3, rfl, rfl, 60, _, rfl, ?_⟩
      generalize hN : (if ((((rowI (und ns a b).1).map V.int).length : Int) + 3 < 60) then ((((rowI (und ns a b).1).map V.int).length : Int) + 3) else 60) = N
      have hN0 : 0 ≤ N ∧ N ≤ 60 := by rw [← hN]; split <;> omega
      obtain ⟨n, rfl⟩ := Int.eq_ofNat_of_zero_le hN0.1
      refine ⟨l, t, ns, a, b, n, rfl, t7 _ _ hl, hc, t7 _ _ ht, k, z7, t7 _ _ hT, by omega, fun hp8 ps H8 s8 HL => ?_⟩
      have e9 : hofl ns a b n = [] := by unfold hofl; rw [e0]; rfl
      have ha := HL.ha
      have hat := HL.at_
      rw [e9] at ha
      cases ha with
      | nil =>
        refine ⟨by show 0 ≤ 16777216; decide, fun z nz => ?_⟩
        have sz := sameN (o := .lst []) nz
        refine ⟨.list [], .list [], .lst (SqL.of (sz _ _ hat)) .nil, .lst (SqL.of upd_same) .nil, by decide, by decide, ?_⟩
        exact q _ ((t7.trans s8).trans sz)

end
end K09
end

section
set_option Elab.async false
set_option linter.all false
set_option maxRecDepth 100000
set_option maxHeartbeats 4000000
namespace K09
open PySem PySem.Spec PyProof.Rows L2 GxR Gx Ma Mc
section
variable {P : Program} {w : World} {K : PySem.W.Frag} {mg : Str → Option Value} {base : Heap}

def headOk (s : Nat) : List Nat → Prop
  | [] => True
  | c :: _ => c ≠ s
def sp_lknown : Sp := fun vs H Q _ => ∃ (j t : Addr) (n k z : Nat) (a b : Int), vs = [V.ref j, V.int k, V.ref t, V.int z] ∧ Jar H j n ∧ n + z ≤ 800000 ∧ 1 ≤ k ∧ k ≤ 8 ∧ z ≤ 60 ∧ H t = some (.tup [.int a, .int b]) ∧ Kep a b ∧
  ∀ p r x s cs H', But j H H' → (∀ b, H' b = none → H b = none) → H p = none → H r = none → H x = none → Jar H' j (n + 1 + z) → H' p = some (.tup [.int (s : Nat), .ref r, .ref x]) → LI H' r (rowI cs) → LI H' x (ctn1 (pur k s) a b cs cs.length) → s < k → cs.length ≤ z → (k ≠ 1 → cs.length = z) → (∀ c ∈ cs, c < k) → headOk s cs → Q (.ref p) H'
theorem mod_ne_self {s k : Nat} (hs : s < k) (hk : 2 ≤ k) : (s + 1) % k ≠ s := by
  by_cases h : s + 1 = k
  · rw [h, Nat.mod_self]; omega
  · rw [Nat.mod_eq_of_lt (by omega)]; omega
theorem eqv_nilR (cs : List Nat) : PyData.eqv (.list ((rowI cs).map PyData.int)) (.list []) = cs.isEmpty := by cases cs <;> rfl

theorem ok__law_known {f : Addr} {fd : FuncData}  (F : Fun K "_law_known" "_law_known" s__law_known f fd) (B : Bl mg) (C__law_dip : Cal P w K mg base 1 "_law_dip" ["jar", "many"] sp_dip) (C__law_pure : Cal P w K mg base 1 "_law_pure" ["many", "spot"] sp_lpure) (C__law_walk : Cal P w K mg base 4 "_law_walk" ["numbers_here", "share_here", "spots"] sp_lwalk) (C__law_spots : Cal P w K mg base 2 "_law_spots" ["jar", "many", "size"] sp_lspots) : FnOk P w K mg base CX0 5 f fd ["jar", "many", "share_here", "size"] (sp_lknown) := by
  refine F.ok sc__law_known (fun vs H Q E h => ?_) (fun cdv A outer s H vs Q E hr h => ?_)
  · obtain ⟨j, t, n, k, z, a, b, rfl, _⟩ := h; rfl
  · obtain ⟨j, t, n, k, z, a, b, rfl, hj, hn, hk, hk8, hz, ht, kp, q⟩ := h
    have nd := sc__law_known.nd
    refine ⟨_, (pss_cons (ps_set (i := 4) nd rfl (Or.inl rfl) (pe_cal C__law_dip (hr.mono (by decide)) (pa_cons (pv 0) (pa_cons (pv 1) pa_nil))))
      (pss_cons (ps_set (i := 5) nd rfl (Or.inl rfl) (pe_cal C__law_spots (hr.mono (by decide)) (pa_cons (pv 0) (pa_cons (pv 1) (pa_cons (pv 3) pa_nil)))))
      (pss_cons (ps_if (PW.pt (pw_and (pt_cmpR (op_neD hr.units) (pv 5) (pe_lst pa_nil) (nomark _)) (pw_and1 (pt_cmpR op_eq (pe_ix ix_list (pv 5) pe_int (fun _ _ => rfl)) (pv 4) (nomark _)))))
      (pss_one (ps_asg (pe_op op_mod (pe_callTy call_int1 (by rfl) B.int (by decide +kernel) (pa_cons (pe_op op_add (pv 4) pe_int) pa_nil)) (pv 1)) (pg_sub (pv 5) pe_int set_list))) pss_nil)
      (pss_cons (ps_if (pt_cmpR op_eq (pv 1) pe_int (nomark _))
      (pss_one (ps_set (i := 5) nd rfl (Or.inl rfl) (pe_lst pa_nil))) pss_nil)
      (pss_one (ps_ret (pe_tup (pa_cons (pv 4) (pa_cons (pv 5) (pa_cons (pe_ix ix_list (pe_cal C__law_walk (hr.mono (by decide)) (pa_cons (pe_cal C__law_pure (hr.mono (by decide)) (pa_cons (pv 1) (pa_cons (pv 4) pa_nil))) (pa_cons (pv 2) (pa_cons (pv 5) pa_nil)))) (pe_un un_neg pe_int) (fun _ _ => rfl)) pa_nil)))))))))), ?_⟩
    refine ⟨.ref j, rfl, .int k, rfl, j, k, n, rfl, hj, by omega, by omega, small8000 (Int.lt_of_le_of_lt (show (k : Int) ≤ 8 by omega) (by decide +kernel)), fun d H1 b1 f1 j1 x0 x1 => ?_⟩
    obtain ⟨s, rfl⟩ := Int.eq_ofNat_of_zero_le x0
    have hs : s < k := by omega
    refine ⟨.ref j, rfl, .int k, rfl, .int z, rfl, j, n + 1, k, z, rfl, j1, by omega, hk, hk8, hz, fun r cs H2 b2 f2 nr j2 er lr cr => ?_⟩
    have nr0 : H r = none := f1 r nr
    have bb := b1.trans b2
    have ff : ∀ x, H2 x = none → H x = none := fun x hx => f1 x (f2 x hx)
    have hrj : r ≠ j := j1.ne nr
    -- behind the list, whatever it is by then
    have rest : ∀ (ds : List Nat) (r1 : Addr) (H3 : Hp), But j H H3 → (∀ x, H3 x = none → H x = none) → H r1 = none → Jar H3 j (n + 1 + z) → LI H3 r1 (rowI ds) → ds.length ≤ z → (k ≠ 1 → ds.length = z) → (∀ c ∈ ds, c < k) → headOk s ds → tRet
        (tTup (tCons (tVar 4) (tCons (tVar 5) (tCons (tOp (rIxL K) (tCall sp_lwalk [] E0 (tCons (tCall sp_lpure [] E0 (tCons (tVar 1) (tCons (tVar 4) tNil))) (tCons (tVar 2) (tCons (tVar 5) tNil)))) (tUn (rU fun i => .int (-i)) (tC (V.int 1)))) tNil))))
        { nx := fun _ H' => Q .non H', rt := Q } [some (.ref j), some (.int k), some (.ref t), some (.int z), some (.int (s : Nat)), some (.ref r1)] H3 := fun ds r1 H3 b3 f3 nr1 j3 er1 l1 l2 c1 h1 => by
      have ht3 := b3 _ _ (hj.tupne ht) ht
      refine ⟨.int (s : Nat), rfl, .ref r1, rfl, .int k, rfl, .int (s : Nat), rfl, k, s, rfl, hk8, fun p0 H4 s4 np0 lp0 => ?_⟩
      have hR : Row1 (pur k s) a b ds := ⟨pur_con hs hk8, by omega, kp, fun c hc => by rw [pur_len]; exact c1 c hc⟩
      refine ⟨.ref t, rfl, .ref r1, rfl, p0, t, r1, pur k s, a, b, ds, rfl, lp0, s4 _ _ ht3, s4 _ _ er1, hR, by rw [pur_sum hs]; exact Int.lt_of_lt_of_le (show (1 : Int) < 2 ^ 1 by decide) (two_le (by decide)), fun pw ps H5 s5 RR => ?_⟩
      obtain ⟨x, ex, lx, xm⟩ := RR.last
      have s45 := s4.trans s5
      refine ⟨1, rfl, pw, _, -1, _, rfl, rfl, SqL.of RR.at_, ex, by show 3 ≤ 16777216; decide, fun p np => ?_⟩
      have sp := sameN (o := .tup [.int (s : Nat), .ref r1, .ref x]) np
      have s6 := s45.trans sp
      exact q p r1 x s ds _ (b3.trans (But.of s6)) (fun y hy => f3 y (s6.free hy)) (f3 p (s45.free np)) nr1 (f3 x (s4.free (RR.new x (List.mem_of_getElem? xm)))) (j3.keep s6) upd_same (s6 _ _ er1) (sp _ _ lx) hs l1 l2 c1 h1
    refine ⟨.ref r, rfl, by show 0 ≤ 16777216; decide, fun z0 nz0 => ?_⟩
    have sz := sameN (o := .lst []) nz0
    have er2 : LI (L2.upd H2 z0 (.lst [])) r (rowI cs) := sz _ _ er
    refine ⟨_, _, dp_li er2, .lst (SqL.of upd_same) .nil, shaped_ints _, by decide, ?_⟩
    rw [eqv_nilR]
    have bz := bb.trans (But.of (j := j) sz)
    have fz : ∀ x, (L2.upd H2 z0 (.lst [])) x = none → H x = none := fun x hx => ff x (sz.free hx)
    have jz := j2.keep sz
    generalize L2.upd H2 z0 (.lst []) = H3 at *
    refine ⟨_, rfl, ?_⟩
    cases cs with
    | nil =>
      refine iteF ?_
      refine ⟨.int k, rfl, rfl, _, rfl, ?_⟩
      rw [dec_int]
      by_cases hk1 : (k : Int) = 1
      · rw [decide_eq_true hk1]
        exact iteT ⟨by show 0 ≤ 16777216; decide, fun r2 nr2 => rest [] r2 _ (bz.trans (But.of (sameN nr2))) (fun x hx => fz x (upd_none x hx)) (fz r2 nr2) (jz.keep (sameN nr2)) upd_same (Nat.zero_le _) (fun h => absurd (show k = 1 by omega) h) (fun c hc => by cases hc) trivial⟩
      · rw [decide_eq_false hk1]
        exact iteF (rest [] r H3 bz fz nr0 jz er2 (Nat.zero_le _) (fun _ => lr) cr trivial)
    | cons c cc =>
      refine iteT ⟨.ref r, rfl, r, _, 0, .int (c : Nat), rfl, rfl, SqL.of er2, (show atI _ ((0 : Nat) : Int) = _ from atI_nat rfl), .int (s : Nat), rfl, rfl, _, rfl, ?_⟩
      rw [dec_int]
      by_cases hcs : (c : Int) = (s : Int)
      · rw [decide_eq_true hcs]
        refine iteT ⟨.int (s : Nat), rfl, s, 1, rfl, rfl, .inl ⟨(s : Int) + 1, rfl, .int k, rfl, _, k, rfl, rfl, by show (0 : Int) < k; omega, ?_⟩⟩
        refine ⟨.ref r, rfl, r, _, 0, 0, rfl, rfl, er2, (show ixN _ ((0 : Nat) : Int) = some 0 from ixN_of (by rw [List.length_map, rowI_len]; exact Nat.succ_pos _)), ?_⟩
        have e4 : L2.upd H3 r (.lst (((rowI (c :: cc)).map V.int).set 0 (.int (((s : Int) + 1) % (k : Int))))) r = some (.lst ((rowI ((s + 1) % k :: cc)).map V.int)) := by rw [upd_same]; rfl
        have b4 : But j H (L2.upd H3 r (.lst (((rowI (c :: cc)).map V.int).set 0 (.int (((s : Int) + 1) % (k : Int)))))) := fun x o hx ho => by
          rw [upd_ne (ne_of_none ho nr0)]
          exact bz x o hx ho
        have f4 : ∀ x, (L2.upd H3 r (.lst (((rowI (c :: cc)).map V.int).set 0 (.int (((s : Int) + 1) % (k : Int)))))) x = none → H x = none := fun x hx => fz x (upd_none x hx)
        have j4 : Jar (L2.upd H3 r (.lst (((rowI (c :: cc)).map V.int).set 0 (.int (((s : Int) + 1) % (k : Int)))))) j (n + 1 + z) := by
          obtain ⟨x1, x2, x3, y1, y2⟩ := jz
          exact ⟨x1, x2, x3, by rw [upd_ne (fun e => hrj e.symm)]; exact y1, y2⟩
        generalize L2.upd H3 r (.lst (((rowI (c :: cc)).map V.int).set 0 (.int (((s : Int) + 1) % (k : Int))))) = H4 at *
        have hm : (s + 1) % k < k := Nat.mod_lt _ (by omega)
        refine ⟨.int k, rfl, rfl, _, rfl, ?_⟩
        rw [dec_int]
        by_cases hk1 : (k : Int) = 1
        · rw [decide_eq_true hk1]
          exact iteT ⟨by show 0 ≤ 16777216; decide, fun r2 nr2 => rest [] r2 _ (b4.trans (But.of (sameN nr2))) (fun x hx => f4 x (upd_none x hx)) (f4 r2 nr2) (j4.keep (sameN nr2)) upd_same (Nat.zero_le _) (fun h => absurd (show k = 1 by omega) h) (fun c hc => by cases hc) trivial⟩
        · rw [decide_eq_false hk1]
          exact iteF (rest ((s + 1) % k :: cc) r H4 b4 f4 nr0 j4 e4 (Nat.le_of_eq lr) (fun _ => lr) (fun d hd => (List.mem_cons.mp hd).elim (fun y => by rw [y]; exact hm) (fun y => cr d (List.mem_cons_of_mem _ y))) (mod_ne_self hs (by omega)))
      · rw [decide_eq_false hcs]
        refine iteF ?_
        refine ⟨.int k, rfl, rfl, _, rfl, ?_⟩
        rw [dec_int]
        by_cases hk1 : (k : Int) = 1
        · rw [decide_eq_true hk1]
          exact iteT ⟨by show 0 ≤ 16777216; decide, fun r2 nr2 => rest [] r2 _ (bz.trans (But.of (sameN nr2))) (fun x hx => fz x (upd_none x hx)) (fz r2 nr2) (jz.keep (sameN nr2)) upd_same (Nat.zero_le _) (fun h => absurd (show k = 1 by omega) h) (fun c hc => by cases hc) trivial⟩
        · rw [decide_eq_false hk1]
          exact iteF (rest (c :: cc) r H3 bz fz nr0 jz er2 (Nat.le_of_eq lr) (fun _ => lr) cr (fun e => hcs (by rw [e])))

def sp_lmade : Sp := fun vs H Q _ => ∃ (j t : Addr) (n k : Nat) (a b : Int), vs = [V.ref j, V.int k, V.ref t] ∧ Jar H j n ∧ n ≤ 400000 ∧ 1 ≤ k ∧ k ≤ 8 ∧ H t = some (.tup [.int a, .int b]) ∧ Kep a b ∧
  ∀ p ns H', But j H H' → (∀ b, H' b = none → H b = none) → H p = none → Jar H' j (n + 110) → LI H' p ns → Con ns → ns.sum < 2 ^ 101 → Q (.ref p) H'
theorem ctn1_small {k s : Nat} {a b : Int} {cs : List Nat} (hs : s < k) (hk8 : k ≤ 8) (kp : Kep a b) (l : cs.length ≤ 6) (hc : ∀ c ∈ cs, c < k) : Con (ctn1 (pur k s) a b cs cs.length) ∧ (ctn1 (pur k s) a b cs cs.length).sum ≤ 1000000000000 := by
  have hR : Row1 (pur k s) a b cs := ⟨pur_con hs hk8, by omega, kp, fun c h => by rw [pur_len]; exact hc c h⟩
  have g1 := ctn_sum hR.y cs.length (Nat.le_refl _)
  rw [pur_sum hs, Int.mul_one] at g1
  refine ⟨ctn_con hR.y _ (Nat.le_refl _), Int.le_trans g1 ?_⟩
  generalize cs.length = x at l
  have : x = 0 ∨ x = 1 ∨ x = 2 ∨ x = 3 ∨ x = 4 ∨ x = 5 ∨ x = 6 := by omega
  rcases this with rfl | rfl | rfl | rfl | rfl | rfl | rfl <;> decide
theorem ctn1_len (ns : List Int) (a b : Int) (cs : List Nat) (i : Nat) : (ctn1 ns a b cs i).length = ns.length := ctn_len _ _ _ _
theorem sum_pos_of {ns : List Int} (hn : ∀ n ∈ ns, 0 ≤ n) {i : Nat} (hi : i < ns.length) (h : 0 < ns.getD i 0) : 0 < ns.sum := by
  have := le_sum hn (getD_in hi)
  omega

theorem ok__law_made {f : Addr} {fd : FuncData}  (F : Fun K "_law_made" "_law_made" s__law_made f fd) (B : Bl mg) (C__law_dip : Cal P w K mg base 1 "_law_dip" ["jar", "many"] sp_dip) (C__law_filled : Cal P w K mg base 5 "_law_filled" ["jar", "many", "most"] sp_lfilled) (C__law_step : Cal P w K mg base 3 "_law_step" ["numbers_here", "stays", "whole", "spot"] sp_lstep) (C__law_plain : Cal P w K mg base 2 "_law_plain" ["numbers_here"] sp_without_divisor) (C__law_known : Cal P w K mg base 5 "_law_known" ["jar", "many", "share_here", "size"] sp_lknown) : FnOk P w K mg base CX0 6 f fd ["jar", "many", "share_here"] (sp_lmade) := by
  refine F.ok sc__law_made (fun vs H Q E h => ?_) (fun cdv A outer s H vs Q E hr h => ?_)
  · obtain ⟨j, t, n, k, a, b, rfl, _⟩ := h; rfl
  · obtain ⟨j, t, n, k, a, b, rfl, hj, hn, hk, hk8, ht, kp, q⟩ := h
    have nd := sc__law_made.nd
    refine ⟨_, (pss_cons (ps_set (i := 3) nd rfl (Or.inl rfl) (pe_cal C__law_dip (hr.mono (by decide)) (pa_cons (pv 0) (pa_cons pe_int pa_nil))))
      (pss_cons (ps_if (pt_cmpR op_eq (pv 3) pe_int (nomark _))
      (pss_one (ps_ret (pe_cal C__law_filled (hr.mono (by decide)) (pa_cons (pv 0) (pa_cons (pv 1) (pa_cons pe_int pa_nil)))))) pss_nil)
      (pss_cons (ps_set (i := 4) nd rfl (Or.inl rfl) (pe_ix ix_tup (pe_cal C__law_known (hr.mono (by decide)) (pa_cons (pv 0) (pa_cons (pv 1) (pa_cons (pv 2) (pa_cons (pe_cal C__law_dip (hr.mono (by decide)) (pa_cons (pv 0) (pa_cons pe_int pa_nil))) pa_nil))))) pe_int (fun _ _ => rfl)))
      (pss_cons (ps_if (pt_cmpR op_eq (pv 3) pe_int (nomark _))
      (pss_one (ps_ret (pe_cal C__law_step (hr.mono (by decide)) (pa_cons (pv 4) (pa_cons (pe_op op_add pe_int (pe_cal C__law_dip (hr.mono (by decide)) (pa_cons (pv 0) (pa_cons pe_int pa_nil)))) (pa_cons pe_int (pa_cons (pe_cal C__law_dip (hr.mono (by decide)) (pa_cons (pv 0) (pa_cons (pv 1) pa_nil))) pa_nil))))))) pss_nil)
      (pss_cons (ps_par (i := 5) (j := 6) (by rfl) nd rfl rfl (by decide) rfl rfl (pa_cons (pe_callTy call_list_of (by rfl) B.list (by decide +kernel) (pa_cons (pv 4) pa_nil)) (pa_cons (pe_cal C__law_dip (hr.mono (by decide)) (pa_cons (pv 0) (pa_cons (pv 1) pa_nil))) pa_nil)) (by rfl))
      (pss_cons (ps_asg (pe_op op_add (pe_ix ix_list (pv 5) (pv 6) (fun _ _ => rfl)) pe_int) (pg_sub (pv 5) (pv 6) set_list))
      (pss_cons (ps_set (i := 7) nd rfl (Or.inl rfl) (pe_cal C__law_dip (hr.mono (by decide)) (pa_cons (pv 0) (pa_cons (pv 1) pa_nil))))
      (pss_cons (ps_if (pt_cmpR op_gt (pe_ix ix_list (pv 5) (pv 7) (fun _ _ => rfl)) pe_int (nomark _))
      (pss_one (ps_asg (pe_op op_sub (pe_ix ix_list (pv 5) (pv 7) (fun _ _ => rfl)) pe_int) (pg_sub (pv 5) (pv 7) set_list))) pss_nil)
      (pss_one (ps_ret (pe_cal C__law_plain (hr.mono (by decide)) (pa_cons (pv 5) pa_nil)))))))))))), ?_⟩
    refine ⟨.ref j, rfl, j, 4, n, rfl, hj, by omega, by decide, by decide +kernel, fun d H1 b1 f1 j1 x0 x1 => ?_⟩
    refine ⟨.int d, rfl, rfl, _, rfl, ?_⟩
    rw [dec_int]
    by_cases h0 : d = 0
    · rw [decide_eq_true h0]
      exact iteT ⟨.ref j, rfl, .int k, rfl, j, n + 1, k, 6, rfl, j1, by omega, hk, hk8, by decide, fun p ns H2 b2 f2 np j2 lp cp el zp => q p ns H2 (b1.trans b2) (fun x hx => f1 x (f2 x hx)) (f1 p np) (j2.le (by omega)) lp cp (zp (by decide))⟩
    rw [decide_eq_false h0]
    refine iteF ⟨.ref j, rfl, .int k, rfl, .ref t, rfl, .ref j, rfl, j, 7, n + 1, rfl, j1, by omega, by decide, by decide +kernel, fun e H2 b2 f2 j2 y0 y1 => ?_⟩
    obtain ⟨z, rfl⟩ := Int.eq_ofNat_of_zero_le y0
    have ht2 := b2 _ _ (j1.tupne (b1 _ _ (hj.tupne ht) ht)) (b1 _ _ (hj.tupne ht) ht)
    refine ⟨j, t, n + 1 + 1, k, z, a, b, rfl, j2, by omega, hk, hk8, by omega, ht2, kp, fun p r x s cs H3 b3 f3 np nr nx j3 hp hr2 hx hs lc _ cr _ => ?_⟩
    obtain ⟨cx, zx⟩ := ctn1_small hs hk8 kp (by omega) cr
    have lx : (ctn1 (pur k s) a b cs cs.length).length = k := by rw [ctn1_len, pur_len]
    generalize ctn1 (pur k s) a b cs cs.length = X at *
    have bb := (b1.trans b2).trans b3
    have ff : ∀ y, H3 y = none → H y = none := fun y hy => f1 y (f2 y (f3 y hy))
    have p29 : (1000000000000 : Int) * 1000 < 2 ^ 101 := by decide +kernel
    have sX := cx.amt.pos
    refine ⟨p, _, 2, .ref x, rfl, rfl, SqT.of hp, rfl, ?_⟩
    refine ⟨.int d, rfl, rfl, _, rfl, ?_⟩
    rw [dec_int]
    by_cases h1 : d = 1
    · rw [decide_eq_true h1]
      refine iteT ⟨.ref x, rfl, .ref j, rfl, j, 2, _, rfl, j3, by omega, by decide, by decide +kernel, fun e4 H4 b4 f4 j4 u0 u1 => ⟨1, e4, rfl, rfl, ?_⟩⟩
      refine ⟨.ref j, rfl, .int k, rfl, j, k, _, rfl, j4, by omega, by omega, small8000 (Int.lt_of_le_of_lt (show (k : Int) ≤ 8 by omega) (by decide +kernel)), fun e5 H5 b5 f5 j5 w0 w1 => ?_⟩
      obtain ⟨c, rfl⟩ := Int.eq_ofNat_of_zero_le w0
      have xj : x ≠ j := fun z => by
        obtain ⟨_, _, _, q1, _⟩ := hj
        have := f1 x (f2 x nx)
        rw [z, q1] at this
        cases this
      have hx5 : LI H5 x X := b5 _ _ xj (b4 _ _ xj hx)
      have kq : Kep (1 + e4) 5 := by
        have : e4 = 0 ∨ e4 = 1 := by omega
        rcases this with rfl | rfl <;> exact ⟨by decide, by decide, by decide, by decide⟩
      refine ⟨x, X, 1 + e4, 5, c, rfl, hx5, cx, kq, by omega, Int.lt_of_le_of_lt zx (Int.lt_of_lt_of_le (show (1000000000000 : Int) < 2 ^ 101 by omega) (two_le (by decide))), fun p6 H6 s6 np6 lp6 => ?_⟩
      have g := step_sum cx kq (c := c) (by omega)
      exact q p6 _ H6 (((bb.trans b4).trans b5).trans (But.of s6)) (fun y hy => ff y (f4 y (f5 y (s6.free hy)))) (ff p6 (f4 p6 (f5 p6 np6))) ((j5.keep s6).le (by omega)) lp6 (step_con cx kq (by omega)) (by omega)
    rw [decide_eq_false h1]
    refine iteF ⟨.ref x, rfl, x, _, rfl, .inl (SqL.of hx), fun F nF => ?_⟩
    have sF := sameN (o := .lst (X.map V.int)) nF
    have hF : L2.upd H3 F (.lst (X.map V.int)) F = some (.lst (X.map V.int)) := upd_same
    have nF0 := ff F nF
    have bF := bb.trans (But.of (j := j) sF)
    have fF : ∀ y, (L2.upd H3 F (.lst (X.map V.int))) y = none → H y = none := fun y hy => ff y (sF.free hy)
    have jF := j3.keep sF
    have Fj : F ≠ j := j3.ne nF
    generalize L2.upd H3 F (.lst (X.map V.int)) = H4 at *
    refine ⟨.ref j, rfl, .int k, rfl, j, k, _, rfl, jF, by omega, by omega, small8000 (Int.lt_of_le_of_lt (show (k : Int) ≤ 8 by omega) (by decide +kernel)), fun e5 H5 b5 f5 j5 w0 w1 => ?_⟩
    obtain ⟨c, rfl⟩ := Int.eq_ofNat_of_zero_le w0
    have hc : c < X.length := by omega
    have hF5 : LI H5 F X := b5 _ _ Fj hF
    refine ⟨.ref F, .int (c : Nat), rfl, .ref F, rfl, .int (c : Nat), rfl, F, _, c, .int (X.getD c 0), rfl, rfl, SqL.of hF5, at_int hc, X.getD c 0, 1, rfl, rfl, .ref F, rfl, .int (c : Nat), rfl, F, _, c, c, rfl, rfl, hF5, ixN_of (by rw [List.length_map]; exact hc), ?_⟩
    have e6 : L2.upd H5 F (.lst ((X.map V.int).set c (.int (X.getD c 0 + 1)))) F = some (.lst ((X.set c (X.getD c 0 + 1)).map V.int)) := by rw [upd_same, List.map_set]
    have b6 : But j H (L2.upd H5 F (.lst ((X.map V.int).set c (.int (X.getD c 0 + 1))))) := fun y o hy ho => by
      rw [upd_ne (ne_of_none ho nF0)]
      exact b5 _ _ hy (bF y o hy ho)
    have f6 : ∀ y, (L2.upd H5 F (.lst ((X.map V.int).set c (.int (X.getD c 0 + 1))))) y = none → H y = none := fun y hy => fF y (f5 y (upd_none y hy))
    have j6 : Jar (L2.upd H5 F (.lst ((X.map V.int).set c (.int (X.getD c 0 + 1))))) j (n + 1 + 1 + 1 + z + 1) := by
      obtain ⟨x1, x2, x3, y1, y2⟩ := j5
      exact ⟨x1, x2, x3, by rw [upd_ne (fun e => Fj e.symm)]; exact y1, y2⟩
    generalize L2.upd H5 F (.lst ((X.map V.int).set c (.int (X.getD c 0 + 1)))) = H6 at *
    have y1 : ∀ m ∈ X.set c (X.getD c 0 + 1), 0 ≤ m := fun m hm => by
      rcases List.mem_or_eq_of_mem_set hm with z | z
      · exact cx.nn m z
      · have := cx.nn _ (getD_in hc)
        omega
    have y2 : (X.set c (X.getD c 0 + 1)).sum = X.sum + 1 := by rw [sum_set _ _ _ hc]; omega
    have y3 : (X.set c (X.getD c 0 + 1)).length = k := by rw [List.length_set]; exact lx
    generalize X.set c (X.getD c 0 + 1) = Y at *
    refine ⟨.ref j, rfl, .int k, rfl, j, k, _, rfl, j6, by omega, by omega, small8000 (Int.lt_of_le_of_lt (show (k : Int) ≤ 8 by omega) (by decide +kernel)), fun e7 H7 b7 f7 j7 v0 v1 => ?_⟩
    obtain ⟨c2, rfl⟩ := Int.eq_ofNat_of_zero_le v0
    have hc2 : c2 < Y.length := by omega
    have hF7 : LI H7 F Y := b7 _ _ Fj e6
    have b67 := b6.trans b7
    have f67 : ∀ y, H7 y = none → H y = none := fun y hy => f6 y (f7 y hy)
    have last : ∀ (Z : List Int) (H8 : Hp), But j H H8 → (∀ y, H8 y = none → H y = none) → Jar H8 j (n + 1 + 1 + 1 + z + 1 + 1) → LI H8 F Z → (∀ m ∈ Z, 0 ≤ m) → 0 < Z.sum → Z.sum ≤ 1000000000001 → Z.length = k → tRet (tCall sp_without_divisor [] E0 (tCons (tVar 5) tNil)) { nx := fun _ H' => Q .non H', rt := Q } [some (.ref j), some (.int k), some (.ref t), some (.int d), some (.ref x), some (.ref F), some (.int (c : Nat)), some (.int (c2 : Nat))] H8 := fun Z H8 b8 f8 j8 hF8 z1 z2 z3 z4 => by
      have hA : Amt Z := ⟨z1, z2⟩
      have p9 : (1000000000001 : Int) < 2 ^ 8000 := by decide +kernel
      refine ⟨.ref F, rfl, F, Z, rfl, hF8, hA, by omega, gcd_lt hA (Int.lt_of_le_of_lt z3 p9), fun p9 H9 s9 np9 lp9 => ?_⟩
      have hle := plain_sum_le hA
      exact q p9 _ H9 (b8.trans (But.of s9)) (fun y hy => f8 y (s9.free hy)) (f8 p9 np9) ((j8.keep s9).le (by omega)) lp9 (plain_con hA (by omega) (by omega)) (by omega)
    refine ⟨.ref F, rfl, .int (c2 : Nat), rfl, F, _, c2, .int (Y.getD c2 0), rfl, rfl, SqL.of hF7, at_int hc2, Y.getD c2 0, 1, rfl, rfl, _, rfl, ?_⟩
    by_cases h9 : Y.getD c2 0 > 1
    · rw [decide_eq_true h9]
      refine iteT ⟨.ref F, rfl, .int (c2 : Nat), rfl, F, _, c2, .int (Y.getD c2 0), rfl, rfl, SqL.of hF7, at_int hc2, Y.getD c2 0, 1, rfl, rfl, .ref F, rfl, .int (c2 : Nat), rfl, F, _, c2, c2, rfl, rfl, hF7, ixN_of (by rw [List.length_map]; exact hc2), ?_⟩
      refine last (Y.set c2 (Y.getD c2 0 - 1)) _ (fun y o hy ho => ?_) (fun y hy => f67 y (upd_none y hy)) ?_ (by show L2.upd _ _ _ _ = _; rw [upd_same, List.map_set]) (fun m hm => ?_) ?_ ?_ (by rw [List.length_set]; exact y3)
      · rw [upd_ne (ne_of_none ho nF0)]
        exact b67 y o hy ho
      · obtain ⟨x1, x2, x3, w1, w2⟩ := j7
        exact ⟨x1, x2, x3, by rw [upd_ne (fun e => Fj e.symm)]; exact w1, w2⟩
      · rcases List.mem_or_eq_of_mem_set hm with z | z
        · exact y1 m z
        · omega
      · rw [sum_set _ _ _ hc2]; omega
      · rw [sum_set _ _ _ hc2]; omega
    · rw [decide_eq_false h9]
      exact iteF (last Y H7 b67 f67 j7 hF7 y1 (by omega) (by omega) y3)

end
end K09
end

section
set_option Elab.async false
set_option linter.all false
set_option maxRecDepth 100000
set_option maxHeartbeats 4000000
namespace K09
open PySem PySem.Spec PyProof.Rows L2 GxR Gx Ma Mc
section
variable {P : Program} {w : World} {K : PySem.W.Frag} {mg : Str → Option Value} {base : Heap}

def sp_law (K : PySem.W.Frag) (Tc Tr : Addr) : Sp := fun vs H Q _ => ∃ (s : Addr) (ns : List Int), vs = [V.ref s] ∧ SqL K H s (ns.map V.int) ∧ ns.length ≤ 63 ∧ H Tc = some (TabO Tc) ∧ H Tr = some (TabO Tr) ∧ ∀ H', H' Tc = some (TabO Tc) → H' Tr = some (TabO Tr) → Q (.bl true) H'
theorem ctn1_take (ns : List Int) (a b : Int) (cs : List Nat) : ∀ i, i ≤ cs.length → ctn1 ns a b cs i = (cs.take i).foldl (fun x c => step x a b c) ns
  | 0, _ => rfl
  | i + 1, h => by
    have e : ctn1 ns a b cs (i + 1) = step (ctn1 ns a b cs i) a b (cs.getD i 0) := by
      show Ma.step _ _ _ _ = _
      rw [rep_getD (show i < cs.length from h)]
      rfl
    have e2 : cs[i]? = some (cs.getD i 0) := by rw [List.getD_eq_getElem?_getD, List.getElem?_eq_getElem (show i < cs.length from h)]; rfl
    rw [e, ctn1_take ns a b cs i (by omega), List.take_add_one, e2, List.foldl_append]
    rfl
theorem ctn1_fold (ns : List Int) (a b : Int) (cs : List Nat) : ctn1 ns a b cs cs.length = cs.foldl (fun x c => step x a b c) ns := by
  rw [ctn1_take ns a b cs _ (Nat.le_refl _), List.take_length]
/-- one of each -/
def ones (w : Nat) : List Int := List.replicate w 1
theorem le_of_ones : ∀ w : Nat, (ones w).sum = (w : Int)
  | 0 => rfl
  | w + 1 => by
    have := le_of_ones w
    unfold ones at *
    rw [List.replicate_succ, List.sum_cons, this]
    omega
structure Ones (w : Nat) (a : Int) : Prop where
  k : Kep a (w : Int)
  reg : Reg (ones w) a (w : Int)
  und : und (ones w) a (w : Int) = ([], ones w)
  ne : (ones w).sum ≠ 1
theorem ones_of {w : Nat} (h3 : 3 ≤ w) (h8 : w ≤ 8) {a : Int} (ha : a = 1 ∨ a = (w : Int) - 1) : Ones w a := by
  have hw : w = 3 ∨ w = 4 ∨ w = 5 ∨ w = 6 ∨ w = 7 ∨ w = 8 := by omega
  have hl : lastL (ones w) a (w : Int) = none := by
    rcases hw with rfl | rfl | rfl | rfl | rfl | rfl <;> rcases ha with rfl | rfl <;> decide +kernel
  have hc : Con (ones w) := by
    rcases hw with rfl | rfl | rfl | rfl | rfl | rfl <;> exact ⟨by decide, by decide, by decide, by decide +kernel⟩
  have hs : (ones w).sum = (w : Int) := by
    rcases hw with rfl | rfl | rfl | rfl | rfl | rfl <;> decide
  refine ⟨?_, ⟨hc, 0, by rw [hs, Int.pow_succ, Int.pow_zero, Int.one_mul]⟩, und_stop hc (fun c G => absurd (hl.symm.trans G.la) (by simp)), by rw [hs]; omega⟩
  rcases hw with rfl | rfl | rfl | rfl | rfl | rfl <;> rcases ha with rfl | rfl <;> exact ⟨by decide, by decide, by decide, by decide⟩

theorem ok_law {f : Addr} {fd : FuncData}  (F : Fun K "law" "law" s_law f fd) (B : Bl mg) {Tc Tr : Addr} (C_topped_row : Cal P w K mg base 10 "topped_row" ["content", "kept", "row"] (sp_topped_row Tc Tr)) (C_history_of : Cal P w K mg base 8 "history_of" ["content", "kept"] (sp_hist Tc)) (C_stuck_at : Cal P w K mg base 8 "stuck_at" ["content", "kept"] (sp_stuck Tc)) (C__law_jar : Cal P w K mg base 1 "_law_jar" ["script", "k"] (sp_jar K)) (C__law_dip : Cal P w K mg base 1 "_law_dip" ["jar", "many"] sp_dip) (C__law_share : Cal P w K mg base 3 "_law_share" ["jar"] sp_lshare) (C__law_spots : Cal P w K mg base 2 "_law_spots" ["jar", "many", "size"] sp_lspots) (C__law_made : Cal P w K mg base 6 "_law_made" ["jar", "many", "share_here"] sp_lmade) (C__law_right : CalG P w K mg base 9 "_law_right" ["pot", "share_here"] (sp_lright Tc)) : FnG P w K mg base 11 f fd ["script"] (sp_law K Tc Tr) := by
  refine fnG_of F sc_law (fun vs H Q E h => ?_) (fun cdv A outer s H vs Q E hr hgd h => ?_)
  · obtain ⟨s, ns, rfl, _⟩ := h; rfl
  · obtain ⟨s, ns, rfl, hs, hlen, hTc, hTr, q⟩ := h
    have nd := sc_law.nd
    refine ⟨_, (pss_cons (ps_for PassesOwn.never rfl (pi_range1 rfl B.range (pa_cons (pe_callB (call_max2 rfl) (by rfl) B.max (by decide +kernel) (pa_cons pe_int (pa_cons (pe_callB (call_min2 rfl) (by rfl) B.min (by decide +kernel) (pa_cons pe_int (pa_cons (pe_callB call_len_seq (by rfl) B.len PySem.boot_len (pa_cons (pv 0) pa_nil)) pa_nil))) pa_nil))) pa_nil)) (pg_name (i := 1) nd rfl (Or.inl rfl)) (pss_cons (ps_set (i := 2) nd rfl (Or.inl rfl) (pe_cal C__law_jar (hr.mono (by decide)) (pa_cons (pv 0) (pa_cons (pv 1) pa_nil))))
      (pss_one (ps_for PassesOwn.never rfl (pi_range1 rfl B.range (pa_cons pe_int pa_nil)) (pg_name (i := 3) nd rfl (Or.inl rfl)) (pss_cons (ps_set (i := 4) nd rfl (Or.inl rfl) (pe_cal C__law_share (hr.mono (by decide)) (pa_cons (pv 2) pa_nil)))
      (pss_one (ps_if (pt_not (pt_val (pe_calG C__law_right (hr.mono (by decide)) hgd (pa_cons (pe_cal C__law_made (hr.mono (by decide)) (pa_cons (pv 2) (pa_cons (pe_op op_add pe_int (pe_cal C__law_dip (hr.mono (by decide)) (pa_cons (pv 2) (pa_cons pe_int pa_nil)))) (pa_cons (pv 4) pa_nil)))) (pa_cons (pv 4) pa_nil)))))
      (pss_one (ps_ret pe_bl)) pss_nil)))))))
      (pss_cons (ps_set (i := 2) nd rfl (Or.inl rfl) (pe_cal C__law_jar (hr.mono (by decide)) (pa_cons (pv 0) (pa_cons pe_int pa_nil))))
      (pss_cons (ps_for PassesOwn.never rfl (pi_tup (pe_tup (pa_cons pe_int (pa_cons (pe_op op_add pe_int (pe_cal C__law_dip (hr.mono (by decide)) (pa_cons (pv 2) (pa_cons pe_int pa_nil)))) pa_nil)))) (pg_name (i := 5) nd rfl (Or.inl rfl)) (pss_cons (ps_set (i := 4) nd rfl (Or.inl rfl) (pe_ix ix_list (pe_lst (pa_cons (pe_tup (pa_cons pe_int (pa_cons (pv 5) pa_nil))) (pa_cons (pe_tup (pa_cons (pe_op op_sub (pv 5) pe_int) (pa_cons (pv 5) pa_nil))) pa_nil))) (pe_cal C__law_dip (hr.mono (by decide)) (pa_cons (pv 2) (pa_cons pe_int pa_nil))) (fun _ _ => rfl)))
      (pss_cons (ps_par (i := 6) (j := 7) (by rfl) nd rfl rfl (by decide) rfl rfl (pa_cons (pe_cal C__law_spots (hr.mono (by decide)) (pa_cons (pv 2) (pa_cons (pv 5) (pa_cons pe_int pa_nil)))) (pa_cons (pe_cal C__law_spots (hr.mono (by decide)) (pa_cons (pv 2) (pa_cons (pv 5) (pa_cons (pe_op op_add pe_int (pe_cal C__law_dip (hr.mono (by decide)) (pa_cons (pv 2) (pa_cons pe_int pa_nil)))) pa_nil)))) pa_nil)) (by rfl))
      (pss_cons (ps_set (i := 8) nd rfl (Or.inl rfl) (pe_cal C_topped_row (hr.mono (by decide)) (pa_cons (pe_cal C_topped_row (hr.mono (by decide)) (pa_cons (pe_op op_rep (pe_lst (pa_cons pe_int pa_nil)) (pv 5)) (pa_cons (pv 4) (pa_cons (pv 6) pa_nil)))) (pa_cons (pv 4) (pa_cons (pv 7) pa_nil)))))
      (pss_cons (ps_if (pt_cmpR op_notN (pe_cal C_history_of (hr.mono (by decide)) (pa_cons (pv 8) (pa_cons (pv 4) pa_nil))) pe_non (nomark _))
      (pss_one (ps_ret pe_bl)) pss_nil)
      (pss_one (ps_if (pt_cmpR (op_neD hr.units) (pe_cal C_stuck_at (hr.mono (by decide)) (pa_cons (pv 8) (pa_cons (pv 4) pa_nil))) (pe_tup (pa_cons (pe_revL (pe_op op_cat (pv 6) (pv 7))) (pa_cons (pe_op op_rep (pe_lst (pa_cons pe_int pa_nil)) (pv 5)) pa_nil))) (nomark _))
      (pss_one (ps_ret pe_bl)) pss_nil)))))))
      (pss_cons (ps_set (i := 9) nd rfl (Or.inl rfl) (pe_lst (pa_cons (pe_cal C_stuck_at (hr.mono (by decide)) (pa_cons (pe_lst (pa_cons pe_int (pa_cons pe_int (pa_cons pe_int pa_nil)))) (pa_cons (pe_tup (pa_cons pe_int (pa_cons pe_int pa_nil))) pa_nil))) (pa_cons (pe_cal C_stuck_at (hr.mono (by decide)) (pa_cons (pe_lst (pa_cons pe_int (pa_cons pe_int (pa_cons pe_int pa_nil)))) (pa_cons (pe_tup (pa_cons pe_int (pa_cons pe_int pa_nil))) pa_nil))) (pa_cons (pe_cal C_stuck_at (hr.mono (by decide)) (pa_cons (pe_lst (pa_cons pe_int (pa_cons pe_int pa_nil))) (pa_cons (pe_tup (pa_cons pe_int (pa_cons pe_int pa_nil))) pa_nil))) pa_nil)))))
      (pss_cons (ps_expr (pe_bm PySem.F.plainAttrs_list PySem.F.slot_list_append PySem.F.type_list_append mt_append (pv 9) (pa_cons (pe_cal C_stuck_at (hr.mono (by decide)) (pa_cons (pe_lst (pa_cons pe_int (pa_cons pe_int (pa_cons pe_int pa_nil)))) (pa_cons (pe_tup (pa_cons pe_int (pa_cons pe_int pa_nil))) pa_nil))) pa_nil)))
      (pss_one (ps_ret (pe_cmpR op_eq (pe_callB (cr_reprD hr hgd) (by rfl) B.repr (by decide +kernel) (pa_cons (pv 9) pa_nil)) (pe_callB (cr_reprD hr hgd) (by rfl) B.repr (by decide +kernel) (pa_cons (pe_lst (pa_cons (pe_tup (pa_cons (pe_lst (pa_cons pe_int pa_nil)) (pa_cons (pe_lst (pa_cons pe_int (pa_cons pe_int (pa_cons pe_int pa_nil)))) pa_nil))) (pa_cons (pe_tup (pa_cons (pe_lst pa_nil) (pa_cons (pe_lst (pa_cons pe_int (pa_cons pe_int (pa_cons pe_int pa_nil)))) pa_nil))) (pa_cons (pe_tup (pa_cons (pe_lst pa_nil) (pa_cons (pe_lst (pa_cons pe_int (pa_cons pe_int pa_nil))) pa_nil))) (pa_cons pe_non pa_nil))))) pa_nil)) (nomark _))))))))), ?_⟩
    refine ⟨.ref s, rfl, s, _, rfl, .inl hs, 5, _, rfl, 1, _, rfl, ?_⟩
    generalize hN : (if (if ((ns.map V.int).length : Int) < 5 then ((ns.map V.int).length : Int) else 5) > 1 then (if ((ns.map V.int).length : Int) < 5 then ((ns.map V.int).length : Int) else 5) else 1) = N
    have hN5 : N ≤ 5 := by
      rw [← hN]
      split <;> split <;> omega
    have hN1 : 1 ≤ N := by
      rw [← hN]
      split <;> split <;> omega
    refine ⟨N, rfl, by omega, by omega, ?_⟩
    refine for_range (lo := 0) (n := N.toNat) (fun i σ H' => ∃ y1 y2 y3 y4 y5 y6 y7 y8 y9, σ = [some (.ref s), y1, y2, y3, y4, y5, y6, y7, y8, y9] ∧ Same H H') ⟨none, none, none, none, none, none, none, none, none, rfl, sameR H⟩ (fun i σ H' hi ⟨y1, y2, y3, y4, y5, y6, y7, y8, y9, e1, e2⟩ => ?_) (fun σ H' ⟨y1, y2, y3, y4, y5, y6, y7, y8, y9, e1, e2⟩ => ?_)
    · subst e1
      refine ⟨.ref s, rfl, .int (0 + (i : Nat)), rfl, s, ns, i, by rw [Int.zero_add]; rfl, sql_same hs e2, by omega, fun j H1 s1 nj hj => ?_⟩
      have e3 := e2.trans s1
      have nj0 : H j = none := e2.free nj
      refine ⟨5, rfl, by decide, by decide, ?_⟩
      refine for_range (lo := 0) (n := 5) (fun t σ H' => ∃ z3 z4, σ = [some (.ref s), some (.int (0 + (i : Nat))), some (.ref j), z3, z4, y5, y6, y7, y8, y9] ∧ Same H H' ∧ Jar H' j (120 * t)) ⟨_, _, rfl, e3, hj⟩ (fun t σ H2 ht ⟨z3, z4, d1, d2, d3⟩ => ?_) (fun σ H2 ⟨z3, z4, d1, d2, d3⟩ => ⟨_, _, _, _, _, _, _, _, _, d1, d2⟩)
      subst d1
      refine ⟨.ref j, rfl, j, _, rfl, d3, by omega, fun u a b H3 b3 f3 nu j3 hu ku => ?_⟩
      have d4 : Same H H3 := b3.same2 d2 nj0
      refine ⟨.ref j, rfl, .ref j, rfl, j, 8, _, rfl, j3, by omega, by decide, by decide +kernel, fun d H4 b4 f4 j4 x0 x1 => ?_⟩
      obtain ⟨dn, rfl⟩ := Int.eq_ofNat_of_zero_le x0
      have hu4 := b4 _ _ (j3.tupne hu) hu
      have d5 : Same H H4 := b4.same2 d4 nj0
      refine ⟨1, _, rfl, rfl, .ref u, rfl, j, u, _, 1 + dn, a, b, rfl, j4, by omega, by omega, by omega, hu4, ku, fun p ms H5 b5 f5 np j5 lp cp zp => ?_⟩
      have d6 : Same H H5 := b5.same2 d5 nj0
      have hu5 := b5 _ _ (j4.tupne hu4) hu4
      refine ⟨.ref u, rfl, p, u, ms, a, b, rfl, lp, cp, hu5, ku, zp, d6 _ _ hTc, fun H6 s6 => ⟨true, rfl, iteF ?_⟩⟩
      exact ⟨_, _, rfl, d6.trans s6, (j5.keep s6).le (by omega)⟩
    subst e1
    refine ⟨.ref s, rfl, s, ns, 0, rfl, sql_same hs e2, by decide, fun j H1 s1 nj hj => ?_⟩
    have e3 := e2.trans s1
    have nj0 : H j = none := e2.free nj
    refine ⟨.ref j, rfl, j, 5, 0, rfl, hj, by decide, by decide, by decide +kernel, fun dw H2 b2 f2 j2 x0 x1 => ⟨4, dw, rfl, rfl, by show 2 ≤ 16777216; decide, fun tw ntw => ?_⟩⟩
    have e4 : Same H H2 := b2.same2 e3 nj0
    have stw := sameN (o := .tup [.int 3, .int (4 + dw)]) ntw
    have htw : L2.upd H2 tw (.tup [.int 3, .int (4 + dw)]) tw = some (.tup [.int 3, .int (4 + dw)]) := upd_same
    have jtw := j2.keep stw
    have ntw0 : H tw = none := e4.free ntw
    have e5 := e4.trans stw
    generalize L2.upd H2 tw (.tup [.int 3, .int (4 + dw)]) = Hw at *
    refine ⟨tw, rfl, ⟨_, SqT.of htw⟩, ?_⟩
    refine for_tup (xs := [.int 3, .int (4 + dw)]) (fun i σ H' => ∃ z4 z5 z6 z7 z8, σ = [some (.ref s), y1, some (.ref j), y3, z4, z5, z6, z7, z8, y9] ∧ Same H H' ∧ Jar H' j (1 + 200 * i) ∧ H' tw = some (.tup [.int 3, .int (4 + dw)])) ⟨_, _, _, _, _, rfl, e5, jtw, htw⟩ (fun i σ H' _ ⟨_, _, _, _, _, _, _, _, q4⟩ => SqT.of q4) (fun i x σ H' hx ⟨z4, z5, z6, z7, z8, q1, q2, q3, q4⟩ => ?_) (fun σ H' ⟨z4, z5, z6, z7, z8, q1, q2, q3, q4⟩ => ?_)
    · subst q1
      have hi2 : i < 2 := (List.getElem?_eq_some_iff.mp hx).1
      obtain ⟨ww, hww, w3, w8⟩ : ∃ ww : Nat, x = .int (ww : Nat) ∧ 3 ≤ ww ∧ ww ≤ 8 := by
        match i, hi2 with
        | 0, _ => cases hx; exact ⟨3, rfl, by decide, by decide⟩
        | 1, _ =>
          cases hx
          obtain ⟨dn, rfl⟩ := Int.eq_ofNat_of_zero_le x0
          exact ⟨4 + dn, rfl, by omega, by omega⟩
      subst hww
      have ntwj : tw ≠ j := j2.ne ntw
      refine ⟨.int (ww : Nat), rfl, by show 2 ≤ 16777216; decide, fun a1 na1 => ⟨.int (ww : Nat), rfl, ww, 1, rfl, rfl, .int (ww : Nat), rfl, by show 2 ≤ 16777216; decide, fun a2 na2 => ⟨by show 2 ≤ 16777216; decide, fun a3 na3 => ?_⟩⟩⟩
      have r1 := sameN (o := .tup [.int 1, .int (ww : Nat)]) na1
      have v1 : L2.upd H' a1 (.tup [.int 1, .int (ww : Nat)]) a1 = some (.tup [.int 1, .int (ww : Nat)]) := upd_same
      generalize L2.upd H' a1 (.tup [.int 1, .int (ww : Nat)]) = Ha at *
      have r2 := sameN (o := .tup [.int ((ww : Int) - 1), .int (ww : Nat)]) na2
      have v2 : L2.upd Ha a2 (.tup [.int ((ww : Int) - 1), .int (ww : Nat)]) a2 = some (.tup [.int ((ww : Int) - 1), .int (ww : Nat)]) := upd_same
      generalize L2.upd Ha a2 (.tup [.int ((ww : Int) - 1), .int (ww : Nat)]) = Hb at *
      have r3 := sameN (o := .lst [.ref a1, .ref a2]) na3
      have v3 : L2.upd Hb a3 (.lst [.ref a1, .ref a2]) a3 = some (.lst [.ref a1, .ref a2]) := upd_same
      generalize L2.upd Hb a3 (.lst [.ref a1, .ref a2]) = Hc at *
      have ra := (r1.trans r2).trans r3
      have qa := q2.trans ra
      have ja := q3.keep ra
      have na3j : a3 ≠ j := (q3.keep (r1.trans r2)).ne na3
      have va1 := r3 _ _ (r2 _ _ v1)
      have va2 := r3 _ _ v2
      refine ⟨.ref j, rfl, j, 2, _, rfl, ja, by omega, by decide, by decide +kernel, fun d H3 b3 f3 j3 u0 u1 => ?_⟩
      obtain ⟨t, a, ht, hat, ha⟩ : ∃ (t : Addr) (a : Int), atI [V.ref a1, V.ref a2] d = some (.ref t) ∧ H3 t = some (.tup [.int a, .int (ww : Nat)]) ∧ (a = 1 ∨ a = (ww : Int) - 1) := by
        have hd : d = 0 ∨ d = 1 := by omega
        rcases hd with rfl | rfl
        · exact ⟨a1, 1, rfl, b3 _ _ (ja.tupne va1) va1, .inl rfl⟩
        · exact ⟨a2, _, rfl, b3 _ _ (ja.tupne va2) va2, .inr rfl⟩
      refine ⟨a3, _, d, _, rfl, rfl, SqL.of (b3 _ _ na3j v3), ht, ?_⟩
      have OK := ones_of w3 w8 ha
      have qb : Same H H3 := b3.same2 qa nj0
      have qtw := b3 _ _ ntwj (ra _ _ q4)
      refine ⟨.ref j, rfl, .int (ww : Nat), rfl, j, _, ww, 60, rfl, j3, by omega, by omega, w8, by decide, fun o1 c1 H4 b4 f4 no1 j4 eo1 lo1 co1 => ?_⟩
      refine ⟨.ref j, rfl, .int (ww : Nat), rfl, .ref j, rfl, j, 60, _, rfl, j4, by omega, by decide, by decide +kernel, fun d2 H5 b5 f5 j5 g0 g1 => ?_⟩
      obtain ⟨dm, rfl⟩ := Int.eq_ofNat_of_zero_le g0
      refine ⟨1, _, rfl, rfl, j, _, ww, 1 + dm, rfl, j5, by omega, by omega, w8, by omega, fun o2 c2 H6 b6 f6 no2 j6 eo2 lo2 co2 => ?_⟩
      have no1j : o1 ≠ j := j3.ne no1
      have ht4 := b4 _ _ (j3.tupne hat) hat
      have ht5 := b5 _ _ (j4.tupne ht4) ht4
      have ht6 := b6 _ _ (j5.tupne ht5) ht5
      have eo16 : LI H6 o1 (rowI c1) := b6 _ _ no1j (b5 _ _ no1j eo1)
      have qc : Same H H6 := b6.same2 (b5.same2 (b4.same2 qb nj0) nj0) nj0
      have qtw6 := b6 _ _ ntwj (b5 _ _ ntwj (b4 _ _ ntwj qtw))
      refine ⟨.ref o1, .ref o2, rfl, ?_⟩
      refine ⟨by show 1 ≤ 16777216; decide, fun a4 na4 => ?_⟩
      have r4 := sameN (o := .lst [.int 1]) na4
      have v4 : L2.upd H6 a4 (.lst [.int 1]) a4 = some (.lst [.int 1]) := upd_same
      generalize L2.upd H6 a4 (.lst [.int 1]) = Hd at *
      refine ⟨.int (ww : Nat), rfl, a4, ww, _, rfl, rfl, v4, by omega, by omega, ?_, fun a5 na5 => ?_⟩
      · rw [Int.toNat_natCast]
        show 1 * ww ≤ 16777216
        omega
      rw [Int.toNat_natCast, rep_flat, show List.replicate ww (V.int 1) = (ones ww).map V.int by unfold ones; rw [List.map_replicate]]
      have r5 := sameN (o := .lst ((ones ww).map V.int)) na5
      have v5 : LI (L2.upd Hd a5 (.lst ((ones ww).map V.int))) a5 (ones ww) := upd_same
      generalize L2.upd Hd a5 (.lst ((ones ww).map V.int)) = He at *
      have r45 := r4.trans r5
      have qd := qc.trans r45
      have hc1 := OK.reg.con
      have l1 : (ones ww).length = ww := List.length_replicate
      have hR1 : Row1 (ones ww) a (ww : Int) c1 := ⟨hc1, by omega, OK.k, fun c h => by rw [l1]; exact co1 c h⟩
      have z1 : (ones ww).sum < 2 ^ 10 := by
        obtain ⟨m, hm⟩ := OK.reg.ex
        have := le_of_ones ww
        omega
      refine ⟨.ref t, rfl, .ref o1, rfl, a5, t, o1, ones ww, a, (ww : Int), c1, rfl, v5, r45 _ _ ht6, r45 _ _ eo16, hR1, Int.lt_of_lt_of_le z1 (two_le (by decide)), qd _ _ hTc, qd _ _ hTr, fun p1 H7 s7 np1 lp1 => ?_⟩
      have qe := qd.trans s7
      have l2 : (ctn1 (ones ww) a (ww : Int) c1 c1.length).length = ww := by rw [ctn1_len, l1]
      have hc2 : Con (ctn1 (ones ww) a (ww : Int) c1 c1.length) := ctn_con hR1.y _ (Nat.le_refl _)
      have hR2 : Row1 (ctn1 (ones ww) a (ww : Int) c1 c1.length) a (ww : Int) c2 := ⟨hc2, by omega, OK.k, fun c h => by rw [l2]; exact co2 c h⟩
      have z2 := ctn_small hR1.y c1.length (Nat.le_refl _) z1
      refine ⟨.ref t, rfl, .ref o2, rfl, p1, t, o2, _, a, (ww : Int), c2, rfl, lp1, s7 _ _ (r45 _ _ ht6), s7 _ _ (r45 _ _ eo2), hR2, Int.lt_of_lt_of_le z2 (two_le (by decide)), qe _ _ hTc, qe _ _ hTr, fun p2 H8 s8 np2 lp2 => ?_⟩
      have z3 := ctn_small hR2.y c2.length (Nat.le_refl _) z2
      have hc3 : Con (ctn1 (ctn1 (ones ww) a (ww : Int) c1 c1.length) a (ww : Int) c2 c2.length) := ctn_con hR2.y _ (Nat.le_refl _)
      have eX : ctn1 (ctn1 (ones ww) a (ww : Int) c1 c1.length) a (ww : Int) c2 c2.length = (c1 ++ c2).foldl (fun x c => step x a (ww : Int) c) (ones ww) := by rw [ctn1_fold, ctn1_fold, List.foldl_append]
      have hU := (Reg.walk OK.k (c1 ++ c2) OK.reg (fun c hc => by rw [l1]; exact (List.mem_append.mp hc).elim (co1 c) (co2 c))).1
      rw [← eX, OK.und, List.append_nil] at hU
      have z4 : (ctn1 (ctn1 (ones ww) a (ww : Int) c1 c1.length) a (ww : Int) c2 c2.length).sum < 2 ^ 7000 := Int.lt_of_lt_of_le z3 (two_le (by decide))
      generalize ctn1 (ctn1 (ones ww) a (ww : Int) c1 c1.length) a (ww : Int) c2 c2.length = X at *
      have qf := qe.trans s8
      have s78 := s7.trans s8
      have ht8 := s78 _ _ (r45 _ _ ht6)
      refine ⟨.ref p2, rfl, .ref t, rfl, p2, t, X, a, (ww : Int), rfl, lp2, hc3, ht8, OK.k, z4, qf _ _ hTc, fun h r e => (absurd (shorts_none (a := a) (b := (ww : Int)) (ns := X) (by rw [hU]; exact OK.ne)) (by rw [e]; simp)), fun _ H9 s9 => ?_⟩
      have qg := qf.trans s9
      refine ⟨rfl, _, rfl, ?_⟩
      rw [non_non]
      refine iteF ⟨.ref p2, rfl, .ref t, rfl, p2, t, X, a, (ww : Int), rfl, s9 _ _ lp2, hc3, s9 _ _ ht8, OK.k, z4, qg _ _ hTc, fun e => absurd e (by rw [hU]; exact OK.ne), fun _ tp tu tv HA sA ntp ntu ntv nuv htp htu htv => ?_⟩
      rw [hU] at htu htv
      have qh := qg.trans sA
      have sall := (s78.trans s9).trans sA
      have h1A := sall _ _ (r45 _ _ eo16)
      have h2A := sall _ _ (r45 _ _ eo2)
      refine ⟨.ref o1, rfl, .ref o2, rfl, o1, o2, _, _, rfl, rfl, h1A, h2A, ?_, fun a6 na6 => ?_⟩
      · rw [List.length_map, List.length_map, rowI_len, rowI_len]
        show _ ≤ 16777216
        omega
      rw [show (rowI c1).map V.int ++ (rowI c2).map V.int = (rowI (c1 ++ c2)).map V.int by unfold rowI; rw [List.map_append, List.map_append]]
      have r6 := sameN (o := .lst ((rowI (c1 ++ c2)).map V.int)) na6
      have v6 : L2.upd HA a6 (.lst ((rowI (c1 ++ c2)).map V.int)) a6 = some (.lst ((rowI (c1 ++ c2)).map V.int)) := upd_same
      generalize L2.upd HA a6 (.lst ((rowI (c1 ++ c2)).map V.int)) = HB at *
      refine ⟨a6, _, rfl, SqL.of v6, fun a7 na7 => ?_⟩
      rw [rowI_rev]
      have r7 := sameN (o := .lst ((rowI (c1 ++ c2).reverse).map V.int)) na7
      have v7 : LI (L2.upd HB a7 (.lst ((rowI (c1 ++ c2).reverse).map V.int))) a7 (rowI (c1 ++ c2).reverse) := upd_same
      generalize L2.upd HB a7 (.lst ((rowI (c1 ++ c2).reverse).map V.int)) = HC at *
      refine ⟨by show 1 ≤ 16777216; decide, fun a8 na8 => ?_⟩
      have r8 := sameN (o := .lst [.int 1]) na8
      have v8 : L2.upd HC a8 (.lst [.int 1]) a8 = some (.lst [.int 1]) := upd_same
      generalize L2.upd HC a8 (.lst [.int 1]) = HD at *
      refine ⟨.int (ww : Nat), rfl, a8, ww, _, rfl, rfl, v8, by omega, by omega, ?_, fun a9 na9 => ?_⟩
      · rw [Int.toNat_natCast]
        show 1 * ww ≤ 16777216
        omega
      rw [Int.toNat_natCast, rep_flat, show List.replicate ww (V.int 1) = (ones ww).map V.int by unfold ones; rw [List.map_replicate]]
      have r9 := sameN (o := .lst ((ones ww).map V.int)) na9
      have v9 : LI (L2.upd HD a9 (.lst ((ones ww).map V.int))) a9 (ones ww) := upd_same
      generalize L2.upd HD a9 (.lst ((ones ww).map V.int)) = HE at *
      refine ⟨by show 2 ≤ 16777216; decide, fun aa naa => ?_⟩
      have rb := sameN (o := .tup [.ref a7, .ref a9]) naa
      have r89 := r8.trans r9
      have rz := ((r6.trans r7).trans r89).trans rb
      refine ⟨_, _, dp_duo (rz _ _ htp) (rz _ _ htu) (rz _ _ htv), dp_duo upd_same (rb _ _ (r89 _ _ v7)) (rb _ _ v9), shaped_duo _ _, shaped_duo _ _, _, rfl, ?_⟩
      rw [eqv_duo]
      refine iteF ⟨_, _, _, _, _, rfl, qh.trans rz, ?_, ?_⟩
      · exact (((((j6.keep r45).keep s78).keep s9).keep sA).keep rz).le (by omega)
      · exact rz _ _ (sA _ _ (s9 _ _ (s78 _ _ (r45 _ _ qtw6))))
    subst q1
    have e2 := q2
    refine ⟨by show 3 ≤ 16777216; decide, fun l0 n_l0 => ?_⟩
    have s_l0 := sameN (o := .lst [.int 5, .int 2, .int 2]) n_l0
    have h_l0 : L2.upd H' l0 (.lst [.int 5, .int 2, .int 2]) l0 = some (.lst [.int 5, .int 2, .int 2]) := upd_same
    have m_l0 := n_l0
    generalize L2.upd H' l0 (.lst [.int 5, .int 2, .int 2]) = W_l0 at *
    have e2_1 : Same H W_l0 := e2.trans s_l0
    refine ⟨by show 2 ≤ 16777216; decide, fun t0 n_t0 => ?_⟩
    have s_t0 := sameN (o := .tup [.int 2, .int 3]) n_t0
    have h_t0 : L2.upd W_l0 t0 (.tup [.int 2, .int 3]) t0 = some (.tup [.int 2, .int 3]) := upd_same
    have m_t0 := n_t0
    generalize L2.upd W_l0 t0 (.tup [.int 2, .int 3]) = W_t0 at *
    have e2_2 : Same H W_t0 := e2_1.trans s_t0
    have u0 : und [(5 : Int), (2 : Int), (2 : Int)] 2 3 = ([0], [1, 1, 1]) := by decide +kernel
    refine ⟨l0, t0, [(5 : Int), (2 : Int), (2 : Int)], 2, 3, rfl, (s_t0 _ _ h_l0), ⟨by decide, by decide, by decide, by decide +kernel⟩, h_t0, ⟨by decide, by decide, by decide, by decide⟩, by decide +kernel, e2_2 _ _ hTc, fun e => absurd e (by rw [u0]; decide), fun _ p0 x0 y0 V0 v0 np0 nx0 ny0 nxy0 hp0 hx0 hy0 => ?_⟩
    rw [u0] at hx0 hy0
    have e2_3 : Same H V0 := e2_2.trans v0
    refine ⟨by show 3 ≤ 16777216; decide, fun l1 n_l1 => ?_⟩
    have s_l1 := sameN (o := .lst [.int 1, .int 1, .int 0]) n_l1
    have h_l1 : L2.upd V0 l1 (.lst [.int 1, .int 1, .int 0]) l1 = some (.lst [.int 1, .int 1, .int 0]) := upd_same
    have m_l1 := n_l1
    generalize L2.upd V0 l1 (.lst [.int 1, .int 1, .int 0]) = W_l1 at *
    have e2_4 : Same H W_l1 := e2_3.trans s_l1
    refine ⟨by show 2 ≤ 16777216; decide, fun t1 n_t1 => ?_⟩
    have s_t1 := sameN (o := .tup [.int 2, .int 3]) n_t1
    have h_t1 : L2.upd W_l1 t1 (.tup [.int 2, .int 3]) t1 = some (.tup [.int 2, .int 3]) := upd_same
    have m_t1 := n_t1
    generalize L2.upd W_l1 t1 (.tup [.int 2, .int 3]) = W_t1 at *
    have e2_5 : Same H W_t1 := e2_4.trans s_t1
    have u1 : und [(1 : Int), (1 : Int), (0 : Int)] 2 3 = ([], [1, 1, 0]) := by decide +kernel
    refine ⟨l1, t1, [(1 : Int), (1 : Int), (0 : Int)], 2, 3, rfl, (s_t1 _ _ h_l1), ⟨by decide, by decide, by decide, by decide +kernel⟩, h_t1, ⟨by decide, by decide, by decide, by decide⟩, by decide +kernel, e2_5 _ _ hTc, fun e => absurd e (by rw [u1]; decide), fun _ p1 x1 y1 V1 v1 np1 nx1 ny1 nxy1 hp1 hx1 hy1 => ?_⟩
    rw [u1] at hx1 hy1
    have e2_6 : Same H V1 := e2_5.trans v1
    refine ⟨by show 2 ≤ 16777216; decide, fun l2 n_l2 => ?_⟩
    have s_l2 := sameN (o := .lst [.int 1, .int 4]) n_l2
    have h_l2 : L2.upd V1 l2 (.lst [.int 1, .int 4]) l2 = some (.lst [.int 1, .int 4]) := upd_same
    have m_l2 := n_l2
    generalize L2.upd V1 l2 (.lst [.int 1, .int 4]) = W_l2 at *
    have e2_7 : Same H W_l2 := e2_6.trans s_l2
    refine ⟨by show 2 ≤ 16777216; decide, fun t2 n_t2 => ?_⟩
    have s_t2 := sameN (o := .tup [.int 2, .int 5]) n_t2
    have h_t2 : L2.upd W_l2 t2 (.tup [.int 2, .int 5]) t2 = some (.tup [.int 2, .int 5]) := upd_same
    have m_t2 := n_t2
    generalize L2.upd W_l2 t2 (.tup [.int 2, .int 5]) = W_t2 at *
    have e2_8 : Same H W_t2 := e2_7.trans s_t2
    have u2 : und [(1 : Int), (4 : Int)] 2 5 = ([], [1, 4]) := by decide +kernel
    refine ⟨l2, t2, [(1 : Int), (4 : Int)], 2, 5, rfl, (s_t2 _ _ h_l2), ⟨by decide, by decide, by decide, by decide +kernel⟩, h_t2, ⟨by decide, by decide, by decide, by decide⟩, by decide +kernel, e2_8 _ _ hTc, fun e => absurd e (by rw [u2]; decide), fun _ p2 x2 y2 V2 v2 np2 nx2 ny2 nxy2 hp2 hx2 hy2 => ?_⟩
    rw [u2] at hx2 hy2
    have e2_9 : Same H V2 := e2_8.trans v2
    refine ⟨by show 3 ≤ 16777216; decide, fun tl n_tl => ?_⟩
    have s_tl := sameN (o := .lst [.ref p0, .ref p1, .ref p2]) n_tl
    have h_tl : L2.upd V2 tl (.lst [.ref p0, .ref p1, .ref p2]) tl = some (.lst [.ref p0, .ref p1, .ref p2]) := upd_same
    have m_tl := n_tl
    generalize L2.upd V2 tl (.lst [.ref p0, .ref p1, .ref p2]) = W_tl at *
    have e2_10 : Same H W_tl := e2_9.trans s_tl
    refine ⟨.ref tl, rfl, .inl ⟨rfl, _, SqL.of h_tl⟩, ?_⟩
    refine ⟨by show 3 ≤ 16777216; decide, fun l3 n_l3 => ?_⟩
    have s_l3 := sameN (o := .lst [.int 17, .int 4, .int 6]) n_l3
    have h_l3 : L2.upd W_tl l3 (.lst [.int 17, .int 4, .int 6]) l3 = some (.lst [.int 17, .int 4, .int 6]) := upd_same
    have m_l3 := n_l3
    generalize L2.upd W_tl l3 (.lst [.int 17, .int 4, .int 6]) = W_l3 at *
    have e2_11 : Same H W_l3 := e2_10.trans s_l3
    refine ⟨by show 2 ≤ 16777216; decide, fun t3 n_t3 => ?_⟩
    have s_t3 := sameN (o := .tup [.int 2, .int 3]) n_t3
    have h_t3 : L2.upd W_l3 t3 (.tup [.int 2, .int 3]) t3 = some (.tup [.int 2, .int 3]) := upd_same
    have m_t3 := n_t3
    generalize L2.upd W_l3 t3 (.tup [.int 2, .int 3]) = W_t3 at *
    have e2_12 : Same H W_t3 := e2_11.trans s_t3
    have u3 : (und [(17 : Int), 4, 6] 2 3).2.sum = 1 := by decide +kernel
    refine ⟨l3, t3, [(17 : Int), 4, 6], 2, 3, rfl, (s_t3 _ _ h_l3), ⟨by decide, by decide, by decide, by decide +kernel⟩, h_t3, ⟨by decide, by decide, by decide, by decide⟩, by decide +kernel, e2_12 _ _ hTc, fun _ V3 v3 => ?_, fun e => absurd u3 e⟩
    have e2_13 : Same H V3 := e2_12.trans v3
    refine ⟨tl, _, _, rfl, rfl, (v3 _ _ (s_t3 _ _ (s_l3 _ _ h_tl))), by show 3 < 16777216; decide, ?_⟩
    have f_tl : H tl = none := e2_9.free m_tl
    have q_t : Same H (L2.upd V3 tl (.lst ([.ref p0, .ref p1, .ref p2] ++ [.non]))) := app_new e2_13 f_tl
    have k_p0 : L2.upd V3 tl (.lst ([.ref p0, .ref p1, .ref p2] ++ [.non])) p0 = _ := (upd_ne (ne_of_none (v2 _ _ (s_t2 _ _ (s_l2 _ _ (v1 _ _ (s_t1 _ _ (s_l1 _ _ hp0)))))) m_tl)).trans (v3 _ _ (s_t3 _ _ (s_l3 _ _ (s_tl _ _ (v2 _ _ (s_t2 _ _ (s_l2 _ _ (v1 _ _ (s_t1 _ _ (s_l1 _ _ hp0))))))))))
    have k_x0 : L2.upd V3 tl (.lst ([.ref p0, .ref p1, .ref p2] ++ [.non])) x0 = _ := (upd_ne (ne_of_none (v2 _ _ (s_t2 _ _ (s_l2 _ _ (v1 _ _ (s_t1 _ _ (s_l1 _ _ hx0)))))) m_tl)).trans (v3 _ _ (s_t3 _ _ (s_l3 _ _ (s_tl _ _ (v2 _ _ (s_t2 _ _ (s_l2 _ _ (v1 _ _ (s_t1 _ _ (s_l1 _ _ hx0))))))))))
    have k_y0 : L2.upd V3 tl (.lst ([.ref p0, .ref p1, .ref p2] ++ [.non])) y0 = _ := (upd_ne (ne_of_none (v2 _ _ (s_t2 _ _ (s_l2 _ _ (v1 _ _ (s_t1 _ _ (s_l1 _ _ hy0)))))) m_tl)).trans (v3 _ _ (s_t3 _ _ (s_l3 _ _ (s_tl _ _ (v2 _ _ (s_t2 _ _ (s_l2 _ _ (v1 _ _ (s_t1 _ _ (s_l1 _ _ hy0))))))))))
    have k_p1 : L2.upd V3 tl (.lst ([.ref p0, .ref p1, .ref p2] ++ [.non])) p1 = _ := (upd_ne (ne_of_none (v2 _ _ (s_t2 _ _ (s_l2 _ _ hp1))) m_tl)).trans (v3 _ _ (s_t3 _ _ (s_l3 _ _ (s_tl _ _ (v2 _ _ (s_t2 _ _ (s_l2 _ _ hp1)))))))
    have k_x1 : L2.upd V3 tl (.lst ([.ref p0, .ref p1, .ref p2] ++ [.non])) x1 = _ := (upd_ne (ne_of_none (v2 _ _ (s_t2 _ _ (s_l2 _ _ hx1))) m_tl)).trans (v3 _ _ (s_t3 _ _ (s_l3 _ _ (s_tl _ _ (v2 _ _ (s_t2 _ _ (s_l2 _ _ hx1)))))))
    have k_y1 : L2.upd V3 tl (.lst ([.ref p0, .ref p1, .ref p2] ++ [.non])) y1 = _ := (upd_ne (ne_of_none (v2 _ _ (s_t2 _ _ (s_l2 _ _ hy1))) m_tl)).trans (v3 _ _ (s_t3 _ _ (s_l3 _ _ (s_tl _ _ (v2 _ _ (s_t2 _ _ (s_l2 _ _ hy1)))))))
    have k_p2 : L2.upd V3 tl (.lst ([.ref p0, .ref p1, .ref p2] ++ [.non])) p2 = _ := (upd_ne (ne_of_none hp2 m_tl)).trans (v3 _ _ (s_t3 _ _ (s_l3 _ _ (s_tl _ _ hp2))))
    have k_x2 : L2.upd V3 tl (.lst ([.ref p0, .ref p1, .ref p2] ++ [.non])) x2 = _ := (upd_ne (ne_of_none hx2 m_tl)).trans (v3 _ _ (s_t3 _ _ (s_l3 _ _ (s_tl _ _ hx2))))
    have k_y2 : L2.upd V3 tl (.lst ([.ref p0, .ref p1, .ref p2] ++ [.non])) y2 = _ := (upd_ne (ne_of_none hy2 m_tl)).trans (v3 _ _ (s_t3 _ _ (s_l3 _ _ (s_tl _ _ hy2))))
    have k_tl : L2.upd V3 tl (.lst ([.ref p0, .ref p1, .ref p2] ++ [.non])) tl = some (.lst [.ref p0, .ref p1, .ref p2, .non]) := upd_same
    generalize L2.upd V3 tl (.lst ([.ref p0, .ref p1, .ref p2] ++ [.non])) = Wt at *
    have shT : Shows (.list [duoD [0] [1, 1, 1], duoD [] [1, 1, 0], duoD [] [1, 4], .none]) := ⟨⟨4, by simp [shP, shAll, duoD, rowI], by decide, by decide, by decide⟩, by decide⟩
    refine ⟨.ref tl, rfl, _, .list [duoD [0] [1, 1, 1], duoD [] [1, 1, 0], duoD [] [1, 4], .none], rfl, .lst (SqL.of k_tl) (.cons (dp_duo (L := [1, 1, 1]) (U := [0]) k_p0 k_x0 k_y0) (.cons (dp_duo (L := [1, 1, 0]) (U := []) k_p1 k_x1 k_y1) (.cons (dp_duo (L := [1, 4]) (U := []) k_p2 k_x2 k_y2) (.cons .non .nil)))), shT, ?_⟩
    refine ⟨by show 1 ≤ 16777216; decide, fun du0 n_du0 => ?_⟩
    have s_du0 := sameN (o := .lst [.int 0]) n_du0
    have h_du0 : L2.upd Wt du0 (.lst [.int 0]) du0 = some (.lst [.int 0]) := upd_same
    have m_du0 := n_du0
    generalize L2.upd Wt du0 (.lst [.int 0]) = W_du0 at *
    have q_51 : Same H W_du0 := q_t.trans s_du0
    refine ⟨by show 3 ≤ 16777216; decide, fun dl0 n_dl0 => ?_⟩
    have s_dl0 := sameN (o := .lst [.int 1, .int 1, .int 1]) n_dl0
    have h_dl0 : L2.upd W_du0 dl0 (.lst [.int 1, .int 1, .int 1]) dl0 = some (.lst [.int 1, .int 1, .int 1]) := upd_same
    have m_dl0 := n_dl0
    generalize L2.upd W_du0 dl0 (.lst [.int 1, .int 1, .int 1]) = W_dl0 at *
    have q_52 : Same H W_dl0 := q_51.trans s_dl0
    refine ⟨by show 2 ≤ 16777216; decide, fun dt0 n_dt0 => ?_⟩
    have s_dt0 := sameN (o := .tup [.ref du0, .ref dl0]) n_dt0
    have h_dt0 : L2.upd W_dl0 dt0 (.tup [.ref du0, .ref dl0]) dt0 = some (.tup [.ref du0, .ref dl0]) := upd_same
    have m_dt0 := n_dt0
    generalize L2.upd W_dl0 dt0 (.tup [.ref du0, .ref dl0]) = W_dt0 at *
    have q_53 : Same H W_dt0 := q_52.trans s_dt0
    refine ⟨by show 0 ≤ 16777216; decide, fun du1 n_du1 => ?_⟩
    have s_du1 := sameN (o := .lst []) n_du1
    have h_du1 : L2.upd W_dt0 du1 (.lst []) du1 = some (.lst []) := upd_same
    have m_du1 := n_du1
    generalize L2.upd W_dt0 du1 (.lst []) = W_du1 at *
    have q_54 : Same H W_du1 := q_53.trans s_du1
    refine ⟨by show 3 ≤ 16777216; decide, fun dl1 n_dl1 => ?_⟩
    have s_dl1 := sameN (o := .lst [.int 1, .int 1, .int 0]) n_dl1
    have h_dl1 : L2.upd W_du1 dl1 (.lst [.int 1, .int 1, .int 0]) dl1 = some (.lst [.int 1, .int 1, .int 0]) := upd_same
    have m_dl1 := n_dl1
    generalize L2.upd W_du1 dl1 (.lst [.int 1, .int 1, .int 0]) = W_dl1 at *
    have q_55 : Same H W_dl1 := q_54.trans s_dl1
    refine ⟨by show 2 ≤ 16777216; decide, fun dt1 n_dt1 => ?_⟩
    have s_dt1 := sameN (o := .tup [.ref du1, .ref dl1]) n_dt1
    have h_dt1 : L2.upd W_dl1 dt1 (.tup [.ref du1, .ref dl1]) dt1 = some (.tup [.ref du1, .ref dl1]) := upd_same
    have m_dt1 := n_dt1
    generalize L2.upd W_dl1 dt1 (.tup [.ref du1, .ref dl1]) = W_dt1 at *
    have q_56 : Same H W_dt1 := q_55.trans s_dt1
    refine ⟨by show 0 ≤ 16777216; decide, fun du2 n_du2 => ?_⟩
    have s_du2 := sameN (o := .lst []) n_du2
    have h_du2 : L2.upd W_dt1 du2 (.lst []) du2 = some (.lst []) := upd_same
    have m_du2 := n_du2
    generalize L2.upd W_dt1 du2 (.lst []) = W_du2 at *
    have q_57 : Same H W_du2 := q_56.trans s_du2
    refine ⟨by show 2 ≤ 16777216; decide, fun dl2 n_dl2 => ?_⟩
    have s_dl2 := sameN (o := .lst [.int 1, .int 4]) n_dl2
    have h_dl2 : L2.upd W_du2 dl2 (.lst [.int 1, .int 4]) dl2 = some (.lst [.int 1, .int 4]) := upd_same
    have m_dl2 := n_dl2
    generalize L2.upd W_du2 dl2 (.lst [.int 1, .int 4]) = W_dl2 at *
    have q_58 : Same H W_dl2 := q_57.trans s_dl2
    refine ⟨by show 2 ≤ 16777216; decide, fun dt2 n_dt2 => ?_⟩
    have s_dt2 := sameN (o := .tup [.ref du2, .ref dl2]) n_dt2
    have h_dt2 : L2.upd W_dl2 dt2 (.tup [.ref du2, .ref dl2]) dt2 = some (.tup [.ref du2, .ref dl2]) := upd_same
    have m_dt2 := n_dt2
    generalize L2.upd W_dl2 dt2 (.tup [.ref du2, .ref dl2]) = W_dt2 at *
    have q_59 : Same H W_dt2 := q_58.trans s_dt2
    refine ⟨by show 4 ≤ 16777216; decide, fun dz n_dz => ?_⟩
    have s_dz := sameN (o := .lst [.ref dt0, .ref dt1, .ref dt2, .non]) n_dz
    have h_dz : L2.upd W_dt2 dz (.lst [.ref dt0, .ref dt1, .ref dt2, .non]) dz = some (.lst [.ref dt0, .ref dt1, .ref dt2, .non]) := upd_same
    have m_dz := n_dz
    generalize L2.upd W_dt2 dz (.lst [.ref dt0, .ref dt1, .ref dt2, .non]) = W_dz at *
    have q_60 : Same H W_dz := q_59.trans s_dz
    refine ⟨_, .list [duoD [0] [1, 1, 1], duoD [] [1, 1, 0], duoD [] [1, 4], .none], rfl, .lst (SqL.of h_dz) (.cons (dp_duo (L := [1, 1, 1]) (U := [0]) (s_dz _ _ (s_dt2 _ _ (s_dl2 _ _ (s_du2 _ _ (s_dt1 _ _ (s_dl1 _ _ (s_du1 _ _ h_dt0))))))) (s_dz _ _ (s_dt2 _ _ (s_dl2 _ _ (s_du2 _ _ (s_dt1 _ _ (s_dl1 _ _ (s_du1 _ _ (s_dt0 _ _ (s_dl0 _ _ h_du0))))))))) (s_dz _ _ (s_dt2 _ _ (s_dl2 _ _ (s_du2 _ _ (s_dt1 _ _ (s_dl1 _ _ (s_du1 _ _ (s_dt0 _ _ h_dl0))))))))) (.cons (dp_duo (L := [1, 1, 0]) (U := []) (s_dz _ _ (s_dt2 _ _ (s_dl2 _ _ (s_du2 _ _ h_dt1)))) (s_dz _ _ (s_dt2 _ _ (s_dl2 _ _ (s_du2 _ _ (s_dt1 _ _ (s_dl1 _ _ h_du1)))))) (s_dz _ _ (s_dt2 _ _ (s_dl2 _ _ (s_du2 _ _ (s_dt1 _ _ h_dl1)))))) (.cons (dp_duo (L := [1, 4]) (U := []) (s_dz _ _ h_dt2) (s_dz _ _ (s_dt2 _ _ (s_dl2 _ _ h_du2))) (s_dz _ _ (s_dt2 _ _ h_dl2))) (.cons .non .nil)))), shT, rfl, ?_⟩
    show Q (.bl (decide (V.str _ = V.str _))) _
    rw [decide_eq_true rfl]
    exact q _ (q_60 _ _ hTc) (q_60 _ _ hTr)

end
end K09
end

section
set_option Elab.async false
set_option linter.all false
set_option maxRecDepth 100000
set_option maxHeartbeats 4000000
namespace K09
open PySem PySem.Spec PyProof.Rows L2 GxR Gx Ma Mc

theorem k09_end {l : PySem.W.OpenLaw} {q : Program} {w : World} {K : PySem.W.Frag} {mg : Str → Option Value} {fa : Addr} {c_is_list_of_liquids P_is_list_of_liquids c_is_list_of_amounts P_is_list_of_amounts : Addr} (hmg : mg "law" = some (.ref fa))
  (d_is_integer : DF K mg "is_integer" s_is_integer)
  (d_is_within : DF K mg "is_within" s_is_within)
  (d_is_pair_in_lowest_terms : DF K mg "is_pair_in_lowest_terms" s_is_pair_in_lowest_terms)
  (d_is_kept : DF K mg "is_kept" s_is_kept)
  (d_is_list_of_liquids : DC K mg "is_list_of_liquids" s_is_list_of_liquids c_is_list_of_liquids) (t_is_list_of_liquids : PySem.W.tabIn K "is_list_of_liquids" = some (c_is_list_of_liquids, P_is_list_of_liquids)) (n_is_list_of_liquids : K.lookup P_is_list_of_liquids = none) (r_is_list_of_liquids : ((recsOf q).any fun e => e.name == ("is_list_of_liquids" : Str)) = true)
  (d_is_row : DF K mg "is_row" s_is_row)
  (d_check_kept : DF K mg "check_kept" s_check_kept)
  (d_check_row : DF K mg "check_row" s_check_row)
  (d_check_number : DF K mg "check_number" s_check_number)
  (d_common_divisor : DF K mg "common_divisor" s_common_divisor)
  (d_without_divisor : DF K mg "without_divisor" s_without_divisor)
  (d_is_content : DF K mg "is_content" s_is_content)
  (d_is_list_of_amounts : DC K mg "is_list_of_amounts" s_is_list_of_amounts c_is_list_of_amounts) (t_is_list_of_amounts : PySem.W.tabIn K "is_list_of_amounts" = some (c_is_list_of_amounts, P_is_list_of_amounts)) (n_is_list_of_amounts : K.lookup P_is_list_of_amounts = none) (r_is_list_of_amounts : ((recsOf q).any fun e => e.name == ("is_list_of_amounts" : Str)) = true)
  (d_check_content : DF K mg "check_content" s_check_content)
  (d_history_of : DF K mg "history_of" s_history_of)
  (d_all_histories : DF K mg "all_histories" s_all_histories)
  (d_stuck_at : DF K mg "stuck_at" s_stuck_at)
  (d_short_histories : DF K mg "short_histories" s_short_histories)
  (d_histories_of_length : DF K mg "histories_of_length" s_histories_of_length)
  (d_undone_and_left : DF K mg "undone_and_left" s_undone_and_left)
  (d_last_liquid : DF K mg "last_liquid" s_last_liquid)
  (d_can_be_last : DF K mg "can_be_last" s_can_be_last)
  (d_content_before : DF K mg "content_before" s_content_before)
  (d_is_pure : DF K mg "is_pure" s_is_pure)
  (d_is_power : DF K mg "is_power" s_is_power)
  (d_topped_row : DF K mg "topped_row" s_topped_row)
  (d_contents_along : DF K mg "contents_along" s_contents_along)
  (d_content_behind : DF K mg "content_behind" s_content_behind)
  (d_contents_by : DF K mg "contents_by" s_contents_by)
  (d__law_jar : DF K mg "_law_jar" s__law_jar)
  (d__law_dip : DF K mg "_law_dip" s__law_dip)
  (d__law_gcd : DF K mg "_law_gcd" s__law_gcd)
  (d__law_plain : DF K mg "_law_plain" s__law_plain)
  (d__law_part : DF K mg "_law_part" s__law_part)
  (d__law_step : DF K mg "_law_step" s__law_step)
  (d__law_walk : DF K mg "_law_walk" s__law_walk)
  (d__law_share : DF K mg "_law_share" s__law_share)
  (d__law_pure : DF K mg "_law_pure" s__law_pure)
  (d__law_spots : DF K mg "_law_spots" s__law_spots)
  (d__law_filled : DF K mg "_law_filled" s__law_filled)
  (d__law_known : DF K mg "_law_known" s__law_known)
  (d__law_power : DF K mg "_law_power" s__law_power)
  (d__law_height : DF K mg "_law_height" s__law_height)
  (d__law_lasts : DF K mg "_law_lasts" s__law_lasts)
  (d__law_back : DF K mg "_law_back" s__law_back)
  (d__law_right : DF K mg "_law_right" s__law_right)
  (d__law_made : DF K mg "_law_made" s__law_made)
  (d_law : DF K mg "law" s_law)
  (b_abs : mg "abs" = none) (b_all : mg "all" = none) (b_bool : mg "bool" = none) (b_enumerate : mg "enumerate" = none) (b_int : mg "int" = none) (b_isinstance : mg "isinstance" = none) (b_len : mg "len" = none) (b_list : mg "list" = none) (b_max : mg "max" = none) (b_min : mg "min" = none) (b_range : mg "range" = none) (b_repr : mg "repr" = none) (b_sum : mg "sum" = none) (b_tuple : mg "tuple" = none) (b_type : mg "type" = none) (b_zip : mg "zip" = none) (b_MOST_LIQUIDS : ∃ t, mg "MOST_LIQUIDS" = some (.int 8 t)) (b_MOST_PARTS : ∃ t, mg "MOST_PARTS" = some (.int 100 t)) (b_MOST_TOP_UPS : ∃ t, mg "MOST_TOP_UPS" = some (.int 60 t)) (b_gcd : mg "gcd" = some (.builtin "math.gcd")) : Gx.LawE l q w K 11 63 "script" mg fa := by
  have B : Bl mg := { abs := b_abs, all := b_all, bool := b_bool, enumerate := b_enumerate, int := b_int, isinstance := b_isinstance, len := b_len, list := b_list, max := b_max, min := b_min, range := b_range, repr := b_repr, sum := b_sum, tuple := b_tuple, type := b_type, zip := b_zip, MOST_LIQUIDS := b_MOST_LIQUIDS, MOST_PARTS := b_MOST_PARTS, MOST_TOP_UPS := b_MOST_TOP_UPS, gcd := b_gcd }
  obtain ⟨f, fd, F0, m0⟩ := d_law.ex
  obtain rfl : f = fa := by
    rw [m0] at hmg
    cases hmg
    rfl
  refine ⟨fd, [("is_list_of_liquids", c_is_list_of_liquids, P_is_list_of_liquids), ("is_list_of_amounts", c_is_list_of_amounts, P_is_list_of_amounts)], sp_law K P_is_list_of_amounts P_is_list_of_liquids, ?_, ?_, ?_, ?_⟩
  · simp only [List.forall_mem_cons, List.not_mem_nil, false_imp_iff, implies_true, and_true]
    exact ⟨⟨t_is_list_of_liquids, r_is_list_of_liquids, n_is_list_of_liquids⟩, ⟨t_is_list_of_amounts, r_is_list_of_amounts, n_is_list_of_amounts⟩⟩
  · intro s u
    obtain ⟨oc, od, kV, doc, pm, an, cdv, ct, osl, rfl, lk, hcd⟩ := F0.ex
    exact .of_eq rfl
  · intro H a ns hl _ hT hs
    simp only [List.forall_mem_cons, List.not_mem_nil, false_imp_iff, implies_true, and_true] at hT ⊢
    exact ⟨a, ns, rfl, hs, hl, hT.2, hT.1, fun H1 e1 e2 => ⟨rfl, e2, e1⟩⟩
  intro base _ _ TBs
  simp only [List.forall_mem_cons, List.not_mem_nil, false_imp_iff, implies_true, and_true] at TBs
  obtain ⟨TB_is_list_of_liquids, TB_is_list_of_amounts⟩ := TBs
  have C_is_integer : Cal l.prog w K mg base 1 "is_integer" ["thing"] ((sp_is_integer)) := cal_mk d_is_integer bd_is_integer fun f fd F => ok_is_integer F B
  have C_is_list_of_amounts : Cal l.prog w K mg base 5 "is_list_of_amounts" ["thing"] ((sp_is_list_of_amounts P_is_list_of_amounts)) := calC_mk d_is_list_of_amounts bd_is_list_of_amounts fun f fd F => ok_is_list_of_amounts F B C_is_integer TB_is_list_of_amounts
  have C_common_divisor : Cal l.prog w K mg base 1 "common_divisor" ["numbers"] ((sp_common_divisor)) := cal_mk d_common_divisor bd_common_divisor fun f fd F => ok_common_divisor F B
  have C_is_content : Cal l.prog w K mg base 6 "is_content" ["thing"] ((sp_is_content P_is_list_of_amounts)) := cal_mk d_is_content bd_is_content fun f fd F => ok_is_content F B C_is_list_of_amounts C_common_divisor
  have C_check_content : Cal l.prog w K mg base 7 "check_content" ["content"] ((sp_check_content P_is_list_of_amounts)) := cal_mk d_check_content bd_check_content fun f fd F => ok_check_content F B C_is_content
  have C_is_pair_in_lowest_terms : Cal l.prog w K mg base 2 "is_pair_in_lowest_terms" ["thing"] ((sp_is_pair)) := cal_mk d_is_pair_in_lowest_terms bd_is_pair_in_lowest_terms fun f fd F => ok_is_pair_in_lowest_terms F B C_is_integer
  have C_is_kept : Cal l.prog w K mg base 3 "is_kept" ["thing"] ((sp_is_kept)) := cal_mk d_is_kept bd_is_kept fun f fd F => ok_is_kept F B C_is_pair_in_lowest_terms
  have C_check_kept : Cal l.prog w K mg base 4 "check_kept" ["kept"] ((sp_check_kept)) := cal_mk d_check_kept bd_check_kept fun f fd F => ok_check_kept F B C_is_kept
  have C_is_within : Cal l.prog w K mg base 2 "is_within" ["thing", "least", "most"] ((sp_is_within)) := cal_mk d_is_within bd_is_within fun f fd F => ok_is_within F B C_is_integer
  have C_is_list_of_liquids : Cal l.prog w K mg base 6 "is_list_of_liquids" ["thing", "liquids"] ((sp_is_list_of_liquids P_is_list_of_liquids)) := calC_mk d_is_list_of_liquids bd_is_list_of_liquids fun f fd F => ok_is_list_of_liquids F B C_is_within TB_is_list_of_liquids
  have C_is_row : Cal l.prog w K mg base 7 "is_row" ["thing", "liquids"] ((sp_is_row P_is_list_of_liquids)) := cal_mk d_is_row bd_is_row fun f fd F => ok_is_row F B C_is_list_of_liquids
  have C_check_row : Cal l.prog w K mg base 8 "check_row" ["row", "liquids"] ((sp_check_row P_is_list_of_liquids)) := cal_mk d_check_row bd_check_row fun f fd F => ok_check_row F B C_is_row
  have C_without_divisor : Cal l.prog w K mg base 2 "without_divisor" ["numbers"] ((sp_without_divisor)) := cal_mk d_without_divisor bd_without_divisor fun f fd F => ok_without_divisor F B C_common_divisor
  have C_content_behind : Cal l.prog w K mg base 3 "content_behind" ["content", "kept", "liquid"] ((sp_content_behind)) := cal_mk d_content_behind bd_content_behind fun f fd F => ok_content_behind F B C_without_divisor
  have C_contents_by : Cal l.prog w K mg base 4 "contents_by" ["content", "keeps", "row"] ((sp_contents_by)) := cal_mk d_contents_by bd_contents_by fun f fd F => ok_contents_by F B C_content_behind
  have C_contents_along : Cal l.prog w K mg base 9 "contents_along" ["content", "kept", "row"] ((sp_contents_along P_is_list_of_amounts P_is_list_of_liquids)) := cal_mk d_contents_along bd_contents_along fun f fd F => ok_contents_along F B C_check_content C_check_kept C_check_row C_contents_by
  have C_topped_row : Cal l.prog w K mg base 10 "topped_row" ["content", "kept", "row"] ((sp_topped_row P_is_list_of_amounts P_is_list_of_liquids)) := cal_mk d_topped_row bd_topped_row fun f fd F => ok_topped_row F B C_contents_along
  have C_is_pure : Cal l.prog w K mg base 1 "is_pure" ["content"] ((sp_is_pure)) := cal_mk d_is_pure bd_is_pure fun f fd F => ok_is_pure F B
  have C_is_power : Cal l.prog w K mg base 1 "is_power" ["number", "base"] ((sp_is_power)) := cal_mk d_is_power bd_is_power fun f fd F => ok_is_power F B
  have C_can_be_last : Cal l.prog w K mg base 1 "can_be_last" ["content", "kept", "liquid"] ((sp_can_be)) := cal_mk d_can_be_last bd_can_be_last fun f fd F => ok_can_be_last F B
  have C_last_liquid : Cal l.prog w K mg base 2 "last_liquid" ["content", "kept"] ((sp_last)) := cal_mk d_last_liquid bd_last_liquid fun f fd F => ok_last_liquid F B C_can_be_last
  have C_content_before : Cal l.prog w K mg base 3 "content_before" ["content", "kept", "liquid"] ((sp_before)) := cal_mk d_content_before bd_content_before fun f fd F => ok_content_before F B C_without_divisor
  have C_undone_and_left : Cal l.prog w K mg base 4 "undone_and_left" ["content", "kept"] ((sp_undone)) := cal_mk d_undone_and_left bd_undone_and_left fun f fd F => ok_undone_and_left F B C_is_pure C_is_power C_last_liquid C_content_before
  have C_short_histories : Cal l.prog w K mg base 5 "short_histories" ["content", "kept"] ((sp_shorts)) := cal_mk d_short_histories bd_short_histories fun f fd F => ok_short_histories F B C_undone_and_left C_is_pure
  have C_history_of : Cal l.prog w K mg base 8 "history_of" ["content", "kept"] ((sp_hist P_is_list_of_amounts)) := cal_mk d_history_of bd_history_of fun f fd F => ok_history_of F B C_check_content C_check_kept C_short_histories
  have CK_history_of_01 : CalK l.prog w K mg base 8 "history_of" ["content", "kept"] ["content", "kept"] (gVof [0, 1] 2) ((sp_hist P_is_list_of_amounts)) := calK_mk d_history_of (fun f fd F => kbinds_mk F [0, 1] 2 (by decide) fun _ _ _ _ _ _ ws h => match ws, h with | [_, _], _ => rfl) fun f fd F => ok_history_of F B C_check_content C_check_kept C_short_histories
  have C_stuck_at : Cal l.prog w K mg base 8 "stuck_at" ["content", "kept"] ((sp_stuck P_is_list_of_amounts)) := cal_mk d_stuck_at bd_stuck_at fun f fd F => ok_stuck_at F B C_check_content C_check_kept C_undone_and_left C_is_pure
  have CK_stuck_at_01 : CalK l.prog w K mg base 8 "stuck_at" ["content", "kept"] ["content", "kept"] (gVof [0, 1] 2) ((sp_stuck P_is_list_of_amounts)) := calK_mk d_stuck_at (fun f fd F => kbinds_mk F [0, 1] 2 (by decide) fun _ _ _ _ _ _ ws h => match ws, h with | [_, _], _ => rfl) fun f fd F => ok_stuck_at F B C_check_content C_check_kept C_undone_and_left C_is_pure
  have CK_stuck_at_10 : CalK l.prog w K mg base 8 "stuck_at" ["content", "kept"] ["kept", "content"] (gVof [1, 0] 2) ((sp_stuck P_is_list_of_amounts)) := calK_mk d_stuck_at (fun f fd F => kbinds_mk F [1, 0] 2 (by decide) fun _ _ _ _ _ _ ws h => match ws, h with | [_, _], _ => rfl) fun f fd F => ok_stuck_at F B C_check_content C_check_kept C_undone_and_left C_is_pure
  have C__law_jar : Cal l.prog w K mg base 1 "_law_jar" ["script", "k"] ((sp_jar K)) := cal_mk d__law_jar bd__law_jar fun f fd F => ok__law_jar F B
  have C__law_dip : Cal l.prog w K mg base 1 "_law_dip" ["jar", "many"] ((sp_dip)) := cal_mk d__law_dip bd__law_dip fun f fd F => ok__law_dip F B
  have C__law_gcd : Cal l.prog w K mg base 1 "_law_gcd" ["one", "two"] ((sp_lgcd)) := cal_mk d__law_gcd bd__law_gcd fun f fd F => ok__law_gcd F B
  have C__law_part : Cal l.prog w K mg base 2 "_law_part" ["top", "bottom"] ((sp_lpart)) := cal_mk d__law_part bd__law_part fun f fd F => ok__law_part F B C__law_gcd
  have C__law_share : Cal l.prog w K mg base 3 "_law_share" ["jar"] ((sp_lshare)) := cal_mk d__law_share bd__law_share fun f fd F => ok__law_share F B C__law_dip C__law_part
  have C__law_spots : Cal l.prog w K mg base 2 "_law_spots" ["jar", "many", "size"] ((sp_lspots)) := cal_mk d__law_spots bd__law_spots fun f fd F => ok__law_spots F B C__law_dip
  have C__law_plain : Cal l.prog w K mg base 2 "_law_plain" ["numbers_here"] ((sp_without_divisor)) := cal_mk d__law_plain bd__law_plain fun f fd F => ok__law_plain F B C__law_gcd
  have C__law_pure : Cal l.prog w K mg base 1 "_law_pure" ["many", "spot"] ((sp_lpure)) := cal_mk d__law_pure bd__law_pure fun f fd F => ok__law_pure F B
  have C__law_step : Cal l.prog w K mg base 3 "_law_step" ["numbers_here", "stays", "whole", "spot"] ((sp_lstep)) := cal_mk d__law_step bd__law_step fun f fd F => ok__law_step F B C__law_plain
  have C__law_walk : Cal l.prog w K mg base 4 "_law_walk" ["numbers_here", "share_here", "spots"] ((sp_lwalk)) := cal_mk d__law_walk bd__law_walk fun f fd F => ok__law_walk F B C__law_step
  have C__law_filled : Cal l.prog w K mg base 5 "_law_filled" ["jar", "many", "most"] ((sp_lfilled)) := cal_mk d__law_filled bd__law_filled fun f fd F => ok__law_filled F B C__law_dip C__law_plain C__law_pure C__law_walk C__law_share C__law_spots
  have C__law_known : Cal l.prog w K mg base 5 "_law_known" ["jar", "many", "share_here", "size"] ((sp_lknown)) := cal_mk d__law_known bd__law_known fun f fd F => ok__law_known F B C__law_dip C__law_pure C__law_walk C__law_spots
  have C__law_made : Cal l.prog w K mg base 6 "_law_made" ["jar", "many", "share_here"] ((sp_lmade)) := cal_mk d__law_made bd__law_made fun f fd F => ok__law_made F B C__law_dip C__law_filled C__law_step C__law_plain C__law_known
  have C__law_power : Cal l.prog w K mg base 1 "_law_power" ["number_here", "times"] ((sp_lpower)) := cal_mk d__law_power bd__law_power fun f fd F => ok__law_power F B
  have C__law_height : Cal l.prog w K mg base 2 "_law_height" ["bottom_here", "whole"] ((sp_lheight)) := cal_mk d__law_height bd__law_height fun f fd F => ok__law_height F B C__law_power
  have C__law_lasts : Cal l.prog w K mg base 1 "_law_lasts" ["pot", "share_here"] ((sp_llasts)) := cal_mk d__law_lasts bd__law_lasts fun f fd F => ok__law_lasts F B
  have C__law_back : Cal l.prog w K mg base 3 "_law_back" ["pot", "share_here"] ((sp_lback)) := cal_mk d__law_back bd__law_back fun f fd F => ok__law_back F B C__law_height C__law_lasts C__law_plain
  have C_check_number : Cal l.prog w K mg base 3 "check_number" ["number", "least", "most"] ((sp_check_number)) := cal_mk d_check_number bd_check_number fun f fd F => ok_check_number F B C_is_within
  have C_histories_of_length : Cal l.prog w K mg base 6 "histories_of_length" ["content", "kept", "number"] ((sp_hofl)) := cal_mk d_histories_of_length bd_histories_of_length fun f fd F => ok_histories_of_length F B C_short_histories
  have C_all_histories : Cal l.prog w K mg base 8 "all_histories" ["content", "kept", "number"] ((sp_allh P_is_list_of_amounts)) := cal_mk d_all_histories bd_all_histories fun f fd F => ok_all_histories F B C_check_content C_check_kept C_check_number C_histories_of_length
  have C__law_right : CalG l.prog w K mg base 9 "_law_right" ["pot", "share_here"] ((sp_lright P_is_list_of_amounts)) := calG_mk d__law_right bd__law_right fun f fd F => ok__law_right F B C__law_back C_history_of CK_history_of_01 C_stuck_at CK_stuck_at_01 CK_stuck_at_10 C_all_histories
  exact ok_law F0 B C_topped_row C_history_of C_stuck_at C__law_jar C__law_dip C__law_share C__law_spots C__law_made C__law_right

end K09
end

section
set_option Elab.async false
set_option linter.all false
set_option maxRecDepth 100000
open PySem PySem.W PyProof.Rows K09 Gx
set_option maxHeartbeats 0 in
theorem PySem.Challenge.cw_topups_k09_contents_without_a_history_holds : PySem.Challenge.rw_topups_k09_contents_without_a_history.Holds := by
  w_on; o_law; k_head; (case hw => w_witness2)
  k_fill
  refine Gx.walk_E (l := PySem.Challenge.rw_topups_k09_contents_without_a_history) (n := 63) (k := 11) (x := "script") rfl (by decide) rfl ⟨rfl, by decide, by decide⟩ (fun w h Y => PySem.W.kIn_of Y) ?F
  case F =>
    intro w mg fa h KX G hmg
    refine' with_df (x := "is_integer") (st := s_is_integer) KX G ?a0 ?l0 ?c0 ?k0 ?go0
    (case a0 => k_is); (case l0 => k_is); (case c0 => k_is); (case k0 => k_is)
    intro d_is_integer
    refine' with_df (x := "is_within") (st := s_is_within) KX G ?a1 ?l1 ?c1 ?k1 ?go1
    (case a1 => k_is); (case l1 => k_is); (case c1 => k_is); (case k1 => k_is)
    intro d_is_within
    refine' with_df (x := "is_pair_in_lowest_terms") (st := s_is_pair_in_lowest_terms) KX G ?a2 ?l2 ?c2 ?k2 ?go2
    (case a2 => k_is); (case l2 => k_is); (case c2 => k_is); (case k2 => k_is)
    intro d_is_pair_in_lowest_terms
    refine' with_df (x := "is_kept") (st := s_is_kept) KX G ?a3 ?l3 ?c3 ?k3 ?go3
    (case a3 => k_is); (case l3 => k_is); (case c3 => k_is); (case k3 => k_is)
    intro d_is_kept
    refine' with_dc (x := "is_list_of_liquids") (st := s_is_list_of_liquids) KX G ?a4 ?l4 ?c4 ?k4 ?t4 ?r4 ?n4 ?go4
    (case a4 => k_is); (case l4 => k_is); (case c4 => k_is); (case k4 => k_is); (case t4 => k_is); (case r4 => rfl); (case n4 => first | kernel_rfl | rfl | decide +kernel)
    intro c_is_list_of_liquids P_is_list_of_liquids d_is_list_of_liquids t_is_list_of_liquids n_is_list_of_liquids
    refine' with_df (x := "is_row") (st := s_is_row) KX G ?a5 ?l5 ?c5 ?k5 ?go5
    (case a5 => k_is); (case l5 => k_is); (case c5 => k_is); (case k5 => k_is)
    intro d_is_row
    refine' with_df (x := "check_kept") (st := s_check_kept) KX G ?a6 ?l6 ?c6 ?k6 ?go6
    (case a6 => k_is); (case l6 => k_is); (case c6 => k_is); (case k6 => k_is)
    intro d_check_kept
    refine' with_df (x := "check_row") (st := s_check_row) KX G ?a7 ?l7 ?c7 ?k7 ?go7
    (case a7 => k_is); (case l7 => k_is); (case c7 => k_is); (case k7 => k_is)
    intro d_check_row
    refine' with_df (x := "check_number") (st := s_check_number) KX G ?a8 ?l8 ?c8 ?k8 ?go8
    (case a8 => k_is); (case l8 => k_is); (case c8 => k_is); (case k8 => k_is)
    intro d_check_number
    refine' with_df (x := "common_divisor") (st := s_common_divisor) KX G ?a9 ?l9 ?c9 ?k9 ?go9
    (case a9 => k_is); (case l9 => k_is); (case c9 => k_is); (case k9 => k_is)
    intro d_common_divisor
    refine' with_df (x := "without_divisor") (st := s_without_divisor) KX G ?a10 ?l10 ?c10 ?k10 ?go10
    (case a10 => k_is); (case l10 => k_is); (case c10 => k_is); (case k10 => k_is)
    intro d_without_divisor
    refine' with_df (x := "is_content") (st := s_is_content) KX G ?a11 ?l11 ?c11 ?k11 ?go11
    (case a11 => k_is); (case l11 => k_is); (case c11 => k_is); (case k11 => k_is)
    intro d_is_content
    refine' with_dc (x := "is_list_of_amounts") (st := s_is_list_of_amounts) KX G ?a12 ?l12 ?c12 ?k12 ?t12 ?r12 ?n12 ?go12
    (case a12 => k_is); (case l12 => k_is); (case c12 => k_is); (case k12 => k_is); (case t12 => k_is); (case r12 => rfl); (case n12 => first | kernel_rfl | rfl | decide +kernel)
    intro c_is_list_of_amounts P_is_list_of_amounts d_is_list_of_amounts t_is_list_of_amounts n_is_list_of_amounts
    refine' with_df (x := "check_content") (st := s_check_content) KX G ?a13 ?l13 ?c13 ?k13 ?go13
    (case a13 => k_is); (case l13 => k_is); (case c13 => k_is); (case k13 => k_is)
    intro d_check_content
    refine' with_df (x := "history_of") (st := s_history_of) KX G ?a14 ?l14 ?c14 ?k14 ?go14
    (case a14 => k_is); (case l14 => k_is); (case c14 => k_is); (case k14 => k_is)
    intro d_history_of
    refine' with_df (x := "all_histories") (st := s_all_histories) KX G ?a15 ?l15 ?c15 ?k15 ?go15
    (case a15 => k_is); (case l15 => k_is); (case c15 => k_is); (case k15 => k_is)
    intro d_all_histories
    refine' with_df (x := "stuck_at") (st := s_stuck_at) KX G ?a16 ?l16 ?c16 ?k16 ?go16
    (case a16 => k_is); (case l16 => k_is); (case c16 => k_is); (case k16 => k_is)
    intro d_stuck_at
    refine' with_df (x := "short_histories") (st := s_short_histories) KX G ?a17 ?l17 ?c17 ?k17 ?go17
    (case a17 => k_is); (case l17 => k_is); (case c17 => k_is); (case k17 => k_is)
    intro d_short_histories
    refine' with_df (x := "histories_of_length") (st := s_histories_of_length) KX G ?a18 ?l18 ?c18 ?k18 ?go18
    (case a18 => k_is); (case l18 => k_is); (case c18 => k_is); (case k18 => k_is)
    intro d_histories_of_length
    refine' with_df (x := "undone_and_left") (st := s_undone_and_left) KX G ?a19 ?l19 ?c19 ?k19 ?go19
    (case a19 => k_is); (case l19 => k_is); (case c19 => k_is); (case k19 => k_is)
    intro d_undone_and_left
    refine' with_df (x := "last_liquid") (st := s_last_liquid) KX G ?a20 ?l20 ?c20 ?k20 ?go20
    (case a20 => k_is); (case l20 => k_is); (case c20 => k_is); (case k20 => k_is)
    intro d_last_liquid
    refine' with_df (x := "can_be_last") (st := s_can_be_last) KX G ?a21 ?l21 ?c21 ?k21 ?go21
    (case a21 => k_is); (case l21 => k_is); (case c21 => k_is); (case k21 => k_is)
    intro d_can_be_last
    refine' with_df (x := "content_before") (st := s_content_before) KX G ?a22 ?l22 ?c22 ?k22 ?go22
    (case a22 => k_is); (case l22 => k_is); (case c22 => k_is); (case k22 => k_is)
    intro d_content_before
    refine' with_df (x := "is_pure") (st := s_is_pure) KX G ?a23 ?l23 ?c23 ?k23 ?go23
    (case a23 => k_is); (case l23 => k_is); (case c23 => k_is); (case k23 => k_is)
    intro d_is_pure
    refine' with_df (x := "is_power") (st := s_is_power) KX G ?a24 ?l24 ?c24 ?k24 ?go24
    (case a24 => k_is); (case l24 => k_is); (case c24 => k_is); (case k24 => k_is)
    intro d_is_power
    refine' with_df (x := "topped_row") (st := s_topped_row) KX G ?a25 ?l25 ?c25 ?k25 ?go25
    (case a25 => k_is); (case l25 => k_is); (case c25 => k_is); (case k25 => k_is)
    intro d_topped_row
    refine' with_df (x := "contents_along") (st := s_contents_along) KX G ?a26 ?l26 ?c26 ?k26 ?go26
    (case a26 => k_is); (case l26 => k_is); (case c26 => k_is); (case k26 => k_is)
    intro d_contents_along
    refine' with_df (x := "content_behind") (st := s_content_behind) KX G ?a27 ?l27 ?c27 ?k27 ?go27
    (case a27 => k_is); (case l27 => k_is); (case c27 => k_is); (case k27 => k_is)
    intro d_content_behind
    refine' with_df (x := "contents_by") (st := s_contents_by) KX G ?a28 ?l28 ?c28 ?k28 ?go28
    (case a28 => k_is); (case l28 => k_is); (case c28 => k_is); (case k28 => k_is)
    intro d_contents_by
    refine' with_df (x := "_law_jar") (st := s__law_jar) KX G ?a29 ?l29 ?c29 ?k29 ?go29
    (case a29 => k_is); (case l29 => k_is); (case c29 => k_is); (case k29 => k_is)
    intro d__law_jar
    refine' with_df (x := "_law_dip") (st := s__law_dip) KX G ?a30 ?l30 ?c30 ?k30 ?go30
    (case a30 => k_is); (case l30 => k_is); (case c30 => k_is); (case k30 => k_is)
    intro d__law_dip
    refine' with_df (x := "_law_gcd") (st := s__law_gcd) KX G ?a31 ?l31 ?c31 ?k31 ?go31
    (case a31 => k_is); (case l31 => k_is); (case c31 => k_is); (case k31 => k_is)
    intro d__law_gcd
    refine' with_df (x := "_law_plain") (st := s__law_plain) KX G ?a32 ?l32 ?c32 ?k32 ?go32
    (case a32 => k_is); (case l32 => k_is); (case c32 => k_is); (case k32 => k_is)
    intro d__law_plain
    refine' with_df (x := "_law_part") (st := s__law_part) KX G ?a33 ?l33 ?c33 ?k33 ?go33
    (case a33 => k_is); (case l33 => k_is); (case c33 => k_is); (case k33 => k_is)
    intro d__law_part
    refine' with_df (x := "_law_step") (st := s__law_step) KX G ?a34 ?l34 ?c34 ?k34 ?go34
    (case a34 => k_is); (case l34 => k_is); (case c34 => k_is); (case k34 => k_is)
    intro d__law_step
    refine' with_df (x := "_law_walk") (st := s__law_walk) KX G ?a35 ?l35 ?c35 ?k35 ?go35
    (case a35 => k_is); (case l35 => k_is); (case c35 => k_is); (case k35 => k_is)
    intro d__law_walk
    refine' with_df (x := "_law_share") (st := s__law_share) KX G ?a36 ?l36 ?c36 ?k36 ?go36
    (case a36 => k_is); (case l36 => k_is); (case c36 => k_is); (case k36 => k_is)
    intro d__law_share
    refine' with_df (x := "_law_pure") (st := s__law_pure) KX G ?a37 ?l37 ?c37 ?k37 ?go37
    (case a37 => k_is); (case l37 => k_is); (case c37 => k_is); (case k37 => k_is)
    intro d__law_pure
    refine' with_df (x := "_law_spots") (st := s__law_spots) KX G ?a38 ?l38 ?c38 ?k38 ?go38
    (case a38 => k_is); (case l38 => k_is); (case c38 => k_is); (case k38 => k_is)
    intro d__law_spots
    refine' with_df (x := "_law_filled") (st := s__law_filled) KX G ?a39 ?l39 ?c39 ?k39 ?go39
    (case a39 => k_is); (case l39 => k_is); (case c39 => k_is); (case k39 => k_is)
    intro d__law_filled
    refine' with_df (x := "_law_known") (st := s__law_known) KX G ?a40 ?l40 ?c40 ?k40 ?go40
    (case a40 => k_is); (case l40 => k_is); (case c40 => k_is); (case k40 => k_is)
    intro d__law_known
    refine' with_df (x := "_law_power") (st := s__law_power) KX G ?a41 ?l41 ?c41 ?k41 ?go41
    (case a41 => k_is); (case l41 => k_is); (case c41 => k_is); (case k41 => k_is)
    intro d__law_power
    refine' with_df (x := "_law_height") (st := s__law_height) KX G ?a42 ?l42 ?c42 ?k42 ?go42
    (case a42 => k_is); (case l42 => k_is); (case c42 => k_is); (case k42 => k_is)
    intro d__law_height
    refine' with_df (x := "_law_lasts") (st := s__law_lasts) KX G ?a43 ?l43 ?c43 ?k43 ?go43
    (case a43 => k_is); (case l43 => k_is); (case c43 => k_is); (case k43 => k_is)
    intro d__law_lasts
    refine' with_df (x := "_law_back") (st := s__law_back) KX G ?a44 ?l44 ?c44 ?k44 ?go44
    (case a44 => k_is); (case l44 => k_is); (case c44 => k_is); (case k44 => k_is)
    intro d__law_back
    refine' with_df (x := "_law_right") (st := s__law_right) KX G ?a45 ?l45 ?c45 ?k45 ?go45
    (case a45 => k_is); (case l45 => k_is); (case c45 => k_is); (case k45 => k_is)
    intro d__law_right
    refine' with_df (x := "_law_made") (st := s__law_made) KX G ?a46 ?l46 ?c46 ?k46 ?go46
    (case a46 => k_is); (case l46 => k_is); (case c46 => k_is); (case k46 => k_is)
    intro d__law_made
    refine' with_df (x := "law") (st := s_law) KX G ?a47 ?l47 ?c47 ?k47 ?go47
    (case a47 => k_is); (case l47 => k_is); (case c47 => k_is); (case k47 => k_is)
    intro d_law
    refine' with_bl (x := "abs") KX G ?z48 ?go48
    (case z48 => k_is)
    intro b_abs
    refine' with_bl (x := "all") KX G ?z49 ?go49
    (case z49 => k_is)
    intro b_all
    refine' with_bl (x := "bool") KX G ?z50 ?go50
    (case z50 => k_is)
    intro b_bool
    refine' with_bl (x := "enumerate") KX G ?z51 ?go51
    (case z51 => k_is)
    intro b_enumerate
    refine' with_bl (x := "int") KX G ?z52 ?go52
    (case z52 => k_is)
    intro b_int
    refine' with_bl (x := "isinstance") KX G ?z53 ?go53
    (case z53 => k_is)
    intro b_isinstance
    refine' with_bl (x := "len") KX G ?z54 ?go54
    (case z54 => k_is)
    intro b_len
    refine' with_bl (x := "list") KX G ?z55 ?go55
    (case z55 => k_is)
    intro b_list
    refine' with_bl (x := "max") KX G ?z56 ?go56
    (case z56 => k_is)
    intro b_max
    refine' with_bl (x := "min") KX G ?z57 ?go57
    (case z57 => k_is)
    intro b_min
    refine' with_bl (x := "range") KX G ?z58 ?go58
    (case z58 => k_is)
    intro b_range
    refine' with_bl (x := "repr") KX G ?z59 ?go59
    (case z59 => k_is)
    intro b_repr
    refine' with_bl (x := "sum") KX G ?z60 ?go60
    (case z60 => k_is)
    intro b_sum
    refine' with_bl (x := "tuple") KX G ?z61 ?go61
    (case z61 => k_is)
    intro b_tuple
    refine' with_bl (x := "type") KX G ?z62 ?go62
    (case z62 => k_is)
    intro b_type
    refine' with_bl (x := "zip") KX G ?z63 ?go63
    (case z63 => k_is)
    intro b_zip
    refine' with_gi (x := "MOST_LIQUIDS") (n := 8) KX G ?z64 ?go64
    (case z64 => k_is)
    intro b_MOST_LIQUIDS
    refine' with_gi (x := "MOST_PARTS") (n := 100) KX G ?z65 ?go65
    (case z65 => k_is)
    intro b_MOST_PARTS
    refine' with_gi (x := "MOST_TOP_UPS") (n := 60) KX G ?z66 ?go66
    (case z66 => k_is)
    intro b_MOST_TOP_UPS
    refine' with_bf (x := "gcd") (id := "math.gcd") KX G ?z67 ?go67
    (case z67 => k_is)
    intro b_gcd
    exact K09.k09_end hmg d_is_integer d_is_within d_is_pair_in_lowest_terms d_is_kept d_is_list_of_liquids t_is_list_of_liquids n_is_list_of_liquids (by first | rfl | decide +kernel) d_is_row d_check_kept d_check_row d_check_number d_common_divisor d_without_divisor d_is_content d_is_list_of_amounts t_is_list_of_amounts n_is_list_of_amounts (by first | rfl | decide +kernel) d_check_content d_history_of d_all_histories d_stuck_at d_short_histories d_histories_of_length d_undone_and_left d_last_liquid d_can_be_last d_content_before d_is_pure d_is_power d_topped_row d_contents_along d_content_behind d_contents_by d__law_jar d__law_dip d__law_gcd d__law_plain d__law_part d__law_step d__law_walk d__law_share d__law_pure d__law_spots d__law_filled d__law_known d__law_power d__law_height d__law_lasts d__law_back d__law_right d__law_made d_law b_abs b_all b_bool b_enumerate b_int b_isinstance b_len b_list b_max b_min b_range b_repr b_sum b_tuple b_type b_zip b_MOST_LIQUIDS b_MOST_PARTS b_MOST_TOP_UPS b_gcd
end
