import PyProof.Rows.All
import Wide.All
import OpenK.AllK
import Wide.FinOn
import HandS.ForMost
import HandS.ForExc
import HandS.AnyAll
import HandS.GenList
import HandS.IsInst
import HandS.NoneIn
import HandS.StrMore
import HandS.Defaults
import HandS.Head0
import HandS.Head1
import HandS.Head2
import HandS.HeadEnd
import HandS.HeadHook1
import HandS.HeadHook2
import HandS.HeadHook3
import HandS.HeadHook4
import HandS.EndTab
import HandS.HeadWalk
import HandS.Deep
import HandS.Conv
import KE.DataAny
import HandS.Style
import KE.KStateDown
import PySem.Challenge.RW_patchlay_k06_whole_made
section
set_option Elab.async false
set_option linter.all false
set_option maxRecDepth 100000
set_option maxHeartbeats 4000000
namespace Gx
open PySem PySem.Spec PyProof.Rows L2 GxR GenW

/-- the context of a generator expression's own frame -/
abbrev Cxg (X : Cx) (s : Shared) (H : Hp) (cenv : Env) (fp : List Addr) (A' : Around) (pn : List (Addr × Obj)) : Cx :=
  { X with A := A', s_0 := s, H_0 := H, env := cenv, outer := X.stack, stack := cenv :: X.stack, ex := fp, fn := fun _ => false, pn := pn, xe := fun _ _ => False }
abbrev gEnv (X : Cx) (scope : Scope) (C : Addr) (code : Value) : Env := genEnv scope (cloFrom X.env.cells scope.names []) C code builtinsNs X.env

section
variable {X : Cx} {pins : List (Addr × Obj)} {σ : L2.St} {H : Hp} {s : Shared}
theorem gen_start {scope : Scope} {own : List (Str × Nat)} {fp : List Addr} {code : Value} {A' : Around} {go : Obj} {m0 : Str → Option Value} (I : Inv X pins σ H s) (ok : BlkOk X.N X.env.scope scope own) (hN : X.N.Nodup)
    (hnc : ∀ y ∈ scope.names, y.2 ≠ .cell) (hfp : ∀ b ∈ fp, FpOk X pins H b ∧ b < s.heap.objs.size)
    (hA : A'.frames = some (gEnv X scope s.heap.objs.size code :: X.stack)) (hd : X.calm = true → A'.handled = none)
    {s5 : Shared} (hk : ∀ b o, s.heap.get? b = some o → s5.heap.get? b = some o) (hos : s5.os = s.os) (hb : AllBare s5.gens) (hns : s5.heap.Ns s.heap.objs.size m0)
    (hgo : s5.heap.get? (s.heap.objs.size + 1) = some go) (hgd : ∀ v, go.data ≠ .cell v) :
    Inv (Cxg X s H (gEnv X scope s.heap.objs.size code) fp A' [(s.heap.objs.size + 1, go)]) [] (wipe σ (own.map (·.2))) H s5 := by
  have hfree : ∀ y ∈ scope.names, y.2 = .free → ∃ c, X.env.cells.lookup y.1 = some c := fun y hy e => by
    rcases ok.free y hy e with k | k
    · exact I.ok.has _ (.inl k)
    · exact I.ok.has _ (.inr k)
  generalize hcenv : gEnv X scope s.heap.objs.size code = cenv at hA ⊢
  have hL : cenv.locals = s.heap.objs.size := by rw [← hcenv]; rfl
  have hcl : cenv.cells = cloFrom X.env.cells scope.names [] := by rw [← hcenv]; rfl
  have hsc : cenv.scope = scope := by rw [← hcenv]; rfl
  have cm : ∀ {y c}, cenv.cells.lookup y = some c → X.env.cells.lookup y = some c ∧ c < s.heap.objs.size := fun {y c} e => by
    rw [hcl] at e
    rcases cloFrom_mem (PySem.mem_of_lookup e) with hm | ⟨h1, rfl⟩
    · cases hm
    · obtain ⟨c, hc⟩ := hfree _ h1 rfl
      rw [hc]
      obtain ⟨w, z⟩ := I.cell _ _ hc
      exact ⟨rfl, z.lt⟩
  have look : ∀ {y}, scope.names.lookup y = some .free → ∃ c, cenv.cells.lookup y = some c ∧ X.env.cells.lookup y = some c := fun {y} hl => by
    have hy : (y, NameKind.free) ∈ scope.names := PySem.mem_of_lookup hl
    obtain ⟨c', e'⟩ := mem_lookup (cloFrom_has (cells := X.env.cells) (acc := []) hy)
    rw [← hcl] at e'
    exact ⟨c', e', (cm e').1⟩
  have nocell : ∀ {y}, scope.names.lookup y ≠ some .cell := fun {y} e => hnc _ (PySem.mem_of_lookup e) rfl
  have inStk : ∀ b ∈ frs X.stack, b < s.heap.objs.size := fun b hb => by
    obtain ⟨_, o, ho, _⟩ := I.stack.mem hb
    exact Heap.lt_size ho
  have okB : (Cxg X s H cenv fp A' [(s.heap.objs.size + 1, go)]).Ok := by
    refine ⟨I.ok.mod, by show cenv.scope.kind = _; rw [hsc]; exact ok.kind, by show cenv.globals = _; rw [← hcenv]; exact I.ok.glob, by show cenv.builtins = _; rw [← hcenv]; rfl, by show s.heap.objs.size ≤ cenv.locals; rw [hL]; exact Nat.le_refl _,
      fun y z c e1 e2 => I.ok.inj y z c (cm e1).1 (cm e2).1, fun y hy => ?_, fun y c z e => ?_, hd, hA, .inr ⟨rfl, ?_⟩, fun b hb => ⟨?_, fun y c e z => ?_⟩, I.bs, Nat.le_trans I.ok.bsz I.sz, fun b o e hb => ?_, fun b hb z => ?_, I.stack, I.stkFree⟩
    · show ∃ c, cenv.cells.lookup y = some c
      have hy' : scope.names.lookup y = some .cell ∨ scope.names.lookup y = some .free := by
        have q : cenv.kindOf y = some .cell ∨ cenv.kindOf y = some .free := hy
        unfold Env.kindOf at q
        rw [hsc] at q
        exact q
      rcases hy' with hy' | hy'
      · exact absurd hy' nocell
      · obtain ⟨c, h1, _⟩ := look hy'
        exact ⟨c, h1⟩
    · exact absurd (show false = true from z) (by simp)
    · show cenv.frame = some cenv.locals
      rw [← hcenv]; rfl
    · show b ≠ cenv.locals
      rw [hL]; exact Nat.ne_of_lt (hfp b hb).2
    · exact (hfp b hb).1.2.2.2.2.1 y c (cm e).1 z
    · rcases (hfp b hb).1.2.2.2.1 with z | z
      · exact I.ok.noex b o e z
      · exact absurd (Nat.lt_of_lt_of_le (Heap.lt_size e) (Nat.le_trans I.ok.bsz z)) (Nat.lt_irrefl _)
    · rcases List.mem_cons.mp (I.stkSub b z) with z | z
      · exact (hfp b hb).1.2.1 z
      · exact (hfp b hb).1.2.2.1 z
  refine ⟨okB, hos, hb, Un.kept hk, ⟨m0, by show s5.heap.Ns cenv.locals _; rw [hL]; exact hns, fun i y av e1 e2 e3 => ?_⟩, fun y c e => ?_, ?_, fun y c e => ?_, fun p hp => ?_, I.hok.kept hk, by rw [wipe_length]; exact I.len⟩
  · obtain ⟨e2, hne⟩ := wipe_some e2
    have hfr : scope.names.lookup y = some .free := by
      have e3 : Vis cenv.scope y := e3
      rw [hsc] at e3
      have noo : scope.names.lookup y ≠ some .local := fun e => by
        rcases ok.own _ (PySem.mem_of_lookup e) (.inl rfl) with e' | e'
        · obtain ⟨p, hp, hpy⟩ := List.mem_map.mp e'
          have e3 := ok.ix p hp
          have : p.1 = y := hpy
          rw [this] at e3
          exact hne (List.mem_map.mpr ⟨p, hp, nodup_ix hN e3 e1⟩)
        · exact e' (List.mem_of_getElem? e1)
      rcases e3 with e3 | e3 | e3
      · exact absurd e3 noo
      · exact absurd e3 nocell
      · exact e3
    obtain ⟨m, hn, hl⟩ := I.loc
    have hvis : Vis X.env.scope y := (ok.free _ (PySem.mem_of_lookup hfr) rfl).elim (fun k => .inr (.inl k)) (fun k => .inr (.inr k))
    obtain ⟨w, r, q⟩ := hl i y av e1 e2 hvis
    obtain ⟨c, h1, h2⟩ := look hfr
    refine ⟨w, r, .inr ⟨.inr ?_, c, h1, ?_⟩⟩
    · show cenv.scope.names.lookup y = _
      rw [hsc]; exact hfr
    · rcases q with ⟨k, _⟩ | ⟨_, c', e', z⟩
      · have k : X.env.scope.names.lookup y = some .local := k
        rcases ok.free _ (PySem.mem_of_lookup hfr) rfl with k' | k' <;> rw [show X.env.scope.names.lookup y = _ from k'] at k <;> cases k
      · rw [h2] at e'; cases e'
        exact z.keeps hk
  · obtain ⟨w, z⟩ := I.cell y c (cm e).1
    exact ⟨w, z.keeps hk⟩
  · show H cenv.locals = none
    rw [hL]; exact I.hok.fresh (Nat.le_refl _)
  · exact I.freeC y c (cm e).1
  · have hp' : p = (s.heap.objs.size + 1, go) := by simpa using hp
    subst hp'
    refine ⟨hgo, I.hok.fresh (Nat.le_succ _), ?_, fun z => ?_, hgd⟩
    · show s.heap.objs.size + 1 ≠ cenv.locals
      rw [hL]; exact Nat.succ_ne_self _
    · have := inStk _ z
      exact absurd (Nat.lt_of_succ_lt this) (Nat.lt_irrefl _)
end

/-! ### the turns -/
section
variable {α : Type}
def Rx (X' : Cx) (σw : L2.St) (G : α → List (Addr × Obj) → Prop) (fin : α → Hp → Prop) : GenEnd := fun _ s₀ r s => r = .ok .next ∧ ∃ a ps H, (∀ p ∈ ps, s₀.heap.get? p.1 = some p.2) ∧ G a ps ∧ Inv X' ps σw H s ∧ fin a H
def Yx (X' : Cx) (σw : L2.St) (fp : List Addr) (tn : Nat → Heap → Prop) (G : α → List (Addr × Obj) → Prop) (out : α → V → Hp → (α → Hp → Prop) → Prop) : Protocol := fun _ s₀ v s kap =>
  ∃ a ps y H Nx j, (∀ p ∈ ps, s₀.heap.get? p.1 = some p.2) ∧ G a ps ∧ RelV y v ∧ Inv X' ps σw H s ∧ tn j s.heap ∧ (∀ b ∈ fp, H b = none) ∧ out a y H Nx ∧
    ∀ a' ps' s'', G a' ps' → Inv X' ps' σw H s'' → tn j s''.heap → Nx a' H → kap (.send .none) s''
/-- the word of the turns -/
def TurnsG (J : It) (g : TG) (tt : TT) (te : TE) (σ : L2.St) (vs : List Nat) (out : α → V → Hp → (α → Hp → Prop) → Prop) (fin : α → Hp → Prop) (W : Nat → Nat → α → Hp → Prop) : Prop :=
  ∀ i m a H, W i m a H → (J.stop i H ∧ fin a H) ∨ (J.go i H ∧ ∃ Nx : α → Hp → Prop, (∀ a' H', Nx a' H' → ∃ m', m' < m ∧ W (i + 1) m' a' H') ∧ ∀ x H', J.yld i H x H' → g x (wipe σ vs) H' fun σ2 H2 => wipe σ2 vs = wipe σ vs ∧ tt σ2 H2 fun b H3 =>
    if b = true then te σ2 H3 fun y H4 => out a y H4 Nx else Nx a H3)

theorem seg_loop {X' : Cx} {Aw : Around} {elt tg iter : Expr} {ifs : List Expr} {scope : Scope} {pos : Pos} {it : Addr} {fp : List Addr} {tn : Nat → Heap → Prop} {J : It} {g : TG} {tt : TT} {te : TE} {σ : L2.St} {vs : List Nat}
    {G : α → List (Addr × Obj) → Prop} {out : α → V → Hp → (α → Hp → Prop) → Prop} {fin : α → Hp → Prop} {W : Nat → Nat → α → Hp → Prop}
    (T : Turn X'.prog X'.w X'.K tg J fp it tn) (hA : Aw.over (.compLoop (.GeneratorExp elt [⟨tg, iter, ifs, 0⟩] scope pos) 0 (.ref it) .none X'.env) [] = X'.A)
    (hg : PG X' tg g) (ht : PTs X' ifs tt) (he : PE X' elt te) (hc : X'.calm = true) (hxe : X'.xe = fun _ _ => False) (hex : X'.ex = fp) (hco : X'.env.scope.isCoroutine = false)
    (hpn : ∀ p ∈ X'.pn, ∀ b ∈ fp, p.1 ≠ b) (hG : ∀ a ps, G a ps → ∀ p ∈ ps, ∀ b ∈ fp, p.1 ≠ b) (hW : TurnsG J g tt te σ vs out fin W) :
    ∀ (m n i : Nat) (a : α) (ps : List (Addr × Obj)) (s₀ s : Shared) (H : Hp), m + 1 ≤ n → (∀ p ∈ ps, s₀.heap.get? p.1 = some p.2) → G a ps → W i m a H → Inv X' ps (wipe σ vs) H s → tn i s.heap → (∀ b ∈ fp, H b = none) →
      Seg (model X'.prog X'.w) Aw (Rx X' (wipe σ vs) G fin) (Yx X' (wipe σ vs) fp tn G out) n s₀ (.compLoop (.GeneratorExp elt [⟨tg, iter, ifs, 0⟩] scope pos) 0 (.ref it) .none X'.env)
        ((model X'.prog X'.w).den (.compLoop (.GeneratorExp elt [⟨tg, iter, ifs, 0⟩] scope pos) 0 (.ref it) .none X'.env)) [] s := by
  intro m
  induction m using Nat.strongRecOn with
  | ind m ih =>
    intro n i a ps s₀ s H hmn hz hGa w I st hf
    have stat : ∀ {ps' : List (Addr × Obj)} {a' : α} {σ' : L2.St} {H' : Hp} {s' : Shared}, G a' ps' → Inv X' ps' σ' H' s' → (∀ b ∈ fp, H' b = none) → ∀ b ∈ fp, FpOk X' ps' H' b := fun {ps' a' σ' H' s'} hG' I' hn b hb => by
      have hb' : b ∈ X'.ex := by rw [hex]; exact hb
      refine ⟨hn b hb, (I'.ok.exf b hb').1, I'.ok.exfs b hb', .inl hb', fun x c e => (I'.ok.exf b hb').2 x c e, fun p hp => ?_⟩
      rcases List.mem_append.mp hp with hp | hp
      · exact hpn p hp b hb
      · exact hG _ _ hG' p hp b hb
    show Seg _ Aw _ _ n s₀ _ ((compTurn (.GeneratorExp elt [⟨tg, iter, ifs, 0⟩] scope pos) 0 (.ref it) .none X'.env).onRaise (leaving X'.env)) [] s
    rw [compTurn_gen, Sem.onRaise_eq_wrap]
    refine seg_bind_wrap (wpAny_standAt ?_)
    have up : ∀ {β : Type} {t : Sem β} {Q Q' : β → Shared → Prop} {E' : Value → Shared → Prop} {s : Shared}, wpAny (model X'.prog X'.w) X'.A t Q (fun _ _ => False) s → (∀ x s, Q x s → Q' x s) → wpAny (model X'.prog X'.w) (Aw.over (.compLoop (.GeneratorExp elt [⟨tg, iter, ifs, 0⟩] scope pos) 0 (.ref it) .none X'.env) []) t Q' E' s :=
      fun h hQ => by rw [hA]; exact wpAny_mono h hQ fun _ _ z => False.elim z
    rcases hW i m a H w with ⟨stop, hfin⟩ | ⟨go, Nx, hNx, step⟩
    · refine seg_bind_wrap (up (T.done X' rfl rfl rfl hc i ps s _ H (fun _ _ => False) I (stat hGa I hf) st stop) fun r s1 ⟨hr, I1⟩ => ?_)
      subst hr
      exact seg_end (.ok .next) ⟨rfl, a, ps, H, hz, hGa, I1, hfin⟩
    · refine seg_bind_wrap (up (T.item X' rfl rfl rfl hc i ps s _ H (fun _ _ => False) I (stat hGa I hf) st go) fun r s1 ⟨u, hr, h1⟩ => ?_)
      subst hr
      refine seg_bind_wrap (up h1 fun _ s2 ⟨x, H2, I2, r2, y2, st2, f2⟩ => ?_)
      have I2' := I2.pinned (stat hGa I2 f2) (T.obj _ _ st2)
      have step := step x H2 y2
      have hxe' : ∀ {β : Type} {t : Sem β} {Q : β → Shared → Prop} {s : Shared}, wpAny (model X'.prog X'.w) X'.A t Q X'.xe s → wpAny (model X'.prog X'.w) X'.A t Q (fun _ _ => False) s := fun h => by rw [hxe] at h; exact h
      refine seg_bind_wrap (up (hxe' (hg.run _ s2 _ H2 x u _ I2' r2 step)) fun _ s3 ⟨σ3, H3, I3, hw3, q3⟩ => ?_)
      refine seg_bind_wrap (up (hxe' (ht.run _ s3 σ3 H3 _ I3 q3)) fun b s4 ⟨H4, I4, q4⟩ => ?_)
      have back : ∀ {s' : Shared} {H' : Hp}, Inv X' (ps ++ pinsAt fp s2.heap) σ3 H' s' → Inv X' ps (wipe σ vs) H' s' ∧ tn (i + 1) s'.heap ∧ ∀ b ∈ fp, H' b = none := fun {s' H'} I' => by
        have pin' : ∀ b ∈ fp, ∀ o, s2.heap.get? b = some o → s'.heap.get? b = some o ∧ H' b = none := fun b hb o e =>
          let z := I'.pin (b, o) (List.mem_append_right _ (List.mem_append_right _ (mem_pinsAt hb e)))
          ⟨z.1, z.2.1⟩
        have hl : (wipe σ vs).length = σ3.length := by rw [← hw3, wipe_length]
        refine ⟨I'.unpinned.weak hl (fun j v e => ?_), T.keep _ _ _ st2 fun b hb o e => (pin' b hb o e).1, fun b hb => ?_⟩
        · rw [← hw3] at e
          exact (wipe_some e).1
        · obtain ⟨o, e, _⟩ := T.obj _ _ st2 b hb
          exact (pin' b hb o e).2
      cases b with
      | false =>
        simp only [Bool.false_eq_true, if_false] at q4 ⊢
        obtain ⟨m', hm, w'⟩ := hNx a H4 q4
        obtain ⟨I5, st5, f5⟩ := back I4
        exact seg_again rfl (ih m' hm n (i + 1) a ps s₀ s4 H4 (by omega) hz hGa w' I5 st5 f5)
      | true =>
        simp only [if_true] at q4 ⊢
        have hy : ∀ v, yieldOut X'.env v = yieldValue v := fun v => by simp only [yieldOut, hco, Bool.false_eq_true, if_false]
        simp only [hy]
        rw [Sem.bind_eq_wrap', Sem.bind_eq_wrap', Sem.wrap_wrap, Sem.wrap_wrap]
        refine seg_wrap (up (hxe' (he.run _ s4 σ3 H4 _ I4 q4)) fun yv s5 ⟨y, H5, I5, r5, q5⟩ => ?_)
        obtain ⟨n, rfl⟩ : ∃ n', n = n' + 1 := ⟨n - 1, by omega⟩
        obtain ⟨I6, st6, f6⟩ := back I5
        refine seg_at (seg_yield rfl rfl rfl ⟨a, ps, y, H5, Nx, i + 1, hz, hGa, r5, I6, st6, f6, q5, fun a' ps' s'' hGa' I'' st'' nx => ?_⟩)
        obtain ⟨m', hm, w'⟩ := hNx a' H5 nx
        exact seg_again rfl (ih m' hm n (i + 1) a' ps' s'' s'' H5 (by omega) (fun p hp => (I''.pin p (List.mem_append_right _ hp)).1) hGa' w' I'' st'' f6)
end
end Gx
end
section
set_option Elab.async false
set_option linter.all false
set_option maxRecDepth 100000
set_option maxHeartbeats 4000000
namespace Gx
open PySem PySem.Spec PyProof.Rows L2 GxR GenW

section
variable {α : Type}
abbrev GE (elt tg iter : Expr) (ifs : List Expr) (scope : Scope) (pos : Pos) : Expr := .GeneratorExp elt [⟨tg, iter, ifs, 0⟩] scope pos

theorem inv_gens {X : Cx} {pins : List (Addr × Obj)} {σ : L2.St} {H : Hp} {s : Shared} {g' : Array GenState} {t' : Nat} {d' : Drawn} (I : Inv X pins σ H s) (hb : AllBare g') : Inv X pins σ H { s with gens := g', toks := t', drawn := d' } :=
  ⟨I.ok, I.os, hb, I.base, I.loc, I.cell, I.free, I.freeC, I.pin, I.hok, I.len⟩

theorem seg_begin {X' : Cx} {Aw : Around} {elt tg iter : Expr} {ifs : List Expr} {scope : Scope} {pos : Pos} {it : Addr} {fp : List Addr} {tn : Nat → Heap → Prop} {J : It} {R : GenEnd} {Y : Protocol} {n : Nat} {s₀ s : Shared}
    (T : Turn X'.prog X'.w X'.K tg J fp it tn) (st : tn 0 s.heap)
    (h : Seg (model X'.prog X'.w) Aw R Y n s₀ (.compLoop (GE elt tg iter ifs scope pos) 0 (.ref it) .none X'.env) ((model X'.prog X'.w).den (.compLoop (GE elt tg iter ifs scope pos) 0 (.ref it) .none X'.env)) [] s) :
    Seg (model X'.prog X'.w) Aw R Y n s₀ (.compStart (GE elt tg iter ifs scope pos) 0 (.ref it) .none X'.env) ((model X'.prog X'.w).den (.compStart (GE elt tg iter ifs scope pos) 0 (.ref it) .none X'.env)) [] s := by
  show Seg _ Aw _ _ _ s₀ _ ((compStart (.GeneratorExp elt [⟨tg, iter, ifs, 0⟩] scope pos) 0 (.ref it) .none X'.env).onRaise (leaving X'.env)) [] s
  unfold compStart
  rw [Sem.onRaise_eq_wrap]
  show Seg _ Aw _ _ _ s₀ _ ((ask >>= _).wrap _ _ _ _) [] s
  refine seg_bind_wrap (wpAny_askSetting ?_)
  split
  · exact seg_again rfl h
  · first
      | exact seg_bind_wrap (wpAny_rule (seg_bind_wrap (wpAny_standAt (seg_bind_wrap (T.self _ 0 s _ _ st (seg_again rfl h))))))
      | (refine seg_bind_wrap (wpAny_rule ?_); show Seg _ Aw _ _ _ s₀ _ ((standAt iter.pos >>= _).wrap _ _ _ _) [] s; exact seg_bind_wrap (wpAny_standAt (seg_bind_wrap (T.self _ 0 s _ _ st (seg_again rfl h)))))

/-- the generator's data -/
structure GD (α : Type) where
  X : Cx
  Aw : Around
  σw : L2.St
  fp : List Addr
  tn : Nat → Heap → Prop
  G : α → List (Addr × Obj) → Prop
  out : α → V → Hp → (α → Hp → Prop) → Prop
  fin : α → Hp → Prop
  a : Addr
  g : Nat
/-- it sleeps, ready to be woken; what it asks of the state -/
def GD.Sleeps (D : GD α) (n : Nat) (gs : GenState) (H : Hp) (j : Nat) (N : α → Prop) : Prop :=
  ∀ al ps s'', N al → D.G al ps → Inv D.X ps D.σw H s'' → D.tn j s''.heap → gs.Goes (model D.X.prog D.X.w) D.Aw (Rx D.X D.σw D.G D.fin) (Yx D.X D.σw D.fp D.tn D.G D.out) n (.send .none) s''
/-- the state between two pulls -/
def GD.At (D : GD α) (n : Nat) (al : α) (ps : List (Addr × Obj)) (s : Shared) : Prop :=
  ∃ gs H j, s.gens[D.g]? = some gs ∧ D.G al ps ∧ Inv D.X ps D.σw H s ∧ D.tn j s.heap ∧ D.Sleeps n gs H j (fun b => b = al)
/-- the generator's own object is pinned -/
def GD.Pinned (D : GD α) : Prop := ∀ ps H s, Inv D.X ps D.σw H s → s.heap.IsGen D.a D.g

theorem pull {D : GD α} {A : Around} {E : Value → Shared → Prop} {Q : Option Value → Shared → Prop} {n : Nat} {al : α} {ps : List (Addr × Obj)} {s : Shared} (hAw : D.Aw = A.in1) (hh : A.handled = none) (hroom : A.depth < recursionLimit) (hP : D.Pinned)
    (h : D.At n al ps s)
    (hY : ∀ a1 ps1 y v H1 s1 (Nx : α → Hp → Prop), (∀ p ∈ ps1, s.heap.get? p.1 = some p.2) → D.G a1 ps1 → RelV y v → Inv D.X ps1 D.σw H1 s1 → D.out a1 y H1 Nx → (∀ a2 ps2 s2, Nx a2 H1 → D.G a2 ps2 → Inv D.X ps2 D.σw H1 s2 → s2.gens = s1.gens → (∀ b ∈ D.fp, ∀ o, s1.heap.get? b = some o → s2.heap.get? b = some o) → ∃ n', n' < n ∧ D.At n' a2 ps2 s2) → Q (some v) s1)
    (hR : ∀ a1 ps1 H1 s1, (∀ p ∈ ps1, s.heap.get? p.1 = some p.2) → D.G a1 ps1 → Inv D.X ps1 D.σw H1 s1 → D.fin a1 H1 → Q none s1)
    (hk : ∀ i h h', D.tn i h → (∀ b ∈ D.fp, ∀ o, h.get? b = some o → h'.get? b = some o) → D.tn i h') :
    wpAny (model D.X.prog D.X.w) A (pyNext (.ref D.a)) Q E s := by
  obtain ⟨gs, H, j, hgs, hG, I, st, sl⟩ := h
  have hlt : D.g < s.gens.size := by
    rcases Nat.lt_or_ge D.g s.gens.size with z | z
    · exact z
    · rw [Array.getElem?_eq_none z] at hgs; cases hgs
  have hbare : ∀ {s1 : Shared} {gs' : GenState}, AllBare s1.gens → gs'.bare = true → AllBare (s1.setGen D.g gs').gens := fun h1 h2 => allBare_setGen h1 h2
  refine wpAny_gsz (n := s.gens.size) (Nat.le_refl _) ?_
  refine wpAny_pyNext_genexpQ (P := fun _ s₀ s => ∃ a ps H, (∀ p ∈ ps, s₀.heap.get? p.1 = some p.2) ∧ D.G a ps ∧ Inv D.X ps D.σw H s ∧ D.fin a H) (Y := Yx D.X D.σw D.fp D.tn D.G D.out) (n := n) hh I.nolimit hroom (hP _ _ _ I) hgs ?_ (fun v s1 gs' hb hv => ?_) (fun s1 hp h' hk' => ?_)
  · rw [← hAw]
    exact sl al ps _ rfl hG (inv_gens (t' := s.toks) (d' := s.drawn) I (hbare I.bare rfl)) st
  · obtain ⟨a1, ps1, y, H1, Nx, j1, hz1, hG1, ry, I1, st1, _, ho, kap⟩ := hv
    intro hsz
    have I1' : Inv D.X ps1 D.σw H1 (s1.setGen D.g gs') := inv_gens (t' := s1.toks) (d' := s1.drawn) I1 (hbare I1.bare hb)
    refine hY a1 ps1 y v H1 _ Nx hz1 hG1 ry I1' ho fun a2 ps2 s2 nx hG2 I2 hgens hkeep => ?_
    cases n with
    | zero =>
      exact False.elim (kap a2 ps2 s2 hG2 I2 (hk _ _ _ st1 hkeep) nx)
    | succ m =>
      refine ⟨m, Nat.lt_succ_self m, gs', H1, j1, ?_, hG2, I2, hk _ _ _ st1 hkeep, fun al3 ps3 s3 e3 hG3 I3 st3 => ?_⟩
      · rw [hgens]
        refine setGen_at ?_
        have q : (s1.setGen D.g gs').gens.size = s1.gens.size := setGen_size _ _ _
        have hsz' : s.gens.size ≤ (s1.setGen D.g gs').gens.size := hsz
        omega
      · subst e3
        have := kap al3 ps3 s3 hG3 I3 st3 nx
        rw [hAw]
        exact this
  · intro _
    obtain ⟨a1, ps1, H1, hz1, hG1, I1, hf⟩ := hp
    have I2 : Inv D.X ps1 D.σw H1 { s1 with heap := h' } := I1.kept (t' := s1.toks) hk'
    exact hR a1 ps1 H1 _ hz1 hG1 (inv_gens (t' := s1.toks) (d' := s1.drawn) I2 (hbare I1.bare rfl)) hf
end

/-! ### all, any -/
section
variable {D : GD Unit} {A : Around} {R : Result → Shared → Prop}
theorem all_loop (Qb : Bool → Hp → Prop) (hAw : D.Aw = A.in1.in1) (hh : A.handled = none) (hroom : A.depth < recursionLimit) (hP : D.Pinned)
    (hk : ∀ i h h', D.tn i h → (∀ b ∈ D.fp, ∀ o, h.get? b = some o → h'.get? b = some o) → D.tn i h')
    (ho : ∀ a y H Nx, D.out a y H Nx → ∃ k, y = .bl k ∧ if k = true then Nx () H else Qb false H) (hf : ∀ a H, D.fin a H → Qb true H) (hG : ∀ a ps, D.G a ps ↔ ps = [])
    (hR : ∀ b H s', Inv D.X [] D.σw H s' → Qb b H → R (.ok (.ret (.bool b))) s') :
    ∀ (n : Nat) (s : Shared), D.At n () [] s → codeAny (model D.X.prog D.X.w) A (.builtin "all.loop" ⟨[.ref D.a], []⟩) R s := by
  intro n
  induction n using Nat.strongRecOn with
  | ind n ih =>
    intro s hs
    refine codeAny_builtin F.entry_all_loop ?_
    rw [Around.under_plainId F.plain_all_loop _]
    show wpAny _ A.in1 (pyNext (.ref D.a) >>= _) _ _ s
    refine wpAny_bind (pull hAw hh hroom hP hs (fun a1 ps1 y v H1 s1 Nx hz1 hG1 ry I1 o1 kap => ?_) (fun a1 ps1 H1 s1 hz1 hG1 I1 f1 => ?_) hk)
    · obtain ⟨k, rfl, o2⟩ := ho _ _ _ _ o1
      obtain rfl : v = Value.bool k := ry
      obtain rfl := (hG _ _).mp hG1
      refine wpAny_bind (wpAny_holding (wpAny_truthy_bool ?_))
      refine wpAny_bind (wpAny_letGo ?_)
      cases k with
      | true =>
        simp only [if_true] at o2 ⊢
        obtain ⟨n', hn, hs'⟩ := kap () [] s1 o2 hG1 I1 rfl fun b _ o e => e
        exact wpAny_pure ⟨plainId_quiet F.plain_all_loop _, ih n' hn s1 hs'⟩
      | false =>
        simp only [Bool.false_eq_true, if_false] at o2 ⊢
        exact wpAny_bind (wpAny_rule (wpAny_pure (hR false H1 s1 I1 o2)))
    · obtain rfl := (hG _ _).mp hG1
      exact wpAny_bind (wpAny_rule (wpAny_pure (hR true H1 s1 I1 (hf _ _ f1))))
theorem any_loop (Qb : Bool → Hp → Prop) (hAw : D.Aw = A.in1.in1) (hh : A.handled = none) (hroom : A.depth < recursionLimit) (hP : D.Pinned)
    (hk : ∀ i h h', D.tn i h → (∀ b ∈ D.fp, ∀ o, h.get? b = some o → h'.get? b = some o) → D.tn i h')
    (ho : ∀ a y H Nx, D.out a y H Nx → ∃ k, y = .bl k ∧ if k = true then Qb true H else Nx () H) (hf : ∀ a H, D.fin a H → Qb false H) (hG : ∀ a ps, D.G a ps ↔ ps = [])
    (hR : ∀ b H s', Inv D.X [] D.σw H s' → Qb b H → R (.ok (.ret (.bool b))) s') :
    ∀ (n : Nat) (s : Shared), D.At n () [] s → codeAny (model D.X.prog D.X.w) A (.builtin "any.loop" ⟨[.ref D.a], []⟩) R s := by
  intro n
  induction n using Nat.strongRecOn with
  | ind n ih =>
    intro s hs
    refine codeAny_builtin F.entry_any_loop ?_
    rw [Around.under_plainId F.plain_any_loop _]
    show wpAny _ A.in1 (pyNext (.ref D.a) >>= _) _ _ s
    refine wpAny_bind (pull hAw hh hroom hP hs (fun a1 ps1 y v H1 s1 Nx hz1 hG1 ry I1 o1 kap => ?_) (fun a1 ps1 H1 s1 hz1 hG1 I1 f1 => ?_) hk)
    · obtain ⟨k, rfl, o2⟩ := ho _ _ _ _ o1
      obtain rfl : v = Value.bool k := ry
      obtain rfl := (hG _ _).mp hG1
      refine wpAny_bind (wpAny_holding (wpAny_truthy_bool ?_))
      refine wpAny_bind (wpAny_letGo ?_)
      cases k with
      | false =>
        simp only [Bool.false_eq_true, if_false] at o2 ⊢
        obtain ⟨n', hn, hs'⟩ := kap () [] s1 o2 hG1 I1 rfl fun b _ o e => e
        exact wpAny_pure ⟨plainId_quiet F.plain_any_loop _, ih n' hn s1 hs'⟩
      | true =>
        simp only [if_true] at o2 ⊢
        exact wpAny_bind (wpAny_rule (wpAny_pure (hR true H1 s1 I1 o2)))
    · obtain rfl := (hG _ _).mp hG1
      exact wpAny_bind (wpAny_rule (wpAny_pure (hR false H1 s1 I1 (hf _ _ f1))))
end

/-! ### sum -/
section
variable {D : GD Int} {A : Around} {R : Result → Shared → Prop}
theorem sum_loop (Qb : Int → Hp → Prop) (S : Addr) (hAw : D.Aw = A.in1.in1) (hh : A.handled = none) (hroom : A.depth < recursionLimit) (hP : D.Pinned)
    (hk : ∀ i h h', D.tn i h → (∀ b ∈ D.fp, ∀ o, h.get? b = some o → h'.get? b = some o) → D.tn i h')
    (ho : ∀ a y H Nx, D.out a y H Nx → ∃ k, y = .int k ∧ Nx (a + k) H) (hf : ∀ a H, D.fin a H → Qb a H)
    (hG : ∀ a ps, D.G a ps ↔ ∃ t c, ps = [(S, lstObj #[.int a t] c)])
    (hS1 : D.X.s_0.heap.objs.size ≤ S) (hS2 : S ≠ D.X.env.locals) (hS3 : ∀ x c, D.X.env.cells.lookup x = some c → c ≠ S) (hS4 : ∀ p ∈ D.X.pn, p.1 ≠ S) (hS5 : S ∉ D.fp)
    (hR : ∀ b t ps H s', Inv D.X ps D.σw H s' → Qb b H → R (.ok (.ret (.int b t))) s') :
    ∀ (n : Nat) (s : Shared) (al : Int) (ps : List (Addr × Obj)) (st : Int), (st = 0 ∨ st = 2) → D.At n al ps s → codeAny (model D.X.prog D.X.w) A (.builtin "sum.loop" ⟨[.ref D.a, .ref S, rawInt st, rawInt 0], []⟩) R s := by
  have grow : ∀ {ps : List (Addr × Obj)} {a b : Int} {H : Hp} {s : Shared} {t tk : Nat} {h' : Heap} {c : Nat}, D.G a ps → Inv D.X ps D.σw H s → (∀ b o, b ≠ S → s.heap.get? b = some o → h'.get? b = some o) → h'.get? S = some (lstObj #[.int b t] c) →
      Inv D.X [(S, lstObj #[.int b t] c)] D.σw H { s with heap := h', toks := tk } := fun {ps a b H s t tk h' c} hGa I hkp hnew => by
    obtain ⟨t0, c0, rfl⟩ := (hG _ _).mp hGa
    obtain ⟨eS, hS0, hSL, hSf, _⟩ := I.pin (S, lstObj #[.int a t0] c0) (List.mem_append_right _ List.mem_cons_self)
    have I0 : Inv D.X [] D.σw H s := I.pins_of fun p hp => absurd hp (by simp)
    have nc : ∀ b, b ∉ [S] → b ≠ S := fun b hb e => hb (by rw [e]; exact List.mem_singleton.mpr rfl)
    have nt : ∀ b u, H b = some u → b ≠ S := fun b u q hb => by
      rw [hb] at q
      rw [show H S = none from hS0] at q
      cases q
    have J : Inv D.X [] D.σw H { s with heap := h', gens := s.gens, drawn := s.drawn, toks := tk } := by
      refine I0.step (g' := s.gens) (t' := tk) (d' := s.drawn) (ch := [S]) (fun b hb => ?_)
        (fun b ob _ _ hc q _ => hkp b ob (nc b hc) q) (fun b ob _ _ hc q _ => ⟨ob.slots, hkp b ob (nc b hc) q⟩) (fun _ _ _ _ n => n) (fun b ob hc q => ⟨ob, hkp b ob (nc b hc) q⟩)
        (fun _ _ q => q) (fun _ _ _ q => q) (fun b ps q => ⟨#[], by rw [q]; simp⟩) (fun m hm => ?_) (fun b u q => ?_) I.bare
      · rw [List.mem_singleton.mp hb]
        refine ⟨.inr hS1, hS2, hS3, fun p hp => ?_⟩
        rcases List.mem_append.mp hp with hp | hp
        · exact hS4 p hp
        · exact absurd hp (by simp)
      · obtain ⟨ob, es, ep, ho, r⟩ := hm
        exact ⟨ob, es, ep, hkp _ ob (Ne.symm hSL) ho, r⟩
      · refine (I0.hok b u q).stay (fun c v hc y => hkp c v ?_ y) (fun _ y => y) fun _ _ y => y
        rcases hc with y | y
        · rw [y]; exact nt b u q
        · exact nt c _ y
    refine J.pins_of fun p hp => ?_
    have e : p = (S, lstObj #[.int b t] c) := by simpa using hp
    subst e
    exact ⟨hnew, hS0, hSL, hSf, fun v q => by cases q⟩
  intro n
  induction n using Nat.strongRecOn with
  | ind n ih =>
    intro s al ps st hst hs
    obtain ⟨_, _, _, _, hGa, I, _, _⟩ := id hs
    obtain ⟨t0, c0, e0⟩ := (hG _ _).mp hGa
    have hS : s.heap.get? S = some (lstObj #[.int al t0] c0) := (I.pin (S, lstObj #[.int al t0] c0) (List.mem_append_right _ (by rw [e0]; exact List.mem_cons_self))).1
    refine codeAny_builtin F.entry_sum_loop ?_
    rw [Around.under_plainId F.plain_sum_loop _]
    show wpAny _ A.in1 (seqItems? (.ref S) >>= _) _ _ s
    refine wpAny_bind (wpAny_seqItems hS rfl ?_)
    show wpAny _ A.in1 (tryCatch (pyNext (.ref D.a)) _ >>= _) _ _ s
    refine wpAny_bind (wpAny_tryCatch (pull hAw hh hroom hP hs (fun a1 ps1 y v H1 s1 Nx hz1 hG1 ry I1 o1 kap => ?_) (fun a1 ps1 H1 s1 hz1 hG1 I1 f1 => ?_) hk))
    · obtain ⟨k, rfl, o2⟩ := ho _ _ _ _ o1
      obtain ⟨t, rfl⟩ := ry
      obtain ⟨t1, c1, e1⟩ := (hG _ _).mp hG1
      have q := hz1 (S, lstObj #[.int a1 t1] c1) (by rw [e1]; exact List.mem_cons_self)
      rw [show s.heap.get? S = some (lstObj #[.int al t0] c0) from hS] at q
      have q1 : (#[Value.int al t0] : Array Value) = #[Value.int a1 t1] ∧ c0 = c1 := by
        have := congrArg Obj.data (Option.some.inj q)
        injection this with x1 x2
        exact ⟨x1, x2⟩
      obtain ⟨q1, q2⟩ := q1
      have q3 : Value.int al t0 = Value.int a1 t1 := by
        have := congrArg Array.toList q1
        simpa using this
      injection q3 with q4 q5
      subst q4 q5 q2
      have hS' : s1.heap.get? S = some (lstObj #[.int al t0] c0) := (I1.pin (S, lstObj #[.int al t0] c0) (List.mem_append_right _ (by rw [e1]; exact List.mem_cons_self))).1
      have again : ∀ {h' : Heap} {tk tA c' : Nat} {st' : Int}, (st' = 0 ∨ st' = 2) → (∀ b o, b ≠ S → s1.heap.get? b = some o → h'.get? b = some o) → h'.get? S = some (lstObj #[.int (al + k) tA] c') →
          codeAny (model D.X.prog D.X.w) A (.builtin "sum.loop" ⟨[.ref D.a, .ref S, rawInt st', rawInt 0], []⟩) R { s1 with heap := h', toks := tk } := fun {h' tk tA c' st'} hst' hkp hnew => by
        have hG2 : D.G (al + k) [(S, lstObj #[.int (al + k) tA] c')] := (hG _ _).mpr ⟨_, _, rfl⟩
        obtain ⟨n', hn, hs'⟩ := kap (al + k) _ { s1 with heap := h', toks := tk } o2 hG2 (grow hG1 I1 hkp hnew) rfl fun b hb o e => hkp b o (fun z => hS5 (z ▸ hb)) e
        exact ih n' hn _ _ _ _ hst' hs'
      rcases hst with rfl | rfl
      · show wpAny _ A.in1 (if (_ : Bool) = true then (mkInt (al + k) >>= _) else _) _ _ _
        split
        · refine wpAny_bind (wpAny_mkInt ?_)
          show wpAny _ A.in1 (updateSeq S (fun _ => #[.int (al + k) s1.toks]) >>= _) _ _ _
          refine wpAny_bind ?_
          refine wpAny_updateSeq hS' rfl (wpAny_pure ⟨plainId_quiet F.plain_sum_loop _, again (tA := s1.toks) (.inl rfl) (fun b o hb e => (Heap.get?_update_other _ _ (Ne.symm hb)).trans e) (Heap.get?_update_self _ hS' rfl)⟩)
        · refine wpAny_bind (wpAny_rule ?_)
          refine wpAny_bind (wpAny_attempt (wpAny_holding (wpAny_add_int ?_)))
          show wpAny _ A.in1 (updateSeq S (fun _ => #[.int (al + k) s1.toks]) >>= _) _ _ _
          refine wpAny_bind (wpAny_updateSeq hS' rfl ?_)
          have hS₂ := Heap.get?_update_self (Obj.mapSeq fun _ => #[Value.int (al + k) s1.toks]) hS' rfl
          refine wpAny_bind (wpAny_letGo ?_)
          refine wpAny_bind (wpAny_updateSeq hS₂ rfl (wpAny_pure ⟨plainId_quiet F.plain_sum_loop _, again (tA := s1.toks) (.inr rfl) (fun b o hb e => (Heap.get?_update_other _ _ (Ne.symm hb)).trans ((Heap.get?_update_other _ _ (Ne.symm hb)).trans e)) (Heap.get?_update_self _ hS₂ rfl)⟩))
      · show wpAny _ A.in1 ((holding [Value.int k t] (binaryOp .Add (.int al t0) (.int k t))).attempt >>= _) _ _ _
        refine wpAny_bind (wpAny_attempt (wpAny_holding (wpAny_add_int ?_)))
        show wpAny _ A.in1 (updateSeq S (fun _ => #[.int (al + k) s1.toks]) >>= _) _ _ _
        refine wpAny_bind (wpAny_updateSeq hS' rfl ?_)
        have hS₂ := Heap.get?_update_self (Obj.mapSeq fun _ => #[Value.int (al + k) s1.toks]) hS' rfl
        refine wpAny_bind (wpAny_letGo ?_)
        refine wpAny_bind (wpAny_updateSeq hS₂ rfl (wpAny_pure ⟨plainId_quiet F.plain_sum_loop _, again (tA := s1.toks) (.inr rfl) (fun b o hb e => (Heap.get?_update_other _ _ (Ne.symm hb)).trans ((Heap.get?_update_other _ _ (Ne.symm hb)).trans e)) (Heap.get?_update_self _ hS₂ rfl)⟩))
    · obtain ⟨t1, c1, e1⟩ := (hG _ _).mp hG1
      have q := hz1 (S, lstObj #[.int a1 t1] c1) (by rw [e1]; exact List.mem_cons_self)
      rw [show s.heap.get? S = some (lstObj #[.int al t0] c0) from hS] at q
      have q3 : Value.int al t0 = Value.int a1 t1 := by
        have := congrArg Obj.data (Option.some.inj q)
        injection this with x1 x2
        have := congrArg Array.toList x1
        simpa using this
      injection q3 with q4 q5
      subst q4
      exact wpAny_pure (hR al t0 ps1 H1 s1 I1 (hf _ _ f1))
end
end Gx
end
section
set_option Elab.async false
set_option linter.all false
set_option maxRecDepth 100000
set_option maxHeartbeats 4000000
namespace Gx
open PySem PySem.Spec PyProof.Rows L2 GxR GenW

section
variable {α : Type}
/-- a generator has been made and not begun -/
structure Made (X : Cx) (pins : List (Addr × Obj)) (σ : L2.St) (out : α → V → Hp → (α → Hp → Prop) → Prop) (fin : α → Hp → Prop) (a0 : α) (X' : Cx) (Aw : Around) (σw : L2.St) (fp : List Addr) (tn : Nat → Heap → Prop) (a : Addr) (g n : Nat) (s5 : Shared) : Prop where
  prog : X'.prog = X.prog
  w : X'.w = X.w
  gen : s5.heap.IsGen a g
  pinned : ∀ ps H s, Inv X' ps σw H s → s.heap.IsGen a g
  back : ∀ ps H s, Inv X' ps σw H s → Inv X pins σ H s
  old : X'.s_0.heap.objs.size ≤ s5.heap.objs.size ∧ X'.env.locals < s5.heap.objs.size ∧ (∀ x c, X'.env.cells.lookup x = some c → c < s5.heap.objs.size) ∧ (∀ p ∈ X'.pn, p.1 < s5.heap.objs.size) ∧ (∀ b ∈ fp, b < s5.heap.objs.size)
  keep : ∀ i h h', tn i h → (∀ b ∈ fp, ∀ o, h.get? b = some o → h'.get? b = some o) → tn i h'
  go : ∀ (G : α → List (Addr × Obj) → Prop), (∀ a ps, G a ps → ∀ p ∈ ps, ∀ b ∈ fp, p.1 ≠ b) → ∀ s6 ps, (∀ b o, s5.heap.get? b = some o → s6.heap.get? b = some o) → s6.gens = s5.gens → s6.os = s5.os → G a0 ps →
    (∀ p ∈ ps, s6.heap.get? p.1 = some p.2 ∧ s5.heap.objs.size ≤ p.1 ∧ ∀ v, p.2.data ≠ .cell v) → (GD.mk X' Aw σw fp tn G out fin a g).At n a0 ps s6
variable {X : Cx} {pins : List (Addr × Obj)} {σ : L2.St} {H : Hp} {s : Shared}

theorem gen_made {c P : Addr} {elt tg iter : Expr} {ifs : List Expr} {scope : Scope} {own : List (Str × Nat)} {gpos : Pos} {wi : TI} {g : TG} {tt : TT} {te : TE} {k : Nat} {Q' : Value → Shared → Prop} (a0 : α) (out : α → V → Hp → (α → Hp → Prop) → Prop) (fin : α → Hp → Prop)
    (hr : Room (k + 1) X.A) (hc : X.calm = true) (hN : X.N.Nodup) (TB : TabB X.base X.mg c P) (hcode : X.env.code = .ref c) (ok : BlkOk X.N X.env.scope scope own) (hnc : ∀ y ∈ scope.names, y.2 ≠ .cell) (hdot : scope.names.lookup (".0" : Str) = some NameKind.local) (hco : scope.isCoroutine = false)
    (hi : PI X tg iter wi)
    (hg : ∀ s H C code fp A' pn, Room k A' → PG (Cxg X s H (gEnv X scope C code) fp A' pn) tg g) (ht : ∀ s H C code fp A' pn, Room k A' → PTs (Cxg X s H (gEnv X scope C code) fp A' pn) ifs tt) (he : ∀ s H C code fp A' pn, Room k A' → PE (Cxg X s H (gEnv X scope C code) fp A' pn) elt te)
    (hs : ∀ v, genFold iter X.env v = pure v) (I : Inv X pins σ H s)
    (h : wi σ H fun J H1 => TabG H1 P ∧ ∀ H2, Tabbed P H1 H2 → ∃ W : Nat → Nat → α → Hp → Prop, (∃ m, W 0 m a0 H2) ∧ TurnsG J g tt te σ (own.map (·.2)) out fin W)
    (hQ : ∀ X' σw fp tn a g n s5, Made X pins σ out fin a0 X' X.A.in1.in1 σw fp tn a g n s5 → Q' (.ref a) s5) :
    wpAny (model X.prog X.w) X.A (eval (GE elt tg iter ifs scope gpos) X.env) Q' X.xe s := by
  have hfree : ∀ y ∈ scope.names, y.2 = .free → ∃ c, X.env.cells.lookup y.1 = some c := fun y hy e => by
    rcases ok.free y hy e with k | k
    · exact I.ok.has _ (.inl k)
    · exact I.ok.has _ (.inr k)
  refine wpAny_GeneratorExp_make hco (closure_ok hfree) hnc hdot ok.kind (by have := hr.dp; omega) ?_ hs
  refine thn (hi.run pins s σ H _ I h) fun xv s1 hx => thn hx fun itv s2 h2 => ?_
  obtain ⟨it, fp, tn, J, H2, e, I2, T, st2, f2, ⟨⟨ps, hP, ht3⟩, q⟩⟩ := h2
  subst e
  refine ⟨I2.nolimit, ?_⟩
  have hPs : s2.heap.get? P = some { cls := .none, data := .fields ps } := I2.hok P _ hP
  have cd : PySem.W.CodeHd s2.heap c P := TB.code.keeps fun b u e => I2.bk b u e
  have fpP : ∀ b ∈ fp, b ≠ P := fun b hb z => by
    have := (f2 b hb).1
    rw [z, hP] at this
    cases this
  have sz : ∀ b ∈ fp, b < s2.heap.objs.size := fun b hb => by
    obtain ⟨o, e, _⟩ := T.obj _ _ st2 b hb
    exact Heap.lt_size e
  have cont : ∀ (code : Value) (h3 : Heap) (tk : Nat) (ps' : Array Value), Heap.ExtBut P s2.heap h3 → s2.heap.objs.size ≤ h3.objs.size → h3.get? P = some { cls := .none, data := .fields ps' } → (∃ more, ps' = ps ++ more) → TriplesOk ps'.toList →
      wpAny (model X.prog X.w) X.A (builtinsFor X.env.globals X.env.builtins) (fun bi s₄ =>
        ∀ h', h'.Ns s₄.heap.objs.size (fun y => if y = ".0" then some (Value.ref it) else none) → Heap.SameBut s₄.heap.objs.size (s₄.heap.push { cls := .type "frame", data := .dict #[] }) h' →
          Q' (.ref h'.objs.size) { s₄ with
            gens := s₄.gens.push (.fresh (.compStart (GE elt tg iter ifs scope gpos) 0 (.ref it) .none (genEnv scope (cloFrom X.env.cells scope.names []) s₄.heap.objs.size code bi X.env))),
            toks := s₄.toks + 1 + 1 + 1,
            heap := h'.push { cls := .type "generator", data := .fields #[.int s₄.gens.size 0, .str "<genexpr>" (s₄.toks + 1), .str (X.env.qual ++ "<genexpr>") (s₄.toks + 1 + 1)] } }) X.xe { s2 with heap := h3, toks := tk } := by
    intro code h3 tk ps' hx hsz hP3 hmore htr
    obtain ⟨more, rfl⟩ := hmore
    obtain ⟨bm, ob, e1, e2, e3, e4, e5, e6, e7, e8⟩ := TB.bm
    have keep3 : ∀ b u, b ≠ P → s2.heap.get? b = some u → h3.get? b = some u := fun b u hb e => hx b u hb e
    refine wpAny_builtinsFor (m := X.mg) (by rw [I2.ok.glob]; exact (I2.mod.glob.keeps I2.bk).extBut hx TB.gP) e1 e2 (keep3 _ _ e4 (I2.bk _ _ e5)) e6 e7 e8 ?_
    have I4 := inv_tab (more := more) (h' := h3) (g' := s2.gens) (d' := s2.drawn) (t' := tk) I2 hP keep3 hP3 I2.bare
    have hTab : Tabbed P H2 (upd H2 P (.tbl (ps ++ more))) := ⟨⟨_, upd_same, htr⟩, fun b hb => upd_ne hb⟩
    generalize hH4 : upd H2 P (.tbl (ps ++ more)) = H4 at I4 hTab
    generalize hs4 : ({ s2 with heap := h3, gens := s2.gens, drawn := s2.drawn, toks := tk } : Shared) = s4 at I4
    intro h' hn' hs'
    have hh3 : s4.heap = h3 := by rw [← hs4]
    have hsz' : h'.objs.size = s4.heap.objs.size + 1 := by rw [hs'.1, Heap.size_push]
    have keep' : ∀ b o, s4.heap.get? b = some o → h'.get? b = some o := fun b o e => hs'.extBut b o (Nat.ne_of_lt (Heap.lt_size e)) (Heap.get?_push_of_some _ e)
    have f4 : ∀ b ∈ fp, FpOk X pins H4 b ∧ b < s4.heap.objs.size := fun b hb => by
      refine ⟨⟨?_, (f2 b hb).2⟩, ?_⟩
      · rw [← hH4, upd_ne (fpP b hb)]; exact (f2 b hb).1
      · rw [hh3]; exact Nat.lt_of_lt_of_le (sz b hb) hsz
    have st4 : tn 0 s4.heap := T.keep _ _ _ st2 fun b hb o e => by rw [hh3]; exact keep3 b o (fpP b hb) e
    obtain ⟨W, ⟨m0, w0⟩, tw⟩ := q H4 hTab
    generalize hgo : ({ cls := .type "generator", data := .fields #[.int s4.gens.size 0, .str "<genexpr>" (s4.toks + 1), .str (X.env.qual ++ "<genexpr>") (s4.toks + 1 + 1)] } : Obj) = go
    have hgd : ∀ v, go.data ≠ .cell v := fun v z => by rw [← hgo] at z; cases z
    have hgen : ∀ hh : Heap, hh.get? h'.objs.size = some go → hh.IsGen h'.objs.size s4.gens.size := fun hh e => ⟨go, _, _, e, by rw [← hgo], by rw [← hgo], by rw [← hgo]⟩
    generalize hs5 : ({ s4 with gens := s4.gens.push (.fresh (.compStart (GE elt tg iter ifs scope gpos) 0 (.ref it) .none (genEnv scope (cloFrom X.env.cells scope.names []) s4.heap.objs.size code builtinsNs X.env))), toks := s4.toks + 1 + 1 + 1, heap := h'.push go } : Shared) = s5
    have h5 : s5.heap = h'.push go := by rw [← hs5]
    have g5 : s5.gens = s4.gens.push (.fresh (.compStart (GE elt tg iter ifs scope gpos) 0 (.ref it) .none (gEnv X scope s4.heap.objs.size code))) := by rw [← hs5]
    have k5 : ∀ b o, s4.heap.get? b = some o → s5.heap.get? b = some o := fun b o e => by rw [h5]; exact Heap.get?_push_of_some _ (keep' b o e)
    have b5 : AllBare s5.gens := by rw [g5]; exact AllBare.push I4.bare rfl
    have o5 : s5.os = s4.os := by rw [← hs5]
    have n5 : s5.heap.Ns s4.heap.objs.size (fun y => if y = ".0" then some (Value.ref it) else none) := by rw [h5]; exact hn'.push _
    have go5 : s5.heap.get? (s4.heap.objs.size + 1) = some go := by rw [h5, ← hsz']; exact Heap.get?_push_size _ (by rw [← hgo]; rfl)
    have ge5 : s5.heap.get? h'.objs.size = some go := by rw [hsz']; exact go5
    -- the around of its turns
    generalize hA' : X.A.in1.in1.over (.compLoop (GE elt tg iter ifs scope gpos) 0 (.ref it) .none (gEnv X scope s4.heap.objs.size code)) [] = A'
    have frA : A'.frames = some (gEnv X scope s4.heap.objs.size code :: X.stack) := by
      rw [← hA']
      show pushEnvs [gEnv X scope s4.heap.objs.size code] (pushEnvs [] X.A.frames) = _
      rw [I4.ok.frames]
      rfl
    have hdA : A'.handled = none := by
      rw [← hA']
      exact hr.hd
    have rA : Room k A' := by
      rw [← hA']
      refine ⟨hr.hd, ?_, ?_⟩
      · have := hr.dp
        show X.A.depth + 0 + 1 + 3 * k + 5 < _
        omega
      · have := hr.un
        show X.A.units + 1 + 1 + 0 + 3 + 16 * k + 200 < _
        omega
    have mk : ∀ {s6 : Shared}, (∀ b o, s5.heap.get? b = some o → s6.heap.get? b = some o) → s6.gens = s5.gens → s6.os = s5.os →
        Inv (Cxg X s4 H4 (gEnv X scope s4.heap.objs.size code) fp A' [(s4.heap.objs.size + 1, go)]) [] (wipe σ (own.map (·.2))) H4 s6 := fun {s6} hk6 hg6 ho6 =>
      gen_start I4 ok hN hnc f4 frA (fun _ => hdA) (fun b o e => hk6 b o (k5 b o e)) (ho6.trans o5) (by rw [hg6]; exact b5) (Heap.Ns.keeps n5 hk6) (hk6 _ _ go5) hgd
    have sz5 : s5.heap.objs.size = s4.heap.objs.size + 2 := by rw [h5, Heap.size_push, hsz']
    have cellO : ∀ x c, (gEnv X scope s4.heap.objs.size code).cells.lookup x = some c → c < s4.heap.objs.size := fun x c e => by
      have I5 := mk (s6 := s5) (fun _ _ e => e) rfl rfl
      rcases cloFrom_mem (PySem.mem_of_lookup (show (cloFrom X.env.cells scope.names []).lookup x = some c from e)) with hm | ⟨h1, rfl⟩
      · cases hm
      · obtain ⟨c, hc⟩ := hfree _ h1 rfl
        rw [hc]
        obtain ⟨w, z⟩ := I4.cell _ _ hc
        exact z.lt
    refine hQ (Cxg X s4 H4 (gEnv X scope s4.heap.objs.size code) fp A' [(s4.heap.objs.size + 1, go)]) (wipe σ (own.map (·.2))) fp tn h'.objs.size s4.gens.size (m0 + 1) s5 ⟨rfl, rfl, hgen _ ge5, fun ps H s' I' => ?_, fun ps H s' I' => ?_, ⟨?_, ?_, fun x c e => ?_, fun p hp => ?_, fun b hb => ?_⟩, T.keep, fun G hG s6 ps hk6 hg6 ho6 hG0 hps => ?_⟩
    · have := (I'.pin (s4.heap.objs.size + 1, go) (List.mem_append_left _ (List.mem_singleton.mpr rfl))).1
      refine hgen _ ?_
      rw [hsz']
      exact this
    · exact I4.call' (ch := fp) I'.os I'.base I'.hok I'.bare fun b hb => ⟨(f4 b hb).1.2.2.2.1, (f4 b hb).1.2.1, (f4 b hb).1.2.2.2.2.1, (f4 b hb).1.2.2.2.2.2⟩
    · show s4.heap.objs.size ≤ _
      rw [sz5]; exact Nat.le_add_right _ _
    · show s4.heap.objs.size < _
      rw [sz5]; exact Nat.lt_add_of_pos_right (by decide)
    · rw [sz5]; exact Nat.lt_of_lt_of_le (cellO x c e) (Nat.le_add_right _ _)
    · have e : p = (s4.heap.objs.size + 1, go) := by simpa using hp
      rw [e, sz5]
      exact Nat.lt_succ_self _
    · rw [sz5]; exact Nat.lt_of_lt_of_le (f4 b hb).2 (Nat.le_add_right _ _)
    · have I6 := mk hk6 hg6 ho6
      have st6 : tn 0 s6.heap := T.keep _ _ _ st4 fun b _ o e => hk6 b o (k5 b o e)
      have young : ∀ p ∈ ps, s5.heap.objs.size ≤ p.1 := fun p hp => (hps p hp).2.1
      have I6p : Inv (Cxg X s4 H4 (gEnv X scope s4.heap.objs.size code) fp A' [(s4.heap.objs.size + 1, go)]) ps (wipe σ (own.map (·.2))) H4 s6 := I6.pins_of fun p hp => by
        obtain ⟨q1, q2, q3⟩ := hps p hp
        have q4 : s4.heap.objs.size + 2 ≤ p.1 := by rw [← sz5]; exact q2
        refine ⟨q1, I4.hok.fresh (Nat.le_trans (Nat.le_add_right _ 2) q4), Nat.ne_of_gt (Nat.lt_of_lt_of_le (Nat.lt_add_of_pos_right (by decide)) q4), fun z => ?_, q3⟩
        obtain ⟨_, o, ho, _⟩ := I4.stack.mem z
        exact absurd (Nat.lt_of_lt_of_le (Heap.lt_size ho) (Nat.le_trans (Nat.le_add_right _ 2) q4)) (Nat.lt_irrefl _)
      have fnone : ∀ b ∈ fp, H4 b = none := fun b hb => (f4 b hb).1.1
      refine ⟨_, H4, 0, by rw [hg6, g5]; exact Array.getElem?_push_size .., hG0, I6p, st6, fun al ps' s7 eal hG7 I7 st7 => ?_⟩
      subst eal
      refine ⟨rfl, seg_begin (X' := Cxg X s4 H4 (gEnv X scope s4.heap.objs.size code) fp A' [(s4.heap.objs.size + 1, go)]) T st7 ?_⟩
      refine seg_loop (X' := Cxg X s4 H4 (gEnv X scope s4.heap.objs.size code) fp A' [(s4.heap.objs.size + 1, go)]) T hA' (hg s4 H4 _ code fp A' _ rA) (ht s4 H4 _ code fp A' _ rA) (he s4 H4 _ code fp A' _ rA) hc rfl rfl hco
        (fun p hp b hb => ?_) hG tw m0 (m0 + 1) 0 al ps' s7 s7 H4 (Nat.le_refl _) (fun p hp => (I7.pin p (List.mem_append_right _ hp)).1) hG7 w0 I7 st7 fnone
      have e : p = (s4.heap.objs.size + 1, go) := by simpa using hp
      rw [e]
      exact Nat.ne_of_gt (Nat.lt_succ_of_lt (f4 b hb).2)
  cases hf : codeAmong gpos ps.toList with
  | none =>
    refine wpAny_genexprCodeX hcode (cd.code hPs ht3) (cd.tab hPs) hf fun c' h' tk hx hge hlt hco' _ htab' _ => ?_
    obtain ⟨o1, vs, f1, tf, fl, tg, inF, tx, tt, op, _, _, _, _, _, _, _, _, _, htr, _⟩ := hco'
    exact cont _ h' tk _ hx (Nat.le_trans hge (Nat.le_of_lt hlt)) htab'.2 ⟨_, rfl⟩ htr
  | some cv =>
    refine wpAny_genexprCode_hit hcode (cd.code hPs ht3) hf ?_
    exact cont cv s2.heap s2.toks ps (Heap.ExtBut.refl _ _) (Nat.le_refl _) hPs ⟨#[], by simp⟩ ht3
end
end Gx
end
section
set_option Elab.async false
set_option linter.all false
set_option maxRecDepth 100000
set_option maxHeartbeats 4000000
namespace Gx
open PySem PySem.Spec PyProof.Rows L2 GxR GenW

def tGen {α : Type} (P : Addr) (wi : TI) (g : TG) (tt : TT) (te : TE) (vs : List Nat) (a0 : α) (out : α → V → Hp → (α → Hp → Prop) → Prop) (fin : α → Hp → Prop) : L2.St → Hp → Prop := fun σ H =>
  wi σ H fun J H1 => TabG H1 P ∧ ∀ H2, Tabbed P H1 H2 → ∃ W : Nat → Nat → α → Hp → Prop, (∃ m, W 0 m a0 H2) ∧ TurnsG J g tt te σ vs out fin W
def outAll (Q : VK) : Unit → V → Hp → (Unit → Hp → Prop) → Prop := fun _ y H Nx => ∃ k, y = .bl k ∧ if k = true then Nx () H else Q (.bl false) H
def outAny (Q : VK) : Unit → V → Hp → (Unit → Hp → Prop) → Prop := fun _ y H Nx => ∃ k, y = .bl k ∧ if k = true then Q (.bl true) H else Nx () H
def outSum : Int → V → Hp → (Int → Hp → Prop) → Prop := fun a y H Nx => ∃ k, y = .int k ∧ Nx (a + k) H
def tAllG (P : Addr) (wi : TI) (g : TG) (tt : TT) (te : TE) (vs : List Nat) : TE := fun σ H Q => tGen P wi g tt te vs () (outAll Q) (fun _ H => Q (.bl true) H) σ H
def tAnyG (P : Addr) (wi : TI) (g : TG) (tt : TT) (te : TE) (vs : List Nat) : TE := fun σ H Q => tGen P wi g tt te vs () (outAny Q) (fun _ H => Q (.bl false) H) σ H
def tSumG (P : Addr) (wi : TI) (g : TG) (tt : TT) (te : TE) (vs : List Nat) : TE := fun σ H Q => tGen P wi g tt te vs (0 : Int) outSum (fun a H => Q (.int a) H) σ H

section
variable {X : Cx} {c P : Addr} {elt tg iter : Expr} {ifs : List Expr} {scope : Scope} {own : List (Str × Nat)} {gpos p pos : Pos} {wi : TI} {g : TG} {tt : TT} {te : TE} {k : Nat}
theorem pe_allG (hr : Room (k + 1) X.A) (hc : X.calm = true) (hN : X.N.Nodup) (hgl : Gl X "all") (hm : X.mg "all" = none) (TB : TabB X.base X.mg c P) (hcode : X.env.code = .ref c) (ok : BlkOk X.N X.env.scope scope own) (hnc : ∀ y ∈ scope.names, y.2 ≠ .cell) (hdot : scope.names.lookup (".0" : Str) = some NameKind.local)
    (hco : scope.isCoroutine = false) (hi : PI X tg iter wi)
    (hg : ∀ s H C code fp A' pn, Room k A' → PG (Cxg X s H (gEnv X scope C code) fp A' pn) tg g) (ht : ∀ s H C code fp A' pn, Room k A' → PTs (Cxg X s H (gEnv X scope C code) fp A' pn) ifs tt) (he : ∀ s H C code fp A' pn, Room k A' → PE (Cxg X s H (gEnv X scope C code) fp A' pn) elt te)
    (hs : ∀ v, genFold iter X.env v = pure v := by intro _; rfl) (hst : starEach [GE elt tg iter ifs scope gpos] X.env = (false, eval (GE elt tg iter ifs scope gpos) X.env) :: starEach [] X.env := by rfl) :
    PE X (.Call (.Name "all" p) [GE elt tg iter ifs scope gpos] [] pos) (tAllG P wi g tt te (own.map (·.2))) := by
  refine ⟨fun pins s σ H Q I h => ?_⟩
  refine wpAny_Call_Name_kw (ld_blt I hgl hm (by decide +kernel : bootBuiltins "all" = some (.builtin "all")) ?_)
  refine PyProof.Rows.callWith_builtin1 ?_ hst (by rfl)
  rw [hst]
  show wpAny _ _ (spliced ((false, eval (GE elt tg iter ifs scope gpos) X.env) :: backTo pos (starEach [] X.env))) _ _ s
  refine Calls.spliced_cons (gen_made () _ _ hr hc hN TB hcode ok hnc hdot hco hi hg ht he hs I h fun X' σw fp tn a gg n s5 M => ?_)
  refine Calls.spliced_nil ?_
  refine call_function_tree F.kind_all F.plain_all F.entry_all (F.args_all1 _) ?_
  unfold Builtin.«all»
  refine wpAny_bind (m := oneArg "all" _) (wpAny_pure ?_)
  refine wpAny_bind (wpAny_pyIter_gen M.gen ?_)
  refine wpAny_pure ⟨plainId_quiet F.plain_all_loop _, ?_⟩
  have L := all_loop (D := GD.mk X' X.A.in1.in1 σw fp tn (fun (_ : Unit) ps => ps = []) (outAll Q) (fun _ H => Q (.bl true) H) a gg) (A := X.A) (R := fun r s' => match r with | .ok (.ret v) => EP X pins σ Q v s' | .ok _ => False | .error e => X.xe e s') (fun b H => Q (.bl b) H) rfl hr.hd (by have := hr.dp; omega) M.pinned M.keep (fun _ _ _ _ o => o) (fun _ _ q => q) (fun _ _ => Iff.rfl)
    (fun b H s' I' q => ⟨.bl b, H, M.back _ _ _ I', rfl, q⟩) n s5 (M.go _ (fun a ps e p hp => by rw [e] at hp; cases hp) s5 [] (fun _ _ e => e) rfl rfl rfl (fun p hp => by cases hp))
  have e1 := M.prog
  have e2 := M.w
  rw [e1, e2] at L
  exact L
theorem pe_anyG (hr : Room (k + 1) X.A) (hc : X.calm = true) (hN : X.N.Nodup) (hgl : Gl X "any") (hm : X.mg "any" = none) (TB : TabB X.base X.mg c P) (hcode : X.env.code = .ref c) (ok : BlkOk X.N X.env.scope scope own) (hnc : ∀ y ∈ scope.names, y.2 ≠ .cell) (hdot : scope.names.lookup (".0" : Str) = some NameKind.local)
    (hco : scope.isCoroutine = false) (hi : PI X tg iter wi)
    (hg : ∀ s H C code fp A' pn, Room k A' → PG (Cxg X s H (gEnv X scope C code) fp A' pn) tg g) (ht : ∀ s H C code fp A' pn, Room k A' → PTs (Cxg X s H (gEnv X scope C code) fp A' pn) ifs tt) (he : ∀ s H C code fp A' pn, Room k A' → PE (Cxg X s H (gEnv X scope C code) fp A' pn) elt te)
    (hs : ∀ v, genFold iter X.env v = pure v := by intro _; rfl) (hst : starEach [GE elt tg iter ifs scope gpos] X.env = (false, eval (GE elt tg iter ifs scope gpos) X.env) :: starEach [] X.env := by rfl) :
    PE X (.Call (.Name "any" p) [GE elt tg iter ifs scope gpos] [] pos) (tAnyG P wi g tt te (own.map (·.2))) := by
  refine ⟨fun pins s σ H Q I h => ?_⟩
  refine wpAny_Call_Name_kw (ld_blt I hgl hm boot_any ?_)
  refine PyProof.Rows.callWith_builtin1 ?_ hst (by rfl)
  rw [hst]
  show wpAny _ _ (spliced ((false, eval (GE elt tg iter ifs scope gpos) X.env) :: backTo pos (starEach [] X.env))) _ _ s
  refine Calls.spliced_cons (gen_made () _ _ hr hc hN TB hcode ok hnc hdot hco hi hg ht he hs I h fun X' σw fp tn a gg n s5 M => ?_)
  refine Calls.spliced_nil ?_
  refine call_function_tree F.kind_any F.plain_any F.entry_any (F.args_any1 _) ?_
  unfold Builtin.«any»
  refine wpAny_bind (m := oneArg "any" _) (wpAny_pure ?_)
  refine wpAny_bind (wpAny_pyIter_gen M.gen ?_)
  refine wpAny_pure ⟨plainId_quiet F.plain_any_loop _, ?_⟩
  have L := any_loop (D := GD.mk X' X.A.in1.in1 σw fp tn (fun (_ : Unit) ps => ps = []) (outAny Q) (fun _ H => Q (.bl false) H) a gg) (A := X.A) (R := fun r s' => match r with | .ok (.ret v) => EP X pins σ Q v s' | .ok _ => False | .error e => X.xe e s') (fun b H => Q (.bl b) H) rfl hr.hd (by have := hr.dp; omega) M.pinned M.keep (fun _ _ _ _ o => o) (fun _ _ q => q) (fun _ _ => Iff.rfl)
    (fun b H s' I' q => ⟨.bl b, H, M.back _ _ _ I', rfl, q⟩) n s5 (M.go _ (fun a ps e p hp => by rw [e] at hp; cases hp) s5 [] (fun _ _ e => e) rfl rfl rfl (fun p hp => by cases hp))
  have e1 := M.prog
  have e2 := M.w
  rw [e1, e2] at L
  exact L
theorem pe_sumG (hr : Room (k + 1) X.A) (hc : X.calm = true) (hN : X.N.Nodup) (hgl : Gl X "sum") (hm : X.mg "sum" = none) (TB : TabB X.base X.mg c P) (hcode : X.env.code = .ref c) (ok : BlkOk X.N X.env.scope scope own) (hnc : ∀ y ∈ scope.names, y.2 ≠ .cell) (hdot : scope.names.lookup (".0" : Str) = some NameKind.local)
    (hco : scope.isCoroutine = false) (hi : PI X tg iter wi)
    (hg : ∀ s H C code fp A' pn, Room k A' → PG (Cxg X s H (gEnv X scope C code) fp A' pn) tg g) (ht : ∀ s H C code fp A' pn, Room k A' → PTs (Cxg X s H (gEnv X scope C code) fp A' pn) ifs tt) (he : ∀ s H C code fp A' pn, Room k A' → PE (Cxg X s H (gEnv X scope C code) fp A' pn) elt te)
    (hs : ∀ v, genFold iter X.env v = pure v := by intro _; rfl) (hst : starEach [GE elt tg iter ifs scope gpos] X.env = (false, eval (GE elt tg iter ifs scope gpos) X.env) :: starEach [] X.env := by rfl) :
    PE X (.Call (.Name "sum" p) [GE elt tg iter ifs scope gpos] [] pos) (tSumG P wi g tt te (own.map (·.2))) := by
  refine ⟨fun pins s σ H Q I h => ?_⟩
  refine wpAny_Call_Name_kw (ld_blt I hgl hm (by decide +kernel : bootBuiltins "sum" = some (.builtin "sum")) ?_)
  refine PyProof.Rows.callWith_builtin1 ?_ hst (by rfl)
  rw [hst]
  show wpAny _ _ (spliced ((false, eval (GE elt tg iter ifs scope gpos) X.env) :: backTo pos (starEach [] X.env))) _ _ s
  refine Calls.spliced_cons (gen_made 0 _ _ hr hc hN TB hcode ok hnc hdot hco hi hg ht he hs I h fun X' σw fp tn a gg n s5 M => ?_)
  refine Calls.spliced_nil ?_
  refine call_function_tree F.kind_sum F.plain_sum F.entry_sum (F.args_sum1 _) ?_
  unfold Builtin.«sum»
  simp only [List.length_cons, List.length_nil]
  rw [if_neg (by decide)]
  refine wpAny_bind (wpAny_of_eq (show Builtin.Builtins.bindParams "sum" ["start"] 0 { } = pure [none] from rfl) ?_)
  refine wpAny_bind (wpAny_pyIter_gen M.gen ?_)
  refine wpAny_bind (wpAny_mkInt ?_)
  refine wpAny_bind (wpAny_pure ?_)
  simp only [List.forIn_cons, List.forIn_nil]
  refine wpAny_bind (wpAny_bind (wpAny_bind (wpAny_isInstance (T := "int") (b := false) (PySem.typeIs_int _ _ _) PySem.sub_int_str ?_)))
  simp only [Bool.false_eq_true, if_false]
  refine wpAny_pure (wpAny_bind (wpAny_bind (wpAny_isInstance (T := "int") (b := false) (PySem.typeIs_int _ _ _) PySem.sub_int_bytes ?_)))
  simp only [Bool.false_eq_true, if_false]
  refine wpAny_pure (wpAny_bind (wpAny_bind (wpAny_isInstance (T := "int") (b := false) (PySem.typeIs_int _ _ _) PySem.sub_int_bytearray ?_)))
  simp only [Bool.false_eq_true, if_false]
  refine wpAny_pure (wpAny_pure ?_)
  refine wpAny_bind (wpAny_newObj_type ?_)
  obtain ⟨o1, o2, o3, o4, o5⟩ := M.old
  refine wpAny_pure ⟨plainId_quiet F.plain_sum_loop _, ?_⟩
  have L := sum_loop (D := GD.mk X' X.A.in1.in1 σw fp tn (fun (b : Int) ps => ∃ t c, ps = [(s5.heap.objs.size, lstObj #[.int b t] c)]) outSum (fun a H => Q (.int a) H) a gg) (A := X.A) (R := fun r s' => match r with | .ok (.ret v) => EP X pins σ Q v s' | .ok _ => False | .error e => X.xe e s') (fun b H => Q (.int b) H) s5.heap.objs.size rfl hr.hd (by have := hr.dp; omega) M.pinned M.keep (fun _ _ _ _ o => o) (fun _ _ q => q) (fun _ _ => Iff.rfl)
    o1 (Nat.ne_of_gt o2) (fun x c e => Nat.ne_of_lt (o3 x c e)) (fun p hp => Nat.ne_of_lt (o4 p hp)) (fun hp => Nat.lt_irrefl _ (o5 _ hp))
    (fun b t ps H s' I' q => ⟨.int b, H, M.back _ _ _ I', ⟨t, rfl⟩, q⟩) n { s5 with heap := s5.heap.push { cls := .type "list", data := .seq #[.int 0 s5.toks] }, toks := s5.toks + 1 } 0 [(s5.heap.objs.size, lstObj #[.int 0 s5.toks] 0)] 0 (.inl rfl)
    (M.go _ (fun a ps e p hp b hb => by
      obtain ⟨t, c, e⟩ := e
      rw [e] at hp
      rw [List.mem_singleton.mp hp]
      exact Nat.ne_of_gt (o5 b hb)) _ _ (fun b o e => Heap.get?_push_of_some _ e) rfl rfl ⟨_, _, rfl⟩ (fun p hp => by
        rw [List.mem_singleton.mp hp]
        exact ⟨Heap.get?_push_size _ rfl, Nat.le_refl _, fun v z => by cases z⟩))
  have e1 := M.prog
  have e2 := M.w
  rw [e1, e2] at L
  exact L
end
end Gx
end
section
set_option Elab.async false
set_option linter.all false
set_option maxRecDepth 100000
set_option maxHeartbeats 4000000
namespace Dl
open PySem PySem.Spec PyProof.Rows L2 GxR Gx

/-- data as the program sees them -/
inductive D where
  | non | bl (b : Bool) | int (i : Int) | str (x : Str)
  | lst (ds : List D) | tup (ds : List D)
  | scr (ns : List Int)
  | dic (ks : List Key) (ds : List D)
  | ins (C : Addr) (fs : List Str) (ds : List D)

mutual
def Rp (K : PySem.W.Frag) (H : Hp) : D → V → Prop
  | .non, v => v = .non
  | .bl b, v => v = .bl b
  | .int i, v => v = .int i
  | .str x, v => v = .str x
  | .lst ds, v => ∃ a xs, v = .ref a ∧ H a = some (.lst xs) ∧ RpL K H ds xs
  | .tup ds, v => ∃ a xs, v = .ref a ∧ H a = some (.tup xs) ∧ RpL K H ds xs
  | .scr ns, v => ∃ a, v = .ref a ∧ SqL K H a (ns.map V.int)
  | .dic ks ds, v => ∃ a xs, v = .ref a ∧ H a = some (.dK (ks.zip xs)) ∧ ks.length = xs.length ∧ RpL K H ds xs
  | .ins C fs ds, v => ∃ a dx xs, v = .ref a ∧ H a = some (.ins C dx (fs.zip xs)) ∧ fs.length = xs.length ∧ RpL K H ds xs
def RpL (K : PySem.W.Frag) (H : Hp) : List D → List V → Prop
  | [], xs => xs = []
  | d :: ds, xs => ∃ x r, xs = x :: r ∧ Rp K H d x ∧ RpL K H ds r
end

/-! ### heaps that grow -/
def Sm (F F' : Hp) : Prop := ∀ b o, F b = some o → F' b = some o
/-- what was tracked stays; a table may grow -/
def Ext (H H' : Hp) : Prop := ∀ b o, H b = some o → H' b = some o ∨ ∃ ps ps', o = .tbl ps ∧ H' b = some (.tbl ps') ∧ (TriplesOk ps.toList → TriplesOk ps'.toList)
def NoTbl (F : Hp) : Prop := ∀ b ps, F b ≠ some (.tbl ps)
theorem Sm.refl {F : Hp} : Sm F F := fun _ _ e => e
theorem Sm.trans {F G H : Hp} (a : Sm F G) (b : Sm G H) : Sm F H := fun x o e => b x o (a x o e)
theorem Sm.ext {F G : Hp} (a : Sm F G) : Ext F G := fun b o e => .inl (a b o e)
theorem Ext.refl {F : Hp} : Ext F F := fun _ _ e => .inl e
theorem Ext.trans {F G H : Hp} (a : Ext F G) (b : Ext G H) : Ext F H := fun x o e => by
  rcases a x o e with h | ⟨ps, ps', rfl, h, k⟩
  · exact b x o h
  · rcases b x _ h with h2 | ⟨qs, qs', e2, h2, k2⟩
    · exact .inr ⟨ps, ps', rfl, h2, k⟩
    · cases e2
      exact .inr ⟨ps, qs', rfl, h2, fun z => k2 (k z)⟩
theorem Ext.at {H H' : Hp} (a : Ext H H') {b : Addr} {o : HO} (e : H b = some o) (n : ∀ ps, o ≠ .tbl ps) : H' b = some o := by
  rcases a b o e with h | ⟨ps, _, h, _⟩
  · exact h
  · exact absurd h (n ps)
theorem Ext.none {H H' : Hp} (a : Ext H H') {b : Addr} (e : H' b = Option.none) : H b = Option.none := by
  cases q : H b with
  | none => rfl
  | some o =>
    rcases a b o q with h | ⟨_, _, _, h, _⟩ <;> rw [e] at h <;> cases h
theorem Ext.some {H H' : Hp} (a : Ext H H') {b : Addr} (e : H b ≠ Option.none) : H' b ≠ Option.none := fun z => e (a.none z)
theorem Sm.of_ext {G H H' : Hp} (a : Sm G H) (n : NoTbl G) (x : Ext H H') : Sm G H' := fun b o e => x.at (a b o e) fun ps z => n b ps (z ▸ e)
theorem Sm.none {H H' : Hp} (a : Sm H H') {b : Addr} (e : H' b = Option.none) : H b = Option.none := a.ext.none e
theorem Ext.upd {H : Hp} {p : Addr} {o : HO} (h : H p = Option.none) : Ext H (upd H p o) := fun b x e => .inl (by rw [upd_ne (ne_of_none e h)]; exact e)
theorem Sm.upd {H : Hp} {p : Addr} {o : HO} (h : H p = Option.none) : Sm H (upd H p o) := fun b x e => by rw [upd_ne (ne_of_none e h)]; exact e
theorem Ext.tabbed {H H' : Hp} {P : Addr} (t : Tabbed P H H') (h : TabG H P) : Ext H H' := fun b o e => by
  by_cases hb : b = P
  · obtain ⟨ps, hp, _⟩ := h
    obtain ⟨⟨ps', hp', t'⟩, _⟩ := t
    subst hb
    rw [hp] at e
    cases e
    exact .inr ⟨ps, ps', rfl, hp', fun _ => t'⟩
  · exact .inl (by rw [t.2 b hb]; exact e)

/-- the frozen part F of the heap H grows -/
structure Grow (F H F' H' : Hp) : Prop where
  f : Sm F F'
  h : Ext H H'
  s : Sm F' H'
  n : ∀ b, F' b ≠ none → F b ≠ none ∨ H b = none
  t : NoTbl F'
theorem Grow.trans {F H F' H' F'' H'' : Hp} (a : Grow F H F' H') (b : Grow F' H' F'' H'') : Grow F H F'' H'' :=
  ⟨a.f.trans b.f, a.h.trans b.h, b.s, fun x hx => by
    rcases b.n x hx with q | q
    · exact a.n x q
    · exact .inr (a.h.none q), b.t⟩
theorem Grow.refl {F H : Hp} (s : Sm F H) (t : NoTbl F) : Grow F H F H := ⟨.refl, .refl, s, fun _ h => .inl h, t⟩
/-- a new object, frozen at once -/
theorem Grow.new {F H : Hp} {p : Addr} {o : HO} (s : Sm F H) (t : NoTbl F) (h : H p = none) (ho : ∀ ps, o ≠ .tbl ps) : Grow F H (upd F p o) (upd H p o) :=
  ⟨Sm.upd (s.none h), Ext.upd h, fun b x e => by
    by_cases hb : b = p
    · subst hb; rw [upd_same] at e ⊢; exact e
    · rw [upd_ne hb] at e ⊢; exact s b x e, fun b hb => by
    by_cases hbp : b = p
    · subst hbp; exact .inr h
    · rw [upd_ne hbp] at hb; exact .inl hb, fun b ps e => by
    by_cases hb : b = p
    · subst hb; rw [upd_same] at e; exact ho ps (Option.some.inj e)
    · rw [upd_ne hb] at e; exact t b ps e⟩
/-- only the heap grows -/
theorem Grow.heap {F H H' : Hp} (s : Sm F H) (t : NoTbl F) (x : Ext H H') : Grow F H F H' := ⟨.refl, x, s.of_ext t x, fun _ h => .inl h, t⟩

/-! ### data stay -/
theorem SqL.ext {K : PySem.W.Frag} {H H' : Hp} (x : Ext H H') {a : Addr} {xs : List V} (h : SqL K H a xs) : SqL K H' a xs := by
  rcases h with (h | ⟨o, h⟩) | h
  · exact .inl (.inl (x.at h fun _ z => nomatch z))
  · exact .inl (.inr ⟨o, x.at h fun _ z => nomatch z⟩)
  · exact .inr h
theorem SqT.ext {K : PySem.W.Frag} {H H' : Hp} (x : Ext H H') {a : Addr} {xs : List V} (h : SqT K H a xs) : SqT K H' a xs := by
  rcases h with (h | ⟨o, h⟩) | h
  · exact .inl (.inl (x.at h fun _ z => nomatch z))
  · exact .inl (.inr ⟨o, x.at h fun _ z => nomatch z⟩)
  · exact .inr h
mutual
theorem Rp.ext {K : PySem.W.Frag} {H H' : Hp} (x : Ext H H') : ∀ (d : D) (v : V), Rp K H d v → Rp K H' d v
  | .non, _, h => h
  | .bl _, _, h => h
  | .int _, _, h => h
  | .str _, _, h => h
  | .lst ds, _, ⟨a, xs, e, s, r⟩ => ⟨a, xs, e, x.at s (fun _ z => nomatch z), RpL.ext x ds xs r⟩
  | .tup ds, _, ⟨a, xs, e, s, r⟩ => ⟨a, xs, e, x.at s (fun _ z => nomatch z), RpL.ext x ds xs r⟩
  | .scr _, _, ⟨a, e, s⟩ => ⟨a, e, SqL.ext x s⟩
  | .dic _ ds, _, ⟨a, xs, e, s, l, r⟩ => ⟨a, xs, e, x.at s (fun _ z => nomatch z), l, RpL.ext x ds xs r⟩
  | .ins _ _ ds, _, ⟨a, dx, xs, e, s, l, r⟩ => ⟨a, dx, xs, e, x.at s (fun _ z => nomatch z), l, RpL.ext x ds xs r⟩
theorem RpL.ext {K : PySem.W.Frag} {H H' : Hp} (x : Ext H H') : ∀ (ds : List D) (xs : List V), RpL K H ds xs → RpL K H' ds xs
  | [], _, h => h
  | d :: ds, _, ⟨y, r, e, h, t⟩ => ⟨y, r, e, Rp.ext x d y h, RpL.ext x ds r t⟩
end
theorem RpL.length {K : PySem.W.Frag} {H : Hp} : ∀ {ds : List D} {xs : List V}, RpL K H ds xs → ds.length = xs.length
  | [], _, h => by rw [show _ = [] from h]; rfl
  | d :: ds, _, ⟨y, r, e, h, t⟩ => by rw [e, List.length_cons, List.length_cons, RpL.length t]
theorem RpL.get {K : PySem.W.Frag} {H : Hp} : ∀ {ds : List D} {xs : List V} {i : Nat} {d : D}, RpL K H ds xs → ds[i]? = some d → ∃ x, xs[i]? = some x ∧ Rp K H d x
  | [], _, _, _, _, e => by simp at e
  | d :: ds, _, 0, d', ⟨y, r, e, h, t⟩, g => by
    rw [List.getElem?_cons_zero] at g; cases g
    exact ⟨y, by rw [e]; rfl, h⟩
  | d :: ds, _, i + 1, d', ⟨y, r, e, h, t⟩, g => by
    rw [List.getElem?_cons_succ] at g
    obtain ⟨x, h1, h2⟩ := RpL.get t g
    exact ⟨x, by rw [e, List.getElem?_cons_succ]; exact h1, h2⟩
theorem RpL.app {K : PySem.W.Frag} {H : Hp} : ∀ {ds es : List D} {xs ys : List V}, RpL K H ds xs → RpL K H es ys → RpL K H (ds ++ es) (xs ++ ys)
  | [], es, xs, ys, h, g => by rw [show xs = [] from h]; exact g
  | d :: ds, es, _, ys, ⟨y, r, e, h, t⟩, g => ⟨y, r ++ ys, by rw [e]; rfl, h, RpL.app t g⟩
theorem RpL.one {K : PySem.W.Frag} {H : Hp} {d : D} {x : V} (h : Rp K H d x) : RpL K H [d] [x] := ⟨x, [], rfl, h, rfl⟩
theorem RpL.take {K : PySem.W.Frag} {H : Hp} : ∀ {ds : List D} {xs : List V} (n : Nat), RpL K H ds xs → RpL K H (ds.take n) (xs.take n)
  | _, _, 0, _ => by rw [List.take_zero, List.take_zero]; rfl
  | [], _, n + 1, h => by rw [show _ = [] from h]; exact rfl
  | d :: ds, _, n + 1, ⟨y, r, e, h, t⟩ => by rw [e]; exact ⟨y, r.take n, rfl, h, RpL.take n t⟩
theorem RpL.drop {K : PySem.W.Frag} {H : Hp} : ∀ {ds : List D} {xs : List V} (n : Nat), RpL K H ds xs → RpL K H (ds.drop n) (xs.drop n)
  | _, _, 0, h => h
  | [], _, n + 1, h => by rw [show _ = [] from h]; exact rfl
  | d :: ds, _, n + 1, ⟨y, r, e, h, t⟩ => by rw [e]; exact RpL.drop n t
theorem RpL.set {K : PySem.W.Frag} {H : Hp} {d' : D} {x' : V} (h' : Rp K H d' x') : ∀ {ds : List D} {xs : List V} (n : Nat), RpL K H ds xs → RpL K H (ds.set n d') (xs.set n x')
  | [], _, _, h => by rw [show _ = [] from h]; exact rfl
  | d :: ds, _, 0, ⟨y, r, e, h, t⟩ => by rw [e]; exact ⟨x', r, rfl, h', t⟩
  | d :: ds, _, n + 1, ⟨y, r, e, h, t⟩ => by rw [e]; exact ⟨y, r.set n x', rfl, h, RpL.set h' n t⟩
/-- plain values -/
def scal : D → Bool
  | .non | .bl _ | .int _ | .str _ => true
  | _ => false
theorem Rp.scal {K K' : PySem.W.Frag} {H H' : Hp} {d : D} {v : V} (s : scal d = true) (h : Rp K H d v) : Rp K' H' d v := by
  cases d <;> first | exact h | cases s
def allScal : List D → Bool
  | [] => true
  | d :: ds => Dl.scal d && allScal ds
theorem RpL.scal {K K' : PySem.W.Frag} {H H' : Hp} : ∀ {ds : List D} {xs : List V}, allScal ds = true → RpL K H ds xs → RpL K' H' ds xs
  | [], _, _, h => h
  | d :: ds, _, s, ⟨y, r, e, h, t⟩ => by
    unfold allScal at s
    rw [Bool.and_eq_true] at s
    exact ⟨y, r, e, Rp.scal s.1 h, RpL.scal s.2 t⟩

/-! ### the younger part of the frozen heap -/
def lv (nw : Bool) (R F : Hp) : Hp := fun b => if (nw && (R b).isSome) = true then none else F b
theorem lv_sub {nw : Bool} {R F : Hp} : Sm (lv nw R F) F := fun b o e => by
  unfold lv at e
  split at e
  · cases e
  · exact e
theorem lv_mono {nw : Bool} {R F F' : Hp} (s : Sm F F') : Sm (lv nw R F) (lv nw R F') := fun b o e => by
  unfold lv at e ⊢
  split at e
  · cases e
  · rename_i h
    rw [if_neg h]
    exact s b o e
theorem lv_false {R F : Hp} : lv false R F = F := by
  funext b
  unfold lv
  simp
theorem lv_and {a b : Bool} {R F : Hp} : Sm (lv a R F) (lv (a && b) R F) := fun x o e => by
  unfold lv at e ⊢
  split at e
  · cases e
  · rename_i h
    rw [if_neg (fun z => h ?_)]
    · exact e
    · simp only [Bool.and_eq_true] at z ⊢
      exact ⟨z.1.1, z.2⟩
theorem lv_and' {a b : Bool} {R F : Hp} : Sm (lv b R F) (lv (a && b) R F) := by rw [Bool.and_comm]; exact lv_and
theorem lv_new {nw : Bool} {R F : Hp} {p : Addr} {o : HO} (h : F p = some o) (hR : R p = none) : lv nw R F p = some o := by
  unfold lv
  rw [hR]
  simp [h]

/-! ### the local state -/
inductive C where
  | d (nw : Bool) (d : D)
  | own (nw : Bool) (ds : List D)
  | dp (d : D)
  | dic (nw : Bool) (ks : List Key) (ds : List D)
abbrev DS := List (Option C)
def Cok (K : PySem.W.Frag) (R F G : Hp) : C → V → Prop
  | .d nw d, v => Rp K (lv nw R F) d v
  | .own nw ds, v => ∃ p xs, v = .ref p ∧ G p = some (.lst xs) ∧ RpL K (lv nw R F) ds xs
  | .dp d, v => Rp K G d v
  | .dic nw ks ds, v => ∃ p xs, v = .ref p ∧ G p = some (.dK (ks.zip xs)) ∧ ks.length = xs.length ∧ RpL K (lv nw R F) ds xs
theorem Cok.mono {K : PySem.W.Frag} {R F F' G : Hp} (s : Sm F F') : ∀ {c : C} {v : V}, Cok K R F G c v → Cok K R F' G c v
  | .d _ d, v, h => Rp.ext (lv_mono s).ext d v h
  | .own _ ds, _, ⟨p, xs, e, g, r⟩ => ⟨p, xs, e, g, RpL.ext (lv_mono s).ext ds xs r⟩
  | .dp _, _, h => h
  | .dic _ _ ds, _, ⟨p, xs, e, g, l, r⟩ => ⟨p, xs, e, g, l, RpL.ext (lv_mono s).ext ds xs r⟩
/-- a region: its objects, apart from the frozen ones and from those of the entry -/
structure Reg (H0 F H G : Hp) : Prop where
  s : Sm G H
  n : ∀ b, G b ≠ none → F b = none ∧ H0 b = none
  t : NoTbl G
theorem Reg.grow {H0 F H F' H' G : Hp} (r : Reg H0 F H G) (g : Grow F H F' H') : Reg H0 F' H' G :=
  ⟨r.s.of_ext r.t g.h, fun b hb => ⟨by
    cases q : F' b with
    | none => rfl
    | some o =>
      rcases g.n b (by rw [q]; exact fun z => nomatch z) with z | z
      · exact absurd (r.n b hb).1 z
      · exact absurd (r.s.none z) hb, (r.n b hb).2⟩, r.t⟩
structure RelG (K : PySem.W.Frag) (R H0 : Hp) (G : Nat → Hp) (τ : DS) (σ : L2.St) (F H : Hp) : Prop where
  g : Grow R H0 F H
  reg : ∀ i, Reg H0 F H (G i)
  dis : ∀ i j b, i ≠ j → G i b ≠ none → G j b = none
  len : τ.length = σ.length
  cell : ∀ i c, τ[i]? = some (some c) → ∃ v, σ[i]? = some (some v) ∧ Cok K R F (G i) c v
def Rel (K : PySem.W.Frag) (R H0 : Hp) (τ : DS) (σ : L2.St) (F H : Hp) : Prop := ∃ G, RelG K R H0 G τ σ F H
theorem RelG.grow {K : PySem.W.Frag} {R H0 : Hp} {G : Nat → Hp} {τ : DS} {σ : L2.St} {F H F' H' : Hp} (r : RelG K R H0 G τ σ F H) (g : Grow F H F' H') : RelG K R H0 G τ σ F' H' :=
  ⟨r.g.trans g, fun i => (r.reg i).grow g, r.dis, r.len, fun i c e => let ⟨v, h1, h2⟩ := r.cell i c e; ⟨v, h1, h2.mono g.f⟩⟩
theorem Rel.grow {K : PySem.W.Frag} {R H0 : Hp} {τ : DS} {σ : L2.St} {F H F' H' : Hp} (r : Rel K R H0 τ σ F H) (g : Grow F H F' H') : Rel K R H0 τ σ F' H' := let ⟨G, r⟩ := r; ⟨G, r.grow g⟩
theorem Rel.s {K : PySem.W.Frag} {R H0 : Hp} {τ : DS} {σ : L2.St} {F H : Hp} (r : Rel K R H0 τ σ F H) : Sm F H := let ⟨_, r⟩ := r; r.g.s
theorem Rel.t {K : PySem.W.Frag} {R H0 : Hp} {τ : DS} {σ : L2.St} {F H : Hp} (r : Rel K R H0 τ σ F H) : NoTbl F := let ⟨_, r⟩ := r; r.g.t
theorem Rel.g {K : PySem.W.Frag} {R H0 : Hp} {τ : DS} {σ : L2.St} {F H : Hp} (r : Rel K R H0 τ σ F H) : Grow R H0 F H := let ⟨_, r⟩ := r; r.g
theorem Rel.refl {K : PySem.W.Frag} {R H0 : Hp} {τ : DS} {σ : L2.St} {F H : Hp} (r : Rel K R H0 τ σ F H) : Grow F H F H := .refl r.s r.t
def emp : Hp := fun _ => none
theorem Reg.emp {H0 F H : Hp} : Reg H0 F H emp := ⟨fun _ _ e => (by cases e), fun _ h => absurd rfl h, fun _ _ e => (by cases e)⟩

/-- a value on its way: its own region, young -/
structure Pend (F H F' H' Gp : Hp) : Prop where
  g : Grow F H F' H'
  s : Sm Gp H'
  n : ∀ b, Gp b ≠ none → F' b = none ∧ H b = none
  t : NoTbl Gp

/-- a cell is stored -/
theorem RelG.store {K : PySem.W.Frag} {R H0 : Hp} {G : Nat → Hp} {τ : DS} {σ : L2.St} {F H F' H' Gp : Hp} {c : C} {v : V} {i : Nat} (r : RelG K R H0 G τ σ F H) (p : Pend F H F' H' Gp) (h : Cok K R F' Gp c v) :
    RelG K R H0 (fun j => if j = i then Gp else G j) (τ.set i (some c)) (σ.set i (some v)) F' H' := by
  have r' := r.grow p.g
  have old : ∀ j b, G j b ≠ none → Gp b = none := fun j b hb => by
    cases q : Gp b with
    | none => rfl
    | some o =>
      have := (p.n b (by rw [q]; exact fun z => nomatch z)).2
      exact absurd ((r.reg j).s.none this) hb
  refine ⟨r'.g, fun j => ?_, fun j k b hjk hb => ?_, by rw [List.length_set, List.length_set]; exact r.len, fun j c' e => ?_⟩
  · by_cases hj : j = i
    · simp only [hj, if_true]
      exact ⟨p.s, fun b hb => ⟨(p.n b hb).1, r.g.h.none (p.n b hb).2⟩, p.t⟩
    · simp only [hj, if_false]
      exact r'.reg j
  · by_cases hj : j = i
    · have hk : k ≠ i := fun z => hjk (hj.trans z.symm)
      simp only [hj, if_true] at hb
      simp only [hk, if_false]
      cases q : G k b with
      | none => rfl
      | some o => exact absurd (old k b (by rw [q]; exact fun z => nomatch z)) hb
    · simp only [hj, if_false] at hb
      by_cases hk : k = i
      · simp only [hk, if_true]
        exact old j b hb
      · simp only [hk, if_false]
        exact r.dis j k b hjk hb
  · by_cases hj : j = i
    · subst hj
      have hlt : j < τ.length := by
        rcases Nat.lt_or_ge j τ.length with z | z
        · exact z
        · rw [List.getElem?_eq_none (by rw [List.length_set]; exact z)] at e; cases e
      rw [List.getElem?_set_self hlt] at e
      cases e
      refine ⟨v, List.getElem?_set_self (by rw [← r.len]; exact hlt), ?_⟩
      simp only [if_true]
      exact h
    · rw [List.getElem?_set_ne (Ne.symm hj)] at e
      obtain ⟨u, h1, h2⟩ := r'.cell j c' e
      refine ⟨u, by rw [List.getElem?_set_ne (Ne.symm hj)]; exact h1, ?_⟩
      simp only [hj, if_false]
      exact h2
theorem Rel.store {K : PySem.W.Frag} {R H0 : Hp} {τ : DS} {σ : L2.St} {F H F' H' Gp : Hp} {c : C} {v : V} {i : Nat} (r : Rel K R H0 τ σ F H) (p : Pend F H F' H' Gp) (h : Cok K R F' Gp c v) :
    Rel K R H0 (τ.set i (some c)) (σ.set i (some v)) F' H' := let ⟨_, r⟩ := r; ⟨_, r.store p h⟩
theorem Grow.pend {F H F' H' : Hp} (g : Grow F H F' H') : Pend F H F' H' emp := ⟨g, fun _ _ e => (by cases e), fun _ h => absurd rfl h, fun _ _ e => (by cases e)⟩

/-- joining a region to the frozen part -/
def join (F G : Hp) : Hp := fun b => if (G b).isSome then G b else F b
theorem join_g {F G : Hp} {b : Addr} {o : HO} (h : G b = some o) : join F G b = some o := by unfold join; rw [h]; rfl
theorem join_f {F G : Hp} {b : Addr} (h : G b = none) : join F G b = F b := by unfold join; rw [h]; rfl
theorem Pend.join {F H F' H' Gp : Hp} (p : Pend F H F' H' Gp) : Grow F H (join F' Gp) H' := by
  refine ⟨fun b o e => ?_, p.g.h, fun b o e => ?_, fun b hb => ?_, fun b ps e => ?_⟩
  · have e' := p.g.f b o e
    cases q : Gp b with
    | none => rw [join_f q]; exact e'
    | some u =>
      have := (p.n b (by rw [q]; exact fun z => nomatch z)).1
      rw [e'] at this; cases this
  · cases q : Gp b with
    | none => rw [join_f q] at e; exact p.g.s b o e
    | some u => rw [join_g q] at e; cases e; exact p.s b _ q
  · cases q : Gp b with
    | none => rw [join_f q] at hb; exact p.g.n b hb
    | some u => exact .inr (p.n b (by rw [q]; exact fun z => nomatch z)).2
  · cases q : Gp b with
    | none => rw [join_f q] at e; exact p.g.t b ps e
    | some u => rw [join_g q] at e; cases e; exact p.t b ps q
/-- the data of a cell, its flag -/
def frz : C → Bool × D
  | .d nw d => (nw, d)
  | .own nw ds => (nw, .lst ds)
  | .dp d => (true, d)
  | .dic nw ks ds => (nw, .dic ks ds)
theorem Cok.frz {K : PySem.W.Frag} {R F G : Hp} (hd : ∀ b, G b ≠ none → F b = none ∧ R b = none) : ∀ {c : C} {v : V}, Cok K R F G c v → Rp K (lv (frz c).1 R (join F G)) (frz c).2 v := by
  have sm : Sm F (join F G) := fun b o e => by
    cases q : G b with
    | none => rw [join_f q]; exact e
    | some u =>
      have := (hd b (by rw [q]; exact fun z => nomatch z)).1
      rw [e] at this; cases this
  have top : ∀ {nw : Bool} {p : Addr} {o : HO}, G p = some o → lv nw R (join F G) p = some o := fun {nw p o} e => lv_new (join_g e) (hd p (by rw [e]; exact fun z => nomatch z)).2
  intro c v h
  cases c with
  | d nw d => exact Rp.ext (lv_mono sm).ext d v h
  | own nw ds =>
    obtain ⟨p, xs, rfl, e, r⟩ := h
    exact ⟨p, xs, rfl, top e, RpL.ext (lv_mono sm).ext ds xs r⟩
  | dp d => exact Rp.ext (Sm.ext fun b o e => top e) d v h
  | dic nw ks ds =>
    obtain ⟨p, xs, rfl, e, l, r⟩ := h
    exact ⟨p, xs, rfl, top e, l, RpL.ext (lv_mono sm).ext ds xs r⟩
/-- a slot is frozen -/
def fz (i : Nat) (τ : DS) : DS := match τ[i]? with
  | some (some c) => τ.set i (some (.d (frz c).1 (frz c).2))
  | _ => τ
theorem Rel.fz {K : PySem.W.Frag} {R H0 : Hp} {τ : DS} {σ : L2.St} {F H : Hp} (i : Nat) (r : Rel K R H0 τ σ F H) (hR : Sm R H0) : ∃ F', Sm F F' ∧ Rel K R H0 (fz i τ) σ F' H := by
  obtain ⟨G, r⟩ := r
  unfold Dl.fz
  cases q : τ[i]? with
  | none => exact ⟨F, .refl, G, r⟩
  | some o =>
    cases o with
    | none => exact ⟨F, .refl, G, r⟩
    | some c =>
      obtain ⟨v, h1, h2⟩ := r.cell i c q
      have nn : ∀ {b : Addr} {u : HO}, G i b = some u → G i b ≠ none := fun e z => by rw [z] at e; cases e
      have sm : Sm F (join F (G i)) := fun b o e => by
        cases z : G i b with
        | none => rw [join_f z]; exact e
        | some u =>
          have := ((r.reg i).n b (nn z)).1
          rw [e] at this; cases this
      have hn : ∀ b, G i b ≠ none → F b = none ∧ R b = none := fun b hb => ⟨((r.reg i).n b hb).1, hR.none ((r.reg i).n b hb).2⟩
      have ilt : i < τ.length := by
        rcases Nat.lt_or_ge i τ.length with z | z
        · exact z
        · rw [List.getElem?_eq_none z] at q; cases q
      refine ⟨join F (G i), sm, fun j => if j = i then emp else G j, ⟨r.g.f.trans sm, r.g.h, fun b o e => ?_, fun b hb => ?_, fun b ps e => ?_⟩, fun j => ?_, fun j k b hjk hb => ?_, by rw [List.length_set]; exact r.len, fun j c' e => ?_⟩
      · cases z : G i b with
        | none => rw [join_f z] at e; exact r.g.s b o e
        | some u => rw [join_g z] at e; cases e; exact (r.reg i).s b _ z
      · cases z : G i b with
        | none => rw [join_f z] at hb; exact r.g.n b hb
        | some u => exact .inr ((r.reg i).n b (nn z)).2
      · cases z : G i b with
        | none => rw [join_f z] at e; exact r.g.t b ps e
        | some u => rw [join_g z] at e; cases e; exact (r.reg i).t b ps z
      · by_cases hj : j = i
        · simp only [hj, if_true]; exact Reg.emp
        · simp only [hj, if_false]
          refine ⟨(r.reg j).s, fun b hb => ⟨?_, ((r.reg j).n b hb).2⟩, (r.reg j).t⟩
          rw [join_f (r.dis j i b hj hb)]
          exact ((r.reg j).n b hb).1
      · by_cases hj : j = i
        · simp only [hj, if_true] at hb; exact absurd rfl hb
        · simp only [hj, if_false] at hb
          by_cases hk : k = i
          · simp only [hk, if_true]; rfl
          · simp only [hk, if_false]; exact r.dis j k b hjk hb
      · by_cases hj : j = i
        · subst hj
          rw [List.getElem?_set_self ilt] at e
          cases e
          exact ⟨v, h1, h2.frz hn⟩
        · rw [List.getElem?_set_ne (Ne.symm hj)] at e
          obtain ⟨u, h3, h4⟩ := r.cell j c' e
          refine ⟨u, h3, ?_⟩
          simp only [hj, if_false]
          exact h4.mono sm
/-- a slot is forgotten -/
theorem Rel.drop {K : PySem.W.Frag} {R H0 : Hp} {τ τ' : DS} {σ σ' : L2.St} {F H : Hp} (r : Rel K R H0 τ σ F H) (hl : τ'.length = σ'.length) (h : ∀ (i : Nat) (c : C), τ'[i]? = some (some c) → τ[i]? = some (some c) ∧ σ'[i]? = σ[i]?) : Rel K R H0 τ' σ' F H := by
  obtain ⟨G, r⟩ := r
  exact ⟨G, r.g, r.reg, r.dis, hl, fun i c e => by
    obtain ⟨h1, h2⟩ := h i c e
    obtain ⟨v, h3, h4⟩ := r.cell i c h1
    exact ⟨v, h2.trans h3, h4⟩⟩
end Dl
end
section
set_option Elab.async false
set_option linter.all false
set_option maxRecDepth 100000
set_option maxHeartbeats 4000000
namespace Dl
open PySem PySem.Spec PyProof.Rows L2 GxR Gx

theorem PEmono {X : Cx} {e : Expr} {t t' : TE} (h : PE X e t) (w : ∀ σ H Q, t' σ H Q → t σ H Q) : PE X e t' := ⟨fun pins s σ H Q I q => h.run pins s σ H Q I (w σ H Q q)⟩
theorem PTmono {X : Cx} {e : Expr} {t t' : TT} (h : PT X e t) (w : ∀ σ H Q, t' σ H Q → t σ H Q) : PT X e t' := ⟨fun pins s σ H Q I q => h.run pins s σ H Q I (w σ H Q q)⟩
theorem PWmono {X : Cx} {e : Expr} {t t' : TT} (h : PW X e t) (w : ∀ σ H Q, t' σ H Q → t σ H Q) : PW X e t' := ⟨fun wh pins s σ H Q I q => h.run wh pins s σ H Q I (w σ H Q q)⟩
theorem PAmono {X : Cx} {es : List Expr} {t t' : TA} (h : PA X es t) (w : ∀ σ H Q, t' σ H Q → t σ H Q) : PA X es t' := ⟨fun pos pins s σ H Q I q => h.run pos pins s σ H Q I (w σ H Q q)⟩
theorem PSmono {X : Cx} {st : Stmt} {t t' : TS} (h : PS X st t) (w : ∀ D σ H, t' D σ H → t D σ H) : PS X st t' := ⟨fun pins s σ H D I q => h.run pins s σ H D I (w D σ H q)⟩
theorem PSsmono {X : Cx} {st : List Stmt} {t t' : TS} (h : PSs X st t) (w : ∀ D σ H, t' D σ H → t D σ H) : PSs X st t' := ⟨fun pins s σ H D I q => h.run pins s σ H D I (w D σ H q)⟩

abbrev FE := DS → Option (Bool × D)
abbrev FB := DS → Option D
abbrev FC := DS → Option C
abbrev FT := DS → Option Bool
abbrev FA := DS → Option (Bool × List D)
def tSE (K : PySem.W.Frag) (R H0 : Hp) (f : FE) : TE := fun σ H Q => ∃ F τ nw d, Rel K R H0 τ σ F H ∧ f τ = some (nw, d) ∧ ∀ v F' H', Grow F H F' H' → Rp K (lv nw R F') d v → Q v H'
def tSB (K : PySem.W.Frag) (R H0 : Hp) (f : FB) : TE := fun σ H Q => ∃ F τ d, Rel K R H0 τ σ F H ∧ f τ = some d ∧ ∀ v F' H', Grow F H F' H' → Rp K H' d v → Q v H'
def tSC (K : PySem.W.Frag) (R H0 : Hp) (f : FC) : TE := fun σ H Q => ∃ F τ c, Rel K R H0 τ σ F H ∧ f τ = some c ∧ ∀ v F' H' Gp, Pend F H F' H' Gp → Cok K R F' Gp c v → Q v H'
def tST (K : PySem.W.Frag) (R H0 : Hp) (f : FT) : TT := fun σ H Q => ∃ F τ b, Rel K R H0 τ σ F H ∧ f τ = some b ∧ ∀ F' H', Grow F H F' H' → Q b H'
def tSA (K : PySem.W.Frag) (R H0 : Hp) (f : FA) : TA := fun σ H Q => ∃ F τ nw ds, Rel K R H0 τ σ F H ∧ f τ = some (nw, ds) ∧ ∀ vs F' H', Grow F H F' H' → RpL K (lv nw R F') ds vs → Q vs H'
abbrev SE (R H0 : Hp) (X : Cx) (e : Expr) (f : FE) : Prop := PE X e (tSE X.K R H0 f)
abbrev SB (R H0 : Hp) (X : Cx) (e : Expr) (f : FB) : Prop := PE X e (tSB X.K R H0 f)
abbrev SC (R H0 : Hp) (X : Cx) (e : Expr) (f : FC) : Prop := PE X e (tSC X.K R H0 f)
abbrev ST (R H0 : Hp) (X : Cx) (e : Expr) (f : FT) : Prop := PT X e (tST X.K R H0 f)
abbrev SW (R H0 : Hp) (X : Cx) (e : Expr) (f : FT) : Prop := PW X e (tST X.K R H0 f)
abbrev SA (R H0 : Hp) (X : Cx) (es : List Expr) (f : FA) : Prop := PA X es (tSA X.K R H0 f)

theorem Rp.sm {K : PySem.W.Frag} {H H' : Hp} (s : Sm H H') {d : D} {v : V} (h : Rp K H d v) : Rp K H' d v := Rp.ext s.ext d v h
theorem RpL.sm {K : PySem.W.Frag} {H H' : Hp} (s : Sm H H') {ds : List D} {xs : List V} (h : RpL K H ds xs) : RpL K H' ds xs := RpL.ext s.ext ds xs h

section
variable {R H0 : Hp} {X : Cx} {a b e : Expr} {pos : Pos}
/-! ### coercions -/
def mp {α β : Type} (f : DS → Option α) (g : α → β) : DS → Option β := fun τ => (f τ).map g
theorem mp_some {α β : Type} {f : DS → Option α} {g : α → β} {τ : DS} {z : β} (h : mp f g τ = some z) : ∃ x, f τ = some x ∧ g x = z := by
  unfold mp at h
  cases e1 : f τ with
  | none => rw [e1] at h; cases h
  | some x => rw [e1] at h; exact ⟨x, rfl, Option.some.inj h⟩
def un1 {α β : Type} (f : DS → Option α) (op : α → Option β) : DS → Option β := fun τ => (f τ).bind op
theorem un1_some {α β : Type} {f : DS → Option α} {op : α → Option β} {τ : DS} {z : β} (h : un1 f op τ = some z) : ∃ x, f τ = some x ∧ op x = some z := by
  unfold un1 at h
  cases e1 : f τ with
  | none => rw [e1] at h; cases h
  | some x => rw [e1] at h; exact ⟨x, rfl, h⟩
theorem sb_se {f : FE} (h : SE R H0 X e f) : SB R H0 X e (mp f (·.2)) := PEmono h fun σ H Q ⟨F, τ, d, r, q, k⟩ => by
  obtain ⟨⟨nw, d'⟩, z, rfl⟩ := mp_some q
  exact ⟨F, τ, nw, _, r, z, fun v F' H' g rp => k v F' H' g (Rp.sm (lv_sub.trans g.s) rp)⟩
theorem se_sc {f : FC} (h : SC R H0 X e f) (hR : Sm R H0) : SE R H0 X e (mp f frz) := PEmono h fun σ H Q ⟨F, τ, nw, d, r, q, k⟩ => by
  obtain ⟨c, z, q'⟩ := mp_some q
  refine ⟨F, τ, c, r, z, fun v F' H' Gp p ck => k v _ H' p.join ?_⟩
  have := ck.frz (fun b hb => ⟨(p.n b hb).1, hR.none (r.g.h.none (p.n b hb).2)⟩)
  rw [q'] at this
  exact this
def dC (p : Bool × D) : C := .d p.1 p.2
theorem sc_se {f : FE} (h : SE R H0 X e f) : SC R H0 X e (mp f dC) := PEmono h fun σ H Q ⟨F, τ, c, r, q, k⟩ => by
  obtain ⟨⟨nw, d'⟩, z, rfl⟩ := mp_some q
  exact ⟨F, τ, nw, _, r, z, fun v F' H' g rp => k v F' H' emp g.pend rp⟩
/-- a test from a truth value -/
def boolD : D → Option Bool
  | .bl b => some b
  | _ => none
theorem st_val {f : FB} (h : SB R H0 X e f) (he : ∀ whole, isTrue e X.env whole = (do let v ← whole; standAt e.pos; holding [v] (truthy v)) := by intro _; rfl) : ST R H0 X e (un1 f boolD) := PTmono (pt_val h he) fun σ H Q ⟨F, τ, b, r, q, k⟩ => by
  obtain ⟨d, z, q⟩ := un1_some q
  cases d <;> first | (cases q; done) | skip
  have q' := Option.some.inj q
  subst q'
  exact ⟨F, τ, _, r, z, fun v F' H' g rp => ⟨_, rp, k F' H' g⟩⟩

/-! ### constants, names -/
theorem se_int {i j} : SE R H0 X (.Constant (.int i) j pos) (fun _ => some (true, .int i)) := PEmono pe_int fun σ H Q ⟨F, τ, nw, d, r, q, k⟩ => by
  cases q; exact k _ F H r.refl rfl
theorem se_bl {i j} : SE R H0 X (.Constant (.bool i) j pos) (fun _ => some (true, .bl i)) := PEmono pe_bl fun σ H Q ⟨F, τ, nw, d, r, q, k⟩ => by
  cases q; exact k _ F H r.refl rfl
theorem se_non {j} : SE R H0 X (.Constant .none j pos) (fun _ => some (true, .non)) := PEmono pe_non fun σ H Q ⟨F, τ, nw, d, r, q, k⟩ => by
  cases q; exact k _ F H r.refl rfl
theorem se_str {x j} : SE R H0 X (.Constant (.str x) j pos) (fun _ => some (true, .str x)) := PEmono pe_str fun σ H Q ⟨F, τ, nw, d, r, q, k⟩ => by
  cases q; exact k _ F H r.refl rfl
/-- a module's whole number -/
theorem se_gint {x : Str} {i : Int} {t : Tok} (hg : Gl X x) (hm : X.mg x = some (.int i t)) (hd : (x == ("__debug__" : Str)) = false := by decide) : SE R H0 X (.Name x pos) (fun _ => some (true, .int i)) := PEmono (pe_glob (v := .int i) hg hm ⟨t, rfl⟩ hd) fun σ H Q ⟨F, τ, nw, d, r, q, k⟩ => by
  cases q; exact k _ F H r.refl rfl
def cellD : Option (Option C) → Option (Bool × D)
  | some (some (.d nw d)) => some (nw, d)
  | _ => none
def cellB : Option (Option C) → Option D
  | some (some c) => some (frz c).2
  | _ => none
theorem cellD_some {o : Option (Option C)} {nw : Bool} {d : D} (h : cellD o = some (nw, d)) : o = some (some (.d nw d)) := by
  match o, h with
  | some (some (.d _ _)), h => cases h; rfl
  | some (some (.own _ _)), h => cases h
  | some (some (.dp _)), h => cases h
  | some (some (.dic _ _ _)), h => cases h
  | some none, h => cases h
  | none, h => cases h
theorem cellB_some {o : Option (Option C)} {d : D} (h : cellB o = some d) : ∃ c, o = some (some c) ∧ (frz c).2 = d := by
  match o, h with
  | some (some c), h => exact ⟨c, rfl, Option.some.inj h⟩
  | some none, h => cases h
  | none, h => cases h
def vE (i : Nat) : FE := fun τ => cellD τ[i]?
def vB (i : Nat) : FB := fun τ => cellB τ[i]?
theorem se_var (i : Nat) {x : Str} (hN : X.N[i]? = some x := by rfl) (hv : Vis X.env.scope x := by first | exact Or.inl rfl | exact Or.inr (Or.inl rfl) | exact Or.inr (Or.inr rfl)) (hd : (x == ("__debug__" : Str)) = false := by decide)
    (hcd : (x == ("__classdict__" : Str)) = false := by decide) : SE R H0 X (.Name x pos) (vE i) := PEmono (pe_var hN hv hd hcd) fun σ H Q ⟨F, τ, nw, d, r, q, k⟩ => by
  obtain ⟨G, r⟩ := r
  obtain ⟨v, h1, h2⟩ := r.cell i _ (cellD_some q)
  exact ⟨v, h1, k v F H (.refl r.g.s r.g.t) h2⟩
theorem Cok.borrow {K : PySem.W.Frag} {R F G H : Hp} (sF : Sm F H) (sG : Sm G H) : ∀ {c : C} {v : V}, Cok K R F G c v → Rp K H (Dl.frz c).2 v
  | .d _ d, v, h => Rp.sm (lv_sub.trans sF) h
  | .own _ ds, _, ⟨p, xs, e, g, r⟩ => ⟨p, xs, e, sG p _ g, RpL.sm (lv_sub.trans sF) r⟩
  | .dp _, _, h => Rp.sm sG h
  | .dic _ _ ds, _, ⟨p, xs, e, g, l, r⟩ => ⟨p, xs, e, sG p _ g, l, RpL.sm (lv_sub.trans sF) r⟩
theorem sb_var (i : Nat) {x : Str} (hN : X.N[i]? = some x := by rfl) (hv : Vis X.env.scope x := by first | exact Or.inl rfl | exact Or.inr (Or.inl rfl) | exact Or.inr (Or.inr rfl)) (hd : (x == ("__debug__" : Str)) = false := by decide)
    (hcd : (x == ("__classdict__" : Str)) = false := by decide) : SB R H0 X (.Name x pos) (vB i) := PEmono (pe_var hN hv hd hcd) fun σ H Q ⟨F, τ, d, r, q, k⟩ => by
  obtain ⟨G, r⟩ := r
  obtain ⟨c, e, rfl⟩ := cellB_some q
  obtain ⟨v, h1, h2⟩ := r.cell i _ e
  exact ⟨v, h1, k v F H (.refl r.g.s r.g.t) (h2.borrow r.g.s (r.reg i).s)⟩

/-! ### two operands -/
def bi {α β : Type} (f g : DS → Option α) (op : α → α → Option β) : DS → Option β := fun τ => (f τ).bind fun x => (g τ).bind fun y => op x y
theorem bi_some {α β : Type} {f g : DS → Option α} {op : α → α → Option β} {τ : DS} {z : β} (h : bi f g op τ = some z) : ∃ x y, f τ = some x ∧ g τ = some y ∧ op x y = some z := by
  unfold bi at h
  cases e1 : f τ with
  | none => rw [e1] at h; cases h
  | some x =>
    cases e2 : g τ with
    | none => rw [e1, e2] at h; cases h
    | some y => rw [e1, e2] at h; exact ⟨x, y, rfl, rfl, h⟩
theorem two_se {f g : FE} {ta tb : TE} (ha : ∀ σ H Q, tSE X.K R H0 f σ H Q → ta σ H Q) (hb : ∀ σ H Q, tSE X.K R H0 g σ H Q → tb σ H Q) {σ : L2.St} {H F : Hp} {τ : DS} {x y : Bool × D} {Q : V → V → Hp → Prop} (r : Rel X.K R H0 τ σ F H) (e1 : f τ = some x) (e2 : g τ = some y)
    (k : ∀ v u F' H', Grow F H F' H' → Rp X.K (lv x.1 R F') x.2 v → Rp X.K (lv y.1 R F') y.2 u → Q v u H') : ta σ H fun v H1 => tb σ H1 fun u H2 => Q v u H2 :=
  ha _ _ _ ⟨F, τ, x.1, x.2, r, e1, fun v F1 H1 g1 r1 => hb _ _ _ ⟨F1, τ, y.1, y.2, r.grow g1, e2, fun u F2 H2 g2 r2 => k v u F2 H2 (g1.trans g2) (Rp.sm (lv_mono g2.f) r1) r2⟩⟩
theorem two_sb {f g : FB} {σ : L2.St} {H F : Hp} {τ : DS} {x y : D} {Q : V → V → Hp → Prop} (r : Rel X.K R H0 τ σ F H) (e1 : f τ = some x) (e2 : g τ = some y)
    (k : ∀ v u F' H', Grow F H F' H' → Rp X.K H' x v → Rp X.K H' y u → Q v u H') : tSB X.K R H0 f σ H fun v H1 => tSB X.K R H0 g σ H1 fun u H2 => Q v u H2 :=
  ⟨F, τ, x, r, e1, fun v F1 H1 g1 r1 => ⟨F1, τ, y, r.grow g1, e2, fun u F2 H2 g2 r2 => k v u F2 H2 (g1.trans g2) (Rp.ext g2.h _ _ r1) r2⟩⟩

/-- whole numbers: an operation -/
def oI (C : Int → Int → Bool) (g : Int → Int → D) : D → D → Option (Bool × D)
  | .int i, .int j => if C i j then some (true, g i j) else none
  | _, _ => none
theorem oI_some {C : Int → Int → Bool} {g : Int → Int → D} {x y : D} {nw : Bool} {d : D} (h : oI C g x y = some (nw, d)) : ∃ i j, x = .int i ∧ y = .int j ∧ C i j = true ∧ nw = true ∧ d = g i j := by
  cases x <;> cases y <;> first | (cases h; done) | skip
  rename_i i j
  unfold oI at h
  by_cases c : C i j = true
  · simp only [c, if_true] at h
    cases h
    exact ⟨i, j, rfl, rfl, c, rfl, rfl⟩
  · simp only [c] at h
    cases h
theorem se_opI {f g : FB} {op : Operator} {Cn : Int → Int → Prop} {C : Int → Int → Bool} {gv : Int → Int → V} {gd : Int → Int → D} (ho : OpR X (binaryOp op) (rI Cn gv)) (hC : ∀ i j, C i j = true → Cn i j) (hg : ∀ (H : Hp) i j, Rp X.K H (gd i j) (gv i j)) (ha : SB R H0 X a f) (hb : SB R H0 X b g) :
    SE R H0 X (.BinOp a op b pos) (bi f g (oI C gd)) := PEmono (pe_op ho ha hb) fun σ H Q ⟨F, τ, nw, d, r, q, k⟩ => by
  obtain ⟨x, y, e1, e2, q⟩ := bi_some q
  obtain ⟨i, j, rfl, rfl, c, rfl, rfl⟩ := oI_some q
  exact two_sb r e1 e2 fun v u F' H' g' r1 r2 => ⟨i, j, r1, r2, hC i j c, k _ F' H' g' (hg _ i j)⟩
theorem OpR.rI_of {X : Cx} {f : Value → Value → Sem Value} {g : Int → Int → V} (h : OpR X f (rI0 g)) : OpR X f (rI (fun _ _ => True) g) := fun pins s σ H x y v u Q I rx ry q => by
  obtain ⟨i, j, e1, e2, _, q⟩ := q
  exact h pins s σ H x y v u Q I rx ry ⟨i, j, e1, e2, q⟩
def yes2 : Int → Int → Bool := fun _ _ => true
theorem se_sub {f g : FB} (ha : SB R H0 X a f) (hb : SB R H0 X b g) : SE R H0 X (.BinOp a .Sub b pos) (bi f g (oI yes2 fun i j => .int (i - j))) :=
  se_opI (OpR.rI_of op_sub) (fun _ _ _ => trivial) (fun _ _ _ => rfl) ha hb
def sm64 (i j : Int) : Bool := (decide (-(2 ^ 64) < i) && decide (i < 2 ^ 64)) || (decide (-(2 ^ 64) < j) && decide (j < 2 ^ 64))
theorem sm64_ok {i j : Int} (h : sm64 i j = true) : CMul i j := by
  unfold sm64 at h
  rw [Bool.or_eq_true, Bool.and_eq_true, Bool.and_eq_true, decide_eq_true_eq, decide_eq_true_eq, decide_eq_true_eq, decide_eq_true_eq] at h
  exact h
theorem se_fdiv {f g : FB} (ha : SB R H0 X a f) (hb : SB R H0 X b g) : SE R H0 X (.BinOp a .FloorDiv b pos) (bi f g (oI (fun _ j => decide (0 < j) && decide (j < 1073741824)) fun i j => .int (i / j))) :=
  se_opI op_fdiv (fun i j h => by rw [Bool.and_eq_true, decide_eq_true_eq, decide_eq_true_eq] at h; exact h) (fun _ _ _ => rfl) ha hb
theorem se_mod {f g : FB} (ha : SB R H0 X a f) (hb : SB R H0 X b g) : SE R H0 X (.BinOp a .Mod b pos) (bi f g (oI (fun _ j => decide (0 < j)) fun i j => .int (i % j))) :=
  se_opI op_mod (fun i j h => of_decide_eq_true h) (fun _ _ _ => rfl) ha hb
theorem se_pow {f g : FB} (ha : SB R H0 X a f) (hb : SB R H0 X b g) : SE R H0 X (.BinOp a .Pow b pos) (bi f g (oI (fun i j => decide (0 ≤ j) && decide (j ≤ 1000000) && decide (i.natAbs < 2 ^ 64)) fun i j => .int (i ^ j.toNat))) :=
  se_opI op_pow (fun i j h => by rw [Bool.and_eq_true, Bool.and_eq_true, decide_eq_true_eq, decide_eq_true_eq, decide_eq_true_eq] at h; exact ⟨h.1.1, h.1.2, h.2⟩) (fun _ _ _ => rfl) ha hb
theorem se_shr {f g : FB} (ha : SB R H0 X a f) (hb : SB R H0 X b g) : SE R H0 X (.BinOp a .RShift b pos) (bi f g (oI (fun _ j => decide (0 ≤ j)) fun i j => .int (i / 2 ^ j.toNat))) :=
  se_opI op_shr (fun i j h => of_decide_eq_true h) (fun _ _ _ => rfl) ha hb
theorem se_and {f g : FB} (ha : SB R H0 X a f) (hb : SB R H0 X b g) : SE R H0 X (.BinOp a .BitAnd b pos) (bi f g (oI yes2 fun i j => .int (Builtin.bitAnd i j))) :=
  se_opI (OpR.rI_of op_and) (fun _ _ _ => trivial) (fun _ _ _ => rfl) ha hb
def negD : D → Option (Bool × D)
  | .int i => some (true, .int (-i))
  | _ => none
theorem se_neg {f : FB} (ha : SB R H0 X a f) : SE R H0 X (.UnaryOp .USub a pos) (un1 f negD) := PEmono (pe_un un_neg ha) fun σ H Q ⟨F, τ, nw, d, r, q, k⟩ => by
  obtain ⟨x, e1, q⟩ := un1_some q
  cases x <;> first | (cases q; done) | skip
  cases q
  exact ⟨F, τ, _, r, e1, fun v F' H' g r1 => ⟨_, r1, k _ F' H' g rfl⟩⟩

/-! ### comparisons of whole numbers -/
def cI (p : Int → Int → Bool) : D → D → Option Bool
  | .int i, .int j => some (p i j)
  | _, _ => none
def blE (f : FT) : FE := fun τ => (f τ).map fun b => (true, .bl b)
theorem cmp_of {f g : FB} {op : CmpOp} {rr : R2} {c : D → D → Option Bool} (ho : OpR X (compareOp op) rr) (hm : behindInMarks op b = false)
    (hc : ∀ x y z, c x y = some z → ∀ (F H : Hp) v u Q, Sm F H → Rp X.K H x v → Rp X.K H y u → Q (.bl z) H → rr v u H Q) (ha : SB R H0 X a f) (hb : SB R H0 X b g) :
    ST R H0 X (.Compare a [op] [b] pos) (bi f g c) ∧ SE R H0 X (.Compare a [op] [b] pos) (blE (bi f g c)) := by
  refine ⟨PTmono (pt_cmpR ho ha hb hm) fun σ H Q ⟨F, τ, z, r, q, k⟩ => ?_, PEmono (pe_cmpR ho ha hb hm) fun σ H Q ⟨F, τ, nw, d, r, q, k⟩ => ?_⟩
  · obtain ⟨x, y, e1, e2, q⟩ := bi_some q
    exact two_sb r e1 e2 fun v u F' H' g' r1 r2 => hc x y z q F' H' v u _ g'.s r1 r2 ⟨z, rfl, k F' H' g'⟩
  · unfold blE at q
    cases w : bi f g c τ with
    | none => rw [w] at q; cases q
    | some z =>
      rw [w] at q
      cases q
      obtain ⟨x, y, e1, e2, q⟩ := bi_some w
      exact two_sb r e1 e2 fun v u F' H' g' r1 r2 => hc x y z q F' H' v u _ g'.s r1 r2 (k _ F' H' g' rfl)
theorem cI_ok {p : Int → Int → Bool} {x y : D} {z : Bool} (h : cI p x y = some z) : ∃ i j, x = .int i ∧ y = .int j ∧ z = p i j := by
  cases x <;> cases y <;> first | (cases h; done) | skip
  cases h
  exact ⟨_, _, rfl, rfl, rfl⟩
def lt2 : Int → Int → Bool := fun i j => decide (i < j)
def le2 : Int → Int → Bool := fun i j => decide (i ≤ j)
def gt2 : Int → Int → Bool := fun i j => decide (j < i)
def ge2 : Int → Int → Bool := fun i j => decide (j ≤ i)
theorem c_lt {f g : FB} (ha : SB R H0 X a f) (hb : SB R H0 X b g) : ST R H0 X (.Compare a [.Lt] [b] pos) (bi f g (cI lt2)) ∧ SE R H0 X (.Compare a [.Lt] [b] pos) (blE (bi f g (cI lt2))) :=
  cmp_of op_lt (nomark _) (fun x y z e F H v u Q _ r1 r2 q => by obtain ⟨i, j, rfl, rfl, rfl⟩ := cI_ok e; exact ⟨i, j, r1, r2, q⟩) ha hb
theorem c_le {f g : FB} (ha : SB R H0 X a f) (hb : SB R H0 X b g) : ST R H0 X (.Compare a [.LtE] [b] pos) (bi f g (cI le2)) ∧ SE R H0 X (.Compare a [.LtE] [b] pos) (blE (bi f g (cI le2))) :=
  cmp_of op_le (nomark _) (fun x y z e F H v u Q _ r1 r2 q => by obtain ⟨i, j, rfl, rfl, rfl⟩ := cI_ok e; exact ⟨i, j, r1, r2, q⟩) ha hb
theorem c_gt {f g : FB} (ha : SB R H0 X a f) (hb : SB R H0 X b g) : ST R H0 X (.Compare a [.Gt] [b] pos) (bi f g (cI gt2)) ∧ SE R H0 X (.Compare a [.Gt] [b] pos) (blE (bi f g (cI gt2))) :=
  cmp_of op_gt (nomark _) (fun x y z e F H v u Q _ r1 r2 q => by obtain ⟨i, j, rfl, rfl, rfl⟩ := cI_ok e; exact ⟨i, j, r1, r2, q⟩) ha hb
theorem c_ge {f g : FB} (ha : SB R H0 X a f) (hb : SB R H0 X b g) : ST R H0 X (.Compare a [.GtE] [b] pos) (bi f g (cI ge2)) ∧ SE R H0 X (.Compare a [.GtE] [b] pos) (blE (bi f g (cI ge2))) :=
  cmp_of op_ge (nomark _) (fun x y z e F H v u Q _ r1 r2 q => by obtain ⟨i, j, rfl, rfl, rfl⟩ := cI_ok e; exact ⟨i, j, r1, r2, q⟩) ha hb
/-- is None -/
def isN : D → D → Option Bool
  | .non, .non => some true
  | .bl _, .non | .int _, .non | .str _, .non | .lst _, .non | .tup _, .non | .scr _, .non | .dic _ _, .non | .ins _ _ _, .non => some false
  | _, _ => none
theorem isN_ok {x y : D} {z : Bool} (h : isN x y = some z) {K : PySem.W.Frag} {H : Hp} {v u : V} (r1 : Rp K H x v) (r2 : Rp K H y u) : u = .non ∧ z = decide (v = .non) := by
  cases y <;> first | (cases x <;> cases h; done) | skip
  refine ⟨r2, ?_⟩
  cases x <;> cases h
  · rw [show v = V.non from r1]; rfl
  · rw [show v = _ from r1]; rfl
  · rw [show v = _ from r1]; rfl
  · rw [show v = _ from r1]; rfl
  · obtain ⟨_, _, e, _⟩ := r1; rw [e]; rfl
  · obtain ⟨_, _, e, _⟩ := r1; rw [e]; rfl
  · obtain ⟨_, e, _⟩ := r1; rw [e]; rfl
  · obtain ⟨_, _, e, _⟩ := r1; rw [e]; rfl
  · obtain ⟨_, _, _, e, _⟩ := r1; rw [e]; rfl
theorem c_isN {f g : FB} (ha : SB R H0 X a f) (hb : SB R H0 X b g) : ST R H0 X (.Compare a [.Is] [b] pos) (bi f g isN) ∧ SE R H0 X (.Compare a [.Is] [b] pos) (blE (bi f g isN)) :=
  cmp_of op_isN (nomark _) (fun x y z e F H v u Q _ r1 r2 q => by obtain ⟨h1, h2⟩ := isN_ok e r1 r2; exact ⟨h1, h2 ▸ q⟩) ha hb
def notN (x y : D) : Option Bool := (isN x y).map fun b => !b
theorem c_notN {f g : FB} (ha : SB R H0 X a f) (hb : SB R H0 X b g) : ST R H0 X (.Compare a [.IsNot] [b] pos) (bi f g notN) ∧ SE R H0 X (.Compare a [.IsNot] [b] pos) (blE (bi f g notN)) :=
  cmp_of op_notN (nomark _) (fun x y z e F H v u Q _ r1 r2 q => by
    unfold notN at e
    cases w : isN x y with
    | none => rw [w] at e; cases e
    | some z' =>
      rw [w] at e; cases e
      obtain ⟨h1, h2⟩ := isN_ok w r1 r2
      exact ⟨h1, by rw [← h2]; exact q⟩) ha hb

end
/-! ### == at any depth -/
mutual
def py : D → PyData
  | .non => .none
  | .bl b => .bool b
  | .int i => .int i
  | .str x => .str x
  | .lst ds => .list (pyL ds)
  | .tup ds => .tuple (pyL ds)
  | .scr ns => .list (ns.map .int)
  | .dic _ _ => .dict []
  | .ins _ _ _ => .dict []
def pyL : List D → List PyData
  | [] => []
  | d :: ds => py d :: pyL ds
end
theorem dpInts {K : PySem.W.Frag} {H : Hp} : ∀ ns : List Int, DpAll K H (ns.map V.int) (ns.map PyData.int)
  | [] => .nil
  | n :: ns => .cons (.int n) (dpInts ns)
mutual
/-- data that are compared -/
def plainD : D → Bool
  | .non | .bl _ | .int _ | .str _ | .scr _ => true
  | .lst ds => plainL ds
  | .tup ds => plainL ds
  | .dic _ _ | .ins _ _ _ => false
def plainL : List D → Bool
  | [] => true
  | d :: ds => plainD d && plainL ds
end
mutual
theorem Rp.dp {K : PySem.W.Frag} {H : Hp} : ∀ (d : D) (v : V), plainD d = true → Rp K H d v → Dp K H v (py d)
  | .non, _, _, h => by rw [show _ = V.non from h]; exact .non
  | .bl b, _, _, h => by rw [show _ = V.bl b from h]; exact .bl b
  | .int i, _, _, h => by rw [show _ = V.int i from h]; exact .int i
  | .str x, _, _, h => by rw [show _ = V.str x from h]; exact .str x
  | .lst ds, _, s, ⟨a, xs, e, hq, r⟩ => by rw [e]; exact .lst (.inl (.inl hq)) (RpL.dp ds xs s r)
  | .tup ds, _, s, ⟨a, xs, e, hq, r⟩ => by rw [e]; exact .tup (.inl (.inl hq)) (RpL.dp ds xs s r)
  | .scr ns, _, _, ⟨a, e, hq⟩ => by rw [e]; exact .lst hq (dpInts ns)
  | .dic _ _, _, s, _ => by cases s
  | .ins _ _ _, _, s, _ => by cases s
theorem RpL.dp {K : PySem.W.Frag} {H : Hp} : ∀ (ds : List D) (xs : List V), plainL ds = true → RpL K H ds xs → DpAll K H xs (pyL ds)
  | [], _, _, h => by rw [show _ = [] from h]; exact .nil
  | d :: ds, _, s, ⟨y, r, e, h, t⟩ => by
    have s' : (plainD d && plainL ds) = true := s
    rw [Bool.and_eq_true] at s'
    rw [e]
    exact .cons (Rp.dp d y s'.1 h) (RpL.dp ds r s'.2 t)
end
def okEq (x : D) : Bool := plainD x && SeqAt.shaped (py x)
def eqD (x y : D) : Option Bool := if okEq x && okEq y then some (PyData.eqv (py x) (py y)) else none
def neD (x y : D) : Option Bool := if okEq x && okEq y then some (!PyData.eqv (py x) (py y)) else none
section
variable {R H0 : Hp} {X : Cx} {a b e : Expr} {pos : Pos} {n : Nat}
theorem c_eq {f g : FB} (hr : Room n X.A) (ha : SB R H0 X a f) (hb : SB R H0 X b g) : ST R H0 X (.Compare a [.Eq] [b] pos) (bi f g eqD) ∧ SE R H0 X (.Compare a [.Eq] [b] pos) (blE (bi f g eqD)) :=
  cmp_of (op_eqD hr.units) (nomark _) (fun x y z e F H v u Q _ r1 r2 q => by
    unfold eqD okEq at e
    split at e
    · rename_i h
      simp only [Bool.and_eq_true] at h
      cases e
      exact ⟨_, _, Rp.dp _ _ h.1.1 r1, Rp.dp _ _ h.2.1 r2, h.1.2, h.2.2, q⟩
    · cases e) ha hb
theorem c_ne {f g : FB} (hr : Room n X.A) (ha : SB R H0 X a f) (hb : SB R H0 X b g) : ST R H0 X (.Compare a [.NotEq] [b] pos) (bi f g neD) ∧ SE R H0 X (.Compare a [.NotEq] [b] pos) (blE (bi f g neD)) :=
  cmp_of (op_neD hr.units) (nomark _) (fun x y z e F H v u Q _ r1 r2 q => by
    unfold neD okEq at e
    split at e
    · rename_i h
      simp only [Bool.and_eq_true] at h
      cases e
      exact ⟨_, _, Rp.dp _ _ h.1.1 r1, Rp.dp _ _ h.2.1 r2, h.1.2, h.2.2, q⟩
    · cases e) ha hb
end
end Dl
end
section
set_option Elab.async false
set_option linter.all false
set_option maxRecDepth 100000
set_option maxHeartbeats 4000000
namespace Dl
open PySem PySem.Spec PyProof.Rows L2 GxR Gx
section
variable {R H0 : Hp} {X : Cx} {a b c e : Expr} {rest es : List Expr} {pos : Pos} {n : Nat}

/-! ### and, or, not, if-else -/
def andF (f g : FT) : FT := fun τ => (f τ).bind fun x => if x = true then g τ else some false
def orF (f g : FT) : FT := fun τ => (f τ).bind fun x => if x = true then some true else g τ
theorem bindO {α β : Type} {o : Option α} {g : α → Option β} {z : β} (h : o.bind g = some z) : ∃ x, o = some x ∧ g x = some z := by
  cases o with
  | none => cases h
  | some x => exact ⟨x, rfl, h⟩
theorem sw_and1 {f : FT} (h : ST R H0 X a f) : SW R H0 X (.BoolOp .And [a] pos) f := pw_and1 h
theorem sw_or1 {f : FT} (h : ST R H0 X a f) : SW R H0 X (.BoolOp .Or [a] pos) f := pw_or1 h
theorem sw_and {f g : FT} (h : ST R H0 X a f) (k : SW R H0 X (.BoolOp .And (b :: rest) pos) g) : SW R H0 X (.BoolOp .And (a :: b :: rest) pos) (andF f g) := PWmono (pw_and h k) fun σ H Q ⟨F, τ, z, r, q, k⟩ => by
  obtain ⟨x, e1, q⟩ := bindO q
  refine ⟨F, τ, x, r, e1, fun F1 H1 g1 => ?_⟩
  cases x with
  | true =>
    rw [if_pos rfl] at q
    exact iteT ⟨F1, τ, z, r.grow g1, q, fun F2 H2 g2 => k F2 H2 (g1.trans g2)⟩
  | false =>
    cases q
    exact iteF (k F1 H1 g1)
theorem sw_or {f g : FT} (h : ST R H0 X a f) (k : SW R H0 X (.BoolOp .Or (b :: rest) pos) g) : SW R H0 X (.BoolOp .Or (a :: b :: rest) pos) (orF f g) := PWmono (pw_or h k) fun σ H Q ⟨F, τ, z, r, q, k⟩ => by
  obtain ⟨x, e1, q⟩ := bindO q
  refine ⟨F, τ, x, r, e1, fun F1 H1 g1 => ?_⟩
  cases x with
  | false =>
    rw [if_neg Bool.false_ne_true] at q
    exact iteF ⟨F1, τ, z, r.grow g1, q, fun F2 H2 g2 => k F2 H2 (g1.trans g2)⟩
  | true =>
    cases q
    exact iteT (k F1 H1 g1)
theorem st_w {f : FT} (h : SW R H0 X a f) : ST R H0 X a f := h.pt
theorem st_not {f : FT} (h : ST R H0 X a f) : ST R H0 X (.UnaryOp .Not a pos) (mp f (!·)) := PTmono (pt_not h) fun σ H Q ⟨F, τ, z, r, q, k⟩ => by
  obtain ⟨x, e1, rfl⟩ := mp_some q
  exact ⟨F, τ, x, r, e1, k⟩
def ifF {α : Type} (t : FT) (f g : DS → Option α) : DS → Option α := fun τ => (t τ).bind fun x => if x = true then f τ else g τ
theorem se_if {t : FT} {f g : FE} (h : ST R H0 X c t) (ha : SE R H0 X a f) (hb : SE R H0 X b g) : SE R H0 X (.IfExp c a b pos) (ifF t f g) := PEmono (pe_ifExp h ha hb) fun σ H Q ⟨F, τ, nw, d, r, q, k⟩ => by
  obtain ⟨x, e1, q⟩ := bindO q
  refine ⟨F, τ, x, r, e1, fun F1 H1 g1 => ?_⟩
  cases x with
  | true => exact iteT ⟨F1, τ, nw, d, r.grow g1, q, fun v F2 H2 g2 => k v F2 H2 (g1.trans g2)⟩
  | false => exact iteF ⟨F1, τ, nw, d, r.grow g1, q, fun v F2 H2 g2 => k v F2 H2 (g1.trans g2)⟩
/-- as values -/
theorem se_one {op} {f : FE} (h : SE R H0 X a f) : SE R H0 X (.BoolOp op [a] pos) f := pe_one h
def andE (f g : FE) : FE := fun τ => (f τ).bind fun p => match p.2 with
  | .bl true => g τ
  | .bl false => some (true, .bl false)
  | _ => none
def orE (f g : FE) : FE := fun τ => (f τ).bind fun p => match p.2 with
  | .bl true => some (true, .bl true)
  | .bl false => g τ
  | _ => none
theorem se_andV {f g : FE} (h : SE R H0 X a f) (k : SE R H0 X (.BoolOp .And (b :: rest) pos) g) : SE R H0 X (.BoolOp .And (a :: b :: rest) pos) (andE f g) := PEmono (pe_and h k) fun σ H Q ⟨F, τ, nw, d, r, q, k⟩ => by
  obtain ⟨⟨n1, d1⟩, e1, q⟩ := bindO q
  refine ⟨F, τ, n1, d1, r, e1, fun v F1 H1 g1 rp => ?_⟩
  cases d1 <;> first | (cases q; done) | skip
  rename_i x
  refine ⟨x, rp, ?_⟩
  cases x with
  | true => exact iteT ⟨F1, τ, nw, d, r.grow g1, q, fun v F2 H2 g2 => k v F2 H2 (g1.trans g2)⟩
  | false => cases q; exact iteF (k _ F1 H1 g1 rfl)
theorem se_orV {f g : FE} (h : SE R H0 X a f) (k : SE R H0 X (.BoolOp .Or (b :: rest) pos) g) : SE R H0 X (.BoolOp .Or (a :: b :: rest) pos) (orE f g) := PEmono (pe_or h k) fun σ H Q ⟨F, τ, nw, d, r, q, k⟩ => by
  obtain ⟨⟨n1, d1⟩, e1, q⟩ := bindO q
  refine ⟨F, τ, n1, d1, r, e1, fun v F1 H1 g1 rp => ?_⟩
  cases d1 <;> first | (cases q; done) | skip
  rename_i x
  refine ⟨x, rp, ?_⟩
  cases x with
  | false => exact iteF ⟨F1, τ, nw, d, r.grow g1, q, fun v F2 H2 g2 => k v F2 H2 (g1.trans g2)⟩
  | true => cases q; exact iteT (k _ F1 H1 g1 rfl)
def notD : D → Option (Bool × D)
  | .bl b => some (true, .bl (!b))
  | _ => none
theorem se_not {f : FB} (h : SB R H0 X a f) : SE R H0 X (.UnaryOp .Not a pos) (un1 f notD) := PEmono (pe_not h) fun σ H Q ⟨F, τ, nw, d, r, q, k⟩ => by
  obtain ⟨x, e1, q⟩ := un1_some q
  cases x <;> first | (cases q; done) | skip
  cases q
  exact ⟨F, τ, _, r, e1, fun v F1 H1 g1 rp => ⟨_, rp, k _ F1 H1 g1 rfl⟩⟩

/-! ### argument lists, displays -/
def consA (f : FE) (g : FA) : FA := fun τ => (f τ).bind fun x => (g τ).bind fun y => some (x.1 && y.1, x.2 :: y.2)
def nilA : FA := fun _ => some (true, [])
theorem sa_nil : SA R H0 X [] nilA := PAmono pa_nil fun σ H Q ⟨F, τ, nw, ds, r, q, k⟩ => by
  cases q
  exact k [] F H r.refl rfl
theorem sa_cons {f : FE} {g : FA} (h : SE R H0 X e f) (k : SA R H0 X es g) (hs : starEach (e :: es) X.env = (false, eval e X.env) :: starEach es X.env := by rfl) : SA R H0 X (e :: es) (consA f g) := PAmono (pa_cons h k hs) fun σ H Q ⟨F, τ, nw, ds, r, q, k⟩ => by
  obtain ⟨⟨n1, d1⟩, e1, q⟩ := bindO q
  obtain ⟨⟨n2, d2⟩, e2, q⟩ := bindO q
  cases q
  exact ⟨F, τ, n1, d1, r, e1, fun v F1 H1 g1 r1 => ⟨F1, τ, n2, d2, r.grow g1, e2, fun vs F2 H2 g2 r2 => k (v :: vs) F2 H2 (g1.trans g2) ⟨v, vs, rfl, Rp.sm ((lv_mono g2.f).trans lv_and) r1, RpL.sm lv_and' r2⟩⟩⟩
def lim : Nat := 16777216
theorem lim_eq : lim = sizeLine := rfl
def tupD (p : Bool × List D) : Option (Bool × D) := if p.2.length ≤ lim then some (p.1, .tup p.2) else none
theorem Rel.rn {K : PySem.W.Frag} {τ : DS} {σ : L2.St} {F H : Hp} (r : Rel K R H0 τ σ F H) {p : Addr} (h : H p = none) : R p = none := r.g.f.none (r.s.none h)
theorem se_tup {k} {f : FA} (h : SA R H0 X es f) : SE R H0 X (.Tuple es k pos) (un1 f tupD) := PEmono (pe_tup h) fun σ H Q ⟨F, τ, nw, d, r, q, k⟩ => by
  obtain ⟨⟨n1, ds⟩, e1, q⟩ := un1_some q
  unfold tupD at q
  split at q
  · rename_i hz
    cases q
    refine ⟨F, τ, n1, ds, r, e1, fun vs F1 H1 g1 r1 => ⟨by rw [← r1.length]; exact hz, fun p hp => ?_⟩⟩
    have r2 := r.grow g1
    have g2 : Grow F1 H1 (upd F1 p (.tup vs)) (upd H1 p (.tup vs)) := .new r2.s r2.t hp fun _ z => nomatch z
    exact k _ _ _ (g1.trans g2) ⟨p, vs, rfl, lv_new upd_same (r2.rn hp), RpL.sm (lv_mono g2.f) r1⟩
  · cases q
def sing (p : Addr) (o : HO) : Hp := fun b => if b = p then some o else none
theorem sing_same {p : Addr} {o : HO} : sing p o p = some o := if_pos rfl
/-- a new list (or dict) of one's own -/
theorem pend_new {F H F1 H1 : Hp} (g : Grow F H F1 H1) {p : Addr} {o : HO} (hp : H1 p = none) (ho : ∀ ps, o ≠ .tbl ps) : Pend F H F1 (upd H1 p o) (sing p o) := by
  have at_ : ∀ {b : Addr}, sing p o b ≠ none → b = p := fun {b} hb => by
    unfold sing at hb
    split at hb
    · assumption
    · exact absurd rfl hb
  have eq : ∀ {b : Addr} {x : HO}, sing p o b = some x → b = p ∧ x = o := fun {b x} e => by
    have hb := at_ (b := b) (fun z => by rw [z] at e; cases e)
    subst hb
    rw [sing_same] at e
    exact ⟨rfl, (Option.some.inj e).symm⟩
  refine ⟨g.trans (.heap g.s g.t (Ext.upd hp)), fun b x e => ?_, fun b hb => ?_, fun b ps e => ?_⟩
  · obtain ⟨rfl, rfl⟩ := eq e
    exact upd_same
  · obtain rfl := at_ hb
    exact ⟨g.s.none hp, g.h.none hp⟩
  · obtain ⟨rfl, e2⟩ := eq e
    exact ho ps e2.symm
def ownC (p : Bool × List D) : Option C := if p.2.length ≤ lim then some (.own p.1 p.2) else none
theorem sc_lst {f : FA} (h : SA R H0 X es f) : SC R H0 X (.List es pos) (un1 f ownC) := PEmono (pe_lst h) fun σ H Q ⟨F, τ, c, r, q, k⟩ => by
  obtain ⟨⟨n1, ds⟩, e1, q⟩ := un1_some q
  unfold ownC at q
  split at q
  · rename_i hz
    cases q
    refine ⟨F, τ, n1, ds, r, e1, fun vs F1 H1 g1 r1 => ⟨by rw [← r1.length]; exact hz, fun p hp => ?_⟩⟩
    exact k _ _ _ _ (pend_new g1 hp fun _ z => nomatch z) ⟨p, vs, rfl, sing_same, r1⟩
  · cases q

/-! ### + and * of numbers, texts, lists -/
def addC : (Bool × D) → (Bool × D) → Option C
  | (_, .int i), (_, .int j) => some (.d true (.int (i + j)))
  | (_, .str x), (_, .str y) => if x.length + y.length ≤ lim then some (.d true (.str (x ++ y))) else none
  | (m, .lst xs), (n, .lst ys) => if xs.length + ys.length ≤ lim then some (.own (m && n) (xs ++ ys)) else none
  | _, _ => none
theorem sc_add {f g : FE} (ha : SE R H0 X a f) (hb : SE R H0 X b g) : SC R H0 X (.BinOp a .Add b pos) (bi f g addC) := PEmono (pe_op (op_add.or (op_add_str.or op_cat)) ha hb) fun σ H Q ⟨F, τ, c, r, q, k⟩ => by
  obtain ⟨⟨m, x⟩, ⟨n, y⟩, e1, e2, q⟩ := bi_some q
  refine two_se (fun _ _ _ h => h) (fun _ _ _ h => h) r e1 e2 fun v u F1 H1 g1 r1 r2 => ?_
  unfold addC at q
  split at q
  · rename_i h1 h2
    cases h1; cases h2; cases q
    exact .inl ⟨_, _, r1, r2, k _ F1 H1 emp g1.pend rfl⟩
  · rename_i h1 h2
    cases h1; cases h2
    split at q
    · rename_i hz
      cases q
      exact .inr (.inl ⟨_, _, r1, r2, hz, k _ F1 H1 emp g1.pend rfl⟩)
    · cases q
  · rename_i h1 h2
    cases h1; cases h2
    split at q
    · rename_i hz
      cases q
      obtain ⟨p1, xs, rfl, hx, q1⟩ := r1
      obtain ⟨p2, ys, rfl, hy, q2⟩ := r2
      have s1 := (lv_sub.trans g1.s) p1 _ hx
      have s2 := (lv_sub.trans g1.s) p2 _ hy
      refine .inr (.inr ⟨p1, p2, xs, ys, rfl, rfl, s1, s2, by rw [← q1.length, ← q2.length]; exact hz, fun p hp => k _ _ _ _ (pend_new g1 hp fun _ z => nomatch z) ⟨p, xs ++ ys, rfl, sing_same, RpL.app (RpL.sm lv_and q1) (RpL.sm lv_and' q2)⟩⟩)
    · cases q
  · cases q
def mulC : (Bool × D) → (Bool × D) → Option C
  | (_, .int i), (_, .int j) => if sm64 i j then some (.d true (.int (i * j))) else none
  | (m, .lst xs), (_, .int k) => if (decide (-(2 ^ 63) ≤ k) && decide (k < 2 ^ 63) && decide (xs.length * k.toNat ≤ lim)) then some (.own m (List.replicate k.toNat xs).flatten) else none
  | _, _ => none
theorem RpL.rep {K : PySem.W.Frag} {H : Hp} {ds : List D} {xs : List V} (h : RpL K H ds xs) : ∀ k : Nat, RpL K H (List.replicate k ds).flatten (List.replicate k xs).flatten
  | 0 => rfl
  | k + 1 => by
    rw [List.replicate_succ, List.replicate_succ, List.flatten_cons, List.flatten_cons]
    exact RpL.app h (RpL.rep h k)
theorem sc_mul {f g : FE} (ha : SE R H0 X a f) (hb : SE R H0 X b g) : SC R H0 X (.BinOp a .Mult b pos) (bi f g mulC) := PEmono (pe_op (op_mul.or op_rep) ha hb) fun σ H Q ⟨F, τ, c, r, q, k⟩ => by
  obtain ⟨⟨m, x⟩, ⟨n, y⟩, e1, e2, q⟩ := bi_some q
  refine two_se (fun _ _ _ h => h) (fun _ _ _ h => h) r e1 e2 fun v u F1 H1 g1 r1 r2 => ?_
  unfold mulC at q
  split at q
  · rename_i h1 h2
    cases h1; cases h2
    split at q
    · rename_i hz
      cases q
      exact .inl ⟨_, _, r1, r2, sm64_ok hz, k _ F1 H1 emp g1.pend rfl⟩
    · cases q
  · rename_i h1 h2
    cases h1; cases h2
    split at q
    · rename_i hz
      cases q
      simp only [Bool.and_eq_true, decide_eq_true_eq] at hz
      obtain ⟨p1, xs, rfl, hx, q1⟩ := r1
      have s1 := (lv_sub.trans g1.s) p1 _ hx
      refine .inr ⟨p1, _, xs, rfl, r2, s1, hz.1.1, hz.1.2, by rw [← q1.length]; exact hz.2, fun p hp => k _ _ _ _ (pend_new g1 hp fun _ z => nomatch z) ⟨p, _, rfl, sing_same, RpL.rep q1 _⟩⟩
    · cases q
  · cases q

/-! ### len, isinstance, str -/
def lenD : D → Option (Bool × D)
  | .lst ds => some (true, .int ds.length)
  | .tup ds => some (true, .int ds.length)
  | .scr ns => some (true, .int ns.length)
  | .str x => if x.length ≤ lim then some (true, .int x.length) else none
  | _ => none
theorem se_len {f : FB} {p : Pos} (hg : Gl X "len") (hm : X.mg "len" = none) (h : SB R H0 X a f) (he : starEach [a] X.env = (false, eval a X.env) :: starEach [] X.env := by rfl) : SE R H0 X (.Call (.Name "len" p) [a] [] pos) (un1 f lenD) := PEmono (pe_callB call_len hg hm PySem.boot_len (pa_cons h pa_nil he) (by decide) (by decide) he (by rfl)) fun σ H Q ⟨F, τ, nw, d, r, q, k⟩ => by
  obtain ⟨x, e1, q⟩ := un1_some q
  refine ⟨F, τ, x, r, e1, fun v F1 H1 g1 r1 => ?_⟩
  cases x <;> first | (cases q; done) | skip
  · rename_i z
    have q : (if z.length ≤ lim then some (true, D.int z.length) else none) = some (nw, d) := q
    split at q
    · rename_i hz
      cases q
      obtain rfl : v = V.str z := r1
      exact ⟨_, _, rfl, ⟨hz, rfl⟩, k _ F1 H1 g1 rfl⟩
    · cases q
  · cases q
    obtain ⟨p1, xs, rfl, hx, q1⟩ := r1
    exact ⟨_, xs.length, rfl, .inl ⟨xs, .inl (.inl hx), rfl⟩, by rw [← q1.length]; exact k _ F1 H1 g1 rfl⟩
  · cases q
    obtain ⟨p1, xs, rfl, hx, q1⟩ := r1
    exact ⟨_, xs.length, rfl, .inr ⟨xs, .inl (.inl hx), rfl⟩, by rw [← q1.length]; exact k _ F1 H1 g1 rfl⟩
  · cases q
    rename_i ns
    obtain ⟨p1, rfl, hx⟩ := r1
    exact ⟨_, (ns.map V.int).length, rfl, .inl ⟨_, hx, rfl⟩, by rw [List.length_map]; exact k _ F1 H1 g1 rfl⟩
/-- the types that are asked for -/
inductive Ty where
  | int | bool | str | list | tuple
def Ty.name : Ty → String
  | .int => "int" | .bool => "bool" | .str => "str" | .list => "list" | .tuple => "tuple"
def isi : Ty → D → Option Bool
  | .int, .int _ => some true
  | .int, .bl _ => some true
  | .bool, .bl _ => some true
  | .str, .str _ => some true
  | .list, .lst _ => some true
  | .list, .scr _ => some true
  | .tuple, .tup _ => some true
  | _, .ins _ _ _ => none
  | _, _ => some false
def tyOf : D → String
  | .non => "NoneType" | .bl _ => "bool" | .int _ => "int" | .str _ => "str" | .lst _ => "list" | .scr _ => "list" | .tup _ => "tuple" | .dic _ _ => "dict" | .ins _ _ _ => "object"
theorem isi_ok {T : Ty} {d : D} {z : Bool} (h : isi T d = some z) : kitB (tyOf d) T.name = some z := by
  cases T <;> cases d <;> first | (cases h; done) | (cases h; dsimp only [tyOf, Ty.name]; decide +kernel)
theorem tyx_of {K : PySem.W.Frag} {H : Hp} {d : D} {v : V} (hn : ∀ C fs ds, d ≠ .ins C fs ds) (h : Rp K H d v) : TyX K H v (.type (tyOf d)) := by
  cases d with
  | non => rw [show v = V.non from h]; exact .base .non
  | bl b => rw [show v = V.bl b from h]; exact .base (.bl b)
  | int i => rw [show v = V.int i from h]; exact .base (.int i)
  | str x => rw [show v = V.str x from h]; exact .base (.str x)
  | lst ds => obtain ⟨p, xs, rfl, hx, _⟩ := h; exact .base (.lst hx)
  | tup ds => obtain ⟨p, xs, rfl, hx, _⟩ := h; exact .base (.tup hx)
  | scr ns =>
    obtain ⟨p, rfl, (hx | ⟨o, hx⟩) | ⟨o, its, n, h1, h2, _⟩⟩ := h
    · exact .base (.lst hx)
    · exact .base (.frz hx)
    · exact .kList h1 h2
  | dic ks ds => obtain ⟨p, xs, rfl, hx, _⟩ := h; exact .base (.dK hx)
  | ins C fs ds => exact absurd rfl (hn C fs ds)
def isiE (T : Ty) (d : D) : Option (Bool × D) := (isi T d).map fun b => (true, .bl b)
theorem se_isi (T : Ty) {f : FB} {p p2 : Pos} {x : Str} (hg : Gl X "isinstance") (hm : X.mg "isinstance" = none) (h : SB R H0 X a f) (hg2 : Gl X x) (hm2 : X.mg x = none) (hx : bootBuiltins x = some (.type T.name)) (hn : x ≠ "__name__" := by decide) (hd : (x == ("__debug__" : Str)) = false := by decide)
    (he : starEach [a, .Name x p2] X.env = (false, eval a X.env) :: starEach [.Name x p2] X.env := by rfl) : SE R H0 X (.Call (.Name "isinstance" p) [a, .Name x p2] [] pos) (un1 f (isiE T)) :=
  PEmono (pe_callB call_isi hg hm (by decide +kernel) (pa_cons h (pa_cons (pe_bltn (v := .ty T.name) hg2 hm2 hx rfl hn hd) pa_nil (by rfl)) he) (by decide) (by decide) he (by rfl)) fun σ H Q ⟨F, τ, nw, d, r, q, k⟩ => by
  obtain ⟨x, e1, q⟩ := un1_some q
  refine ⟨F, τ, x, r, e1, fun v F1 H1 g1 r1 => ?_⟩
  unfold isiE at q
  cases w : isi T x with
  | none => rw [w] at q; cases q
  | some z =>
    rw [w] at q; cases q
    refine ⟨v, .ty T.name, .type (tyOf x), .type T.name, z, rfl, .ty _, tyx_of (fun C fs ds e => ?_) r1, kit_ty (isi_ok w), k _ F1 H1 g1 rfl⟩
    subst e
    cases T <;> cases w
def strD : D → Option (Bool × D)
  | .int i => if i.natAbs < 2 ^ 1000 then some (true, .str (toString i)) else none
  | _ => none
theorem se_strI {f : FB} {p : Pos} (hg : Gl X "str") (hm : X.mg "str" = none) (h : SB R H0 X a f) (he : starEach [a] X.env = (false, eval a X.env) :: starEach [] X.env := by rfl) : SE R H0 X (.Call (.Name "str" p) [a] [] pos) (un1 f strD) := PEmono (pe_callTy call_str_int hg hm (by decide +kernel) (pa_cons h pa_nil he) (by decide) (by decide) he (by rfl)) fun σ H Q ⟨F, τ, nw, d, r, q, k⟩ => by
  obtain ⟨x, e1, q⟩ := un1_some q
  refine ⟨F, τ, x, r, e1, fun v F1 H1 g1 r1 => ?_⟩
  cases x <;> first | (cases q; done) | skip
  rename_i i
  have q : (if i.natAbs < 2 ^ 1000 then some (true, D.str (toString i)) else none) = some (nw, d) := q
  split at q
  · rename_i hz
    cases q
    refine ⟨i, by rw [show v = V.int i from r1], ?_, k _ F1 H1 g1 rfl⟩
    by_cases h0 : i.natAbs = 0
    · rw [h0]; decide
    · exact Nat.lt_trans ((Nat.log2_lt h0).mpr hz) (by decide)
  · cases q
end
end Dl
end
section
set_option Elab.async false
set_option linter.all false
set_option maxRecDepth 100000
set_option maxHeartbeats 4000000
namespace Dl
open PySem PySem.Spec PyProof.Rows L2 GxR Gx

theorem lv_imp {a b : Bool} {R F : Hp} (h : b = true → a = true) : Sm (lv a R F) (lv b R F) := by
  cases b with
  | false => rw [lv_false]; exact lv_sub
  | true => rw [h rfl]; exact .refl
theorem lv_scal {K : PySem.W.Frag} {n : Bool} {R F : Hp} {d : D} {v : V} (h : Rp K (lv n R F) d v) : Rp K (lv (n || scal d) R F) d v := by
  cases q : scal d with
  | true => exact Rp.scal q h
  | false => rw [Bool.or_false]; exact h
/-! ### subscripts -/
theorem atI_ix {α : Type} {xs : List α} {i : Int} {x : α} (h : atI xs i = some x) : ∃ j, ixN xs.length i = some j ∧ xs[j]? = some x := by
  unfold atI at h
  cases e : ixN xs.length i with
  | none => rw [e] at h; cases h
  | some j => rw [e] at h; exact ⟨j, rfl, h⟩
theorem RpL.atI {K : PySem.W.Frag} {H : Hp} {ds : List D} {xs : List V} {i : Int} {d : D} (h : RpL K H ds xs) (e : L2.atI ds i = some d) : ∃ x, L2.atI xs i = some x ∧ Rp K H d x := by
  obtain ⟨j, e1, e2⟩ := atI_ix e
  obtain ⟨x, h1, h2⟩ := h.get e2
  refine ⟨x, ?_, h2⟩
  unfold L2.atI
  rw [← h.length, e1]
  exact h1
theorem atI_map {α β : Type} {f : α → β} {xs : List α} {i : Int} {x : α} (h : atI xs i = some x) : atI (xs.map f) i = some (f x) := by
  obtain ⟨j, e1, e2⟩ := atI_ix h
  unfold atI
  rw [List.length_map, e1]
  show (xs.map f)[j]? = _
  rw [List.getElem?_map, e2]
  rfl
def itemE : (Bool × D) → D → Option (Bool × D)
  | (n, .lst ds), .int i => (atI ds i).map fun d => (n || scal d, d)
  | (n, .tup ds), .int i => (atI ds i).map fun d => (n || scal d, d)
  | (_, .scr ns), .int i => (atI ns i).map fun k => (true, .int k)
  | _, _ => none
theorem mapO {α β : Type} {o : Option α} {g : α → β} {z : β} (h : o.map g = some z) : ∃ x, o = some x ∧ g x = z := by
  cases o with
  | none => cases h
  | some x => exact ⟨x, rfl, Option.some.inj h⟩
theorem itemE_some {m nw : Bool} {x y d : D} (h : itemE (m, x) y = some (nw, d)) : ∃ i, y = .int i ∧ ((∃ ds, x = .lst ds ∧ atI ds i = some d ∧ nw = (m || scal d)) ∨ (∃ ds, x = .tup ds ∧ atI ds i = some d ∧ nw = (m || scal d)) ∨ ∃ ns j, x = .scr ns ∧ atI ns i = some j ∧ nw = true ∧ d = .int j) := by
  match x, y, h with
  | .lst ds, .int i, h =>
    obtain ⟨d', e3, e4⟩ := mapO (show (atI ds i).map (fun d => (m || scal d, d)) = some (nw, d) from h)
    cases e4
    exact ⟨i, rfl, .inl ⟨ds, rfl, e3, rfl⟩⟩
  | .tup ds, .int i, h =>
    obtain ⟨d', e3, e4⟩ := mapO (show (atI ds i).map (fun d => (m || scal d, d)) = some (nw, d) from h)
    cases e4
    exact ⟨i, rfl, .inr (.inl ⟨ds, rfl, e3, rfl⟩)⟩
  | .scr ns, .int i, h =>
    obtain ⟨d', e3, e4⟩ := mapO (show (atI ns i).map (fun k => (true, D.int k)) = some (nw, d) from h)
    cases e4
    exact ⟨i, rfl, .inr (.inr ⟨ns, d', rfl, e3, rfl, rfl⟩)⟩
section
variable {R H0 : Hp} {X : Cx} {a b c e : Expr} {rest es : List Expr} {pos p2 : Pos} {n : Nat}
theorem ix_core {K : PySem.W.Frag} {m nw : Bool} {x y d : D} {v u : V} {F1 H1 : Hp} {Q : VK} (q : itemE (m, x) y = some (nw, d)) (s : Sm F1 H1) (r1 : Rp K (lv m R F1) x v) (r2 : ∀ i, y = .int i → u = .int i) (k : ∀ z, Rp K (lv nw R F1) d z → Q z H1) : rIxL K v u H1 Q ∨ rIxT K v u H1 Q := by
  obtain ⟨i, rfl, ⟨ds, rfl, e3, rfl⟩ | ⟨ds, rfl, e3, rfl⟩ | ⟨ns, j, rfl, e3, rfl, rfl⟩⟩ := itemE_some q
  · obtain ⟨p1, xs, rfl, hx, q1⟩ := r1
    obtain ⟨z, h1, h2⟩ := q1.atI e3
    exact .inl ⟨p1, xs, i, z, rfl, r2 i rfl, .inl (.inl ((lv_sub.trans s) _ _ hx)), h1, k _ (lv_scal h2)⟩
  · obtain ⟨p1, xs, rfl, hx, q1⟩ := r1
    obtain ⟨z, h1, h2⟩ := q1.atI e3
    exact .inr ⟨p1, xs, i, z, rfl, r2 i rfl, .inl (.inl ((lv_sub.trans s) _ _ hx)), h1, k _ (lv_scal h2)⟩
  · obtain ⟨p1, rfl, hx⟩ := r1
    exact .inl ⟨p1, _, i, _, rfl, r2 i rfl, SqL.ext (lv_sub.trans s).ext hx, atI_map e3, k _ rfl⟩
theorem se_ix {f : FE} {g : FE} (ha : SE R H0 X a f) (hb : SE R H0 X b g) (hs : PlainIx b := by exact fun _ _ => rfl) : SE R H0 X (.Subscript a b pos) (bi f g fun x y => itemE x y.2) := PEmono (pe_ix (ix_list.or ix_tup) ha hb hs) fun σ H Q ⟨F, τ, nw, d, r, q, k⟩ => by
  obtain ⟨⟨m, x⟩, ⟨m2, y⟩, e1, e2, q⟩ := bi_some q
  exact two_se (fun _ _ _ h => h) (fun _ _ _ h => h) r e1 e2 fun v u F1 H1 g1 r1 r2 => ix_core q g1.s r1 (fun i e => by rw [show y = _ from e] at r2; exact r2) fun z hz => k _ F1 H1 g1 hz
/-- the item of a name, borrowed or not -/
def itemC : Option (Option C) → D → Option (Bool × D)
  | some (some (.d n d)), i => itemE (n, d) i
  | some (some (.own n ds)), .int i => (atI ds i).map fun d => (n || scal d, d)
  | some (some (.dp (.lst ds))), .int i => (atI ds i).bind fun d => if scal d then some (true, d) else none
  | some (some (.dp (.tup ds))), .int i => (atI ds i).bind fun d => if scal d then some (true, d) else none
  | _, _ => none
def itemB : D → D → Option D
  | .lst ds, .int i => atI ds i
  | .tup ds, .int i => atI ds i
  | .scr ns, .int i => (atI ns i).map .int
  | _, _ => none
theorem sb_ix {f : FB} {g : FB} (ha : SB R H0 X a f) (hb : SB R H0 X b g) (hs : PlainIx b := by exact fun _ _ => rfl) : SB R H0 X (.Subscript a b pos) (bi f g itemB) := PEmono (pe_ix (ix_list.or ix_tup) ha hb hs) fun σ H Q ⟨F, τ, d, r, q, k⟩ => by
  obtain ⟨x, y, e1, e2, q⟩ := bi_some q
  refine two_sb r e1 e2 fun v u F1 H1 g1 r1 r2 => ?_
  cases x <;> cases y <;> first | (cases q; done) | skip
  · rename_i ds i
    obtain ⟨p1, xs, rfl, hx, q1⟩ := r1
    obtain ⟨z, h1, h2⟩ := q1.atI (show atI ds i = some d from q)
    exact .inl ⟨p1, xs, i, z, rfl, r2, .inl (.inl hx), h1, k _ F1 H1 g1 h2⟩
  · rename_i ds i
    obtain ⟨p1, xs, rfl, hx, q1⟩ := r1
    obtain ⟨z, h1, h2⟩ := q1.atI (show atI ds i = some d from q)
    exact .inr ⟨p1, xs, i, z, rfl, r2, .inl (.inl hx), h1, k _ F1 H1 g1 h2⟩
  · rename_i ns i
    obtain ⟨d', e3, rfl⟩ := mapO (show (atI ns i).map D.int = _ from q)
    obtain ⟨p1, rfl, hx⟩ := r1
    exact .inl ⟨p1, _, i, _, rfl, r2, hx, atI_map e3, k _ F1 H1 g1 rfl⟩
def xvE (i : Nat) (g : FE) : FE := fun τ => (g τ).bind fun y => itemC τ[i]? y.2
/-- x[b], x a name: the name's own list stays its own -/
theorem se_ixv (i : Nat) {x : Str} {g : FE} (hb : SE R H0 X b g) (hN : X.N[i]? = some x := by rfl) (hv : Vis X.env.scope x := by first | exact Or.inl rfl | exact Or.inr (Or.inl rfl) | exact Or.inr (Or.inr rfl)) (hs : PlainIx b := by exact fun _ _ => rfl)
    (hd : (x == ("__debug__" : Str)) = false := by decide) (hcd : (x == ("__classdict__" : Str)) = false := by decide) : SE R H0 X (.Subscript (.Name x p2) b pos) (xvE i g) :=
  PEmono (pe_ix (ix_list.or ix_tup) (pe_var hN hv hd hcd) hb hs) fun σ H Q ⟨F, τ, nw, d, r, q, k⟩ => by
  obtain ⟨⟨m2, y⟩, e2, q⟩ := bindO q
  obtain ⟨G, rr⟩ := id r
  have q : itemC τ[i]? y = some (nw, d) := q
  cases e : τ[i]? with
  | none => rw [e] at q; cases q
  | some o =>
    cases o with
    | none => rw [e] at q; cases q
    | some cc =>
      rw [e] at q
      obtain ⟨v, h1, h2⟩ := rr.cell i cc e
      refine ⟨v, h1, F, τ, m2, y, r, e2, fun u F1 H1 g1 r2 => ?_⟩
      have lvK : ∀ {n : Bool} {ds : List D} {xs : List V}, RpL X.K (lv n R F) ds xs → RpL X.K (lv n R F1) ds xs := fun h => RpL.sm (lv_mono g1.f) h
      cases cc with
      | d m x => exact ix_core (show itemE (m, x) y = some (nw, d) from q) g1.s (Rp.sm (lv_mono g1.f) h2) (fun i e => by rw [show y = _ from e] at r2; exact r2) fun z hz => k _ F1 H1 g1 hz
      | own m ds =>
        match y, q, r2 with
        | .int i', q, r2 =>
          obtain ⟨d', e3, e4⟩ := mapO (show (atI ds i').map (fun d => (m || scal d, d)) = some (nw, d) from q)
          cases e4
          obtain ⟨p1, xs, rfl, hx, q1⟩ := h2
          obtain ⟨z, h1, h2⟩ := (lvK q1).atI e3
          exact .inl ⟨p1, xs, i', z, rfl, r2, .inl (.inl (g1.h.at ((rr.reg i).s _ _ hx) fun _ z => nomatch z)), h1, k _ F1 H1 g1 (lv_scal h2)⟩
      | dp x =>
        match x, y, q, r2, h2 with
        | .lst ds, .int i', q, r2, h2 =>
          obtain ⟨d', e3, e4⟩ := bindO (show (atI ds i').bind (fun d => if scal d then some (true, d) else none) = some (nw, d) from q)
          split at e4
          · rename_i hs
            cases e4
            obtain ⟨p1, xs, rfl, hx, q1⟩ := h2
            obtain ⟨z, h1, h2⟩ := q1.atI e3
            exact .inl ⟨p1, xs, i', z, rfl, r2, .inl (.inl (g1.h.at ((rr.reg i).s _ _ hx) fun _ z => nomatch z)), h1, k _ F1 H1 g1 (Rp.scal hs h2)⟩
          · cases e4
        | .tup ds, .int i', q, r2, h2 =>
          obtain ⟨d', e3, e4⟩ := bindO (show (atI ds i').bind (fun d => if scal d then some (true, d) else none) = some (nw, d) from q)
          split at e4
          · rename_i hs
            cases e4
            obtain ⟨p1, xs, rfl, hx, q1⟩ := h2
            obtain ⟨z, h1, h2⟩ := q1.atI e3
            exact .inr ⟨p1, xs, i', z, rfl, r2, .inl (.inl (g1.h.at ((rr.reg i).s _ _ hx) fun _ z => nomatch z)), h1, k _ F1 H1 g1 (Rp.scal hs h2)⟩
          · cases e4
      | dic m ks ds => cases y <;> cases q

/-! ### slices -/
abbrev FO := DS → Option (Option Int)
def tSO (K : PySem.W.Frag) (R H0 : Hp) (f : FO) : TO := fun σ H Q => ∃ F τ o, Rel K R H0 τ σ F H ∧ f τ = some o ∧ ∀ F' H', Grow F H F' H' → Q o H'
theorem POmono {X : Cx} {e : Option Expr} {t t' : TO} (h : PO X e t) (w : ∀ σ H Q, t' σ H Q → t σ H Q) : PO X e t' := ⟨fun pins s σ H Q I q => h.run pins s σ H Q I (w σ H Q q)⟩
abbrev SO (R H0 : Hp) (X : Cx) (e : Option Expr) (f : FO) : Prop := PO X e (tSO X.K R H0 f)
def intO : D → Option (Option Int)
  | .int i => some (some i)
  | _ => none
theorem so_none : SO R H0 X none (fun _ => some none) := POmono po_none fun σ H Q ⟨F, τ, o, r, q, k⟩ => by
  cases q; exact k F H r.refl
theorem so_some {f : FB} (h : SB R H0 X e f) : SO R H0 X (some e) (un1 f intO) := POmono (po_some h) fun σ H Q ⟨F, τ, o, r, q, k⟩ => by
  obtain ⟨x, e1, q⟩ := un1_some q
  cases x <;> first | (cases q; done) | skip
  cases q
  exact ⟨F, τ, _, r, e1, fun v F1 H1 g1 r1 => ⟨_, r1, k F1 H1 g1⟩⟩
def cutL {α : Type} (xs : List α) (lo hi : Option Int) : List α := (xs.drop (HT.sIx xs.length 0 lo)).take (HT.sIx xs.length xs.length hi - HT.sIx xs.length 0 lo)
theorem RpL.cut {K : PySem.W.Frag} {H : Hp} {ds : List D} {xs : List V} {lo hi : Option Int} (h : RpL K H ds xs) : RpL K H (cutL ds lo hi) (cutV xs lo hi) := by
  unfold cutL cutV
  rw [← h.length]
  exact (h.drop _).take _
def cutC (p : Bool × D) (lo hi : Option Int) : Option C := match p with
  | (n, .lst ds) => some (.own (n || allScal ds) (cutL ds lo hi))
  | (n, .tup ds) => if HT.sIx ds.length 0 lo = 0 ∧ HT.sIx ds.length ds.length hi = ds.length then none else some (.d (n || allScal ds) (.tup (cutL ds lo hi)))
  | _ => none
def slF {α : Type} (f : DS → Option α) (l u : FO) (g : α → Option Int → Option Int → Option C) : FC := fun τ => (f τ).bind fun x => (l τ).bind fun lo => (u τ).bind fun hi => g x lo hi
theorem lvL_scal {K : PySem.W.Frag} {n : Bool} {R F : Hp} {ds : List D} {xs : List V} (h : RpL K (lv n R F) ds xs) : RpL K (lv (n || allScal ds) R F) ds xs := by
  cases q : allScal ds with
  | true => exact RpL.scal q h
  | false => rw [Bool.or_false]; exact h
theorem sc_slice {f : FE} {l u : FO} {lo hi : Option Expr} (ha : SE R H0 X a f) (hl : SO R H0 X lo l) (hu : SO R H0 X hi u) : SC R H0 X (.Subscript a (.Slice lo hi none p2) pos) (slF f l u cutC) := PEmono (pe_slice (sl_list.or sl_tup) ha hl hu) fun σ H Q ⟨F, τ, c, r, q, k⟩ => by
  obtain ⟨⟨m, x⟩, e1, q⟩ := bindO q
  obtain ⟨lo', e2, q⟩ := bindO q
  obtain ⟨hi', e3, q⟩ := bindO q
  refine ⟨F, τ, m, x, r, e1, fun v F1 H1 g1 r1 => ⟨F1, τ, lo', r.grow g1, e2, fun F2 H2 g2 => ⟨F2, τ, hi', (r.grow g1).grow g2, e3, fun F3 H3 g3 => ?_⟩⟩⟩
  have gg := (g1.trans g2).trans g3
  have r1 : Rp X.K (lv m R F3) x v := Rp.sm (lv_mono (g2.trans g3).f) r1
  match x, q, r1 with
  | .lst ds, q, r1 =>
    have q : some (C.own (m || allScal ds) (cutL ds lo' hi')) = some c := q
    cases q
    obtain ⟨p1, xs, rfl, hx, q1⟩ := r1
    refine .inl ⟨p1, xs, rfl, .inl (.inl ((lv_sub.trans gg.s) _ _ hx)), fun p hp => k _ _ _ _ (pend_new gg hp fun _ z => nomatch z) ⟨p, _, rfl, sing_same, (lvL_scal q1).cut⟩⟩
  | .tup ds, q, r1 =>
    have q : (if HT.sIx ds.length 0 lo' = 0 ∧ HT.sIx ds.length ds.length hi' = ds.length then none else some (C.d (m || allScal ds) (.tup (cutL ds lo' hi')))) = some c := q
    split at q
    · cases q
    · rename_i hw
      cases q
      obtain ⟨p1, xs, rfl, hx, q1⟩ := r1
      have r3 := r.grow gg
      refine .inr ⟨p1, xs, rfl, .inl (.inl ((lv_sub.trans gg.s) _ _ hx)), by rw [← q1.length]; exact hw, fun p hp => ?_⟩
      have g4 : Grow F3 H3 (upd F3 p (.tup (cutV xs lo' hi'))) (upd H3 p (.tup (cutV xs lo' hi'))) := .new r3.s r3.t hp fun _ z => nomatch z
      exact k _ _ _ emp (gg.trans g4).pend ⟨p, _, rfl, lv_new upd_same (r3.rn hp), RpL.sm (lv_mono g4.f) (lvL_scal q1).cut⟩

/-! ### methods of texts -/
def asciiD : D → Option (Bool × D)
  | .str x => some (true, .bl (Txt.isascii x))
  | _ => none
def printD : D → Option (Bool × D)
  | .str x => some (true, .bl (Txt.isprintable x))
  | _ => none
theorem se_isascii {f : FB} {ap : Pos} (h : SB R H0 X a f) (hbase : attributeBase a "isascii" X.env (eval a X.env) = eval a X.env := by rfl) (hline : (ap.endLine == pos.line) = true := by rfl) : SE R H0 X (.Call (.Attribute a "isascii" ap) [] [] pos) (un1 f asciiD) :=
  PEmono (pe_bm0 PySem.F.plainAttrs_str PySem.F.slot_str_isascii PySem.F.type_str_isascii mt_isascii h hbase hline) fun σ H Q ⟨F, τ, nw, d, r, q, k⟩ => by
  obtain ⟨x, e1, q⟩ := un1_some q
  cases x <;> first | (cases q; done) | skip
  cases q
  rename_i z
  refine ⟨F, τ, _, r, e1, fun v F1 H1 g1 r1 => ?_⟩
  obtain rfl : v = V.str z := r1
  exact ⟨by first | exact ⟨_, rfl⟩ | exact rfl, z, rfl, rfl, trivial, k _ F1 H1 g1 rfl⟩
theorem se_isprint {f : FB} {ap : Pos} (h : SB R H0 X a f) (hbase : attributeBase a "isprintable" X.env (eval a X.env) = eval a X.env := by rfl) (hline : (ap.endLine == pos.line) = true := by rfl) : SE R H0 X (.Call (.Attribute a "isprintable" ap) [] [] pos) (un1 f printD) :=
  PEmono (pe_bm0 PySem.F.plainAttrs_str PySem.F.slot_str_isprintable PySem.F.type_str_isprintable mt_isprintable h hbase hline) fun σ H Q ⟨F, τ, nw, d, r, q, k⟩ => by
  obtain ⟨x, e1, q⟩ := un1_some q
  cases x <;> first | (cases q; done) | skip
  cases q
  rename_i z
  refine ⟨F, τ, _, r, e1, fun v F1 H1 g1 r1 => ?_⟩
  obtain rfl : v = V.str z := r1
  exact ⟨by first | exact ⟨_, rfl⟩ | exact rfl, z, rfl, rfl, trivial, k _ F1 H1 g1 rfl⟩
/-- list(x) -/
def listC : (Bool × D) → Option C
  | (n, .lst ds) => some (.own (n || allScal ds) ds)
  | (n, .tup ds) => some (.own (n || allScal ds) ds)
  | _ => none
theorem sc_list {f : FE} {p : Pos} (hg : Gl X "list") (hm : X.mg "list" = none) (h : SE R H0 X a f) (he : starEach [a] X.env = (false, eval a X.env) :: starEach [] X.env := by rfl) : SC R H0 X (.Call (.Name "list" p) [a] [] pos) (un1 f listC) := PEmono (pe_callTy call_list_of hg hm (by decide +kernel) (pa_cons h pa_nil he) (by decide) (by decide) he (by rfl)) fun σ H Q ⟨F, τ, c, r, q, k⟩ => by
  obtain ⟨⟨m, x⟩, e1, q⟩ := un1_some q
  refine ⟨F, τ, m, x, r, e1, fun v F1 H1 g1 r1 => ?_⟩
  cases x <;> first | (cases q; done) | skip
  · cases q
    obtain ⟨p1, xs, rfl, hx, q1⟩ := r1
    exact ⟨p1, xs, rfl, .inl (.inl (.inl ((lv_sub.trans g1.s) _ _ hx))), fun p hp => k _ _ _ _ (pend_new g1 hp fun _ z => nomatch z) ⟨p, xs, rfl, sing_same, lvL_scal q1⟩⟩
  · cases q
    obtain ⟨p1, xs, rfl, hx, q1⟩ := r1
    exact ⟨p1, xs, rfl, .inr (.inl (.inl ((lv_sub.trans g1.s) _ _ hx))), fun p hp => k _ _ _ _ (pend_new g1 hp fun _ z => nomatch z) ⟨p, xs, rfl, sing_same, lvL_scal q1⟩⟩
end

/-! ### calls of own defs -/
inductive Res where
  | ok (nw : Bool) (d : D)
  | er (C : Addr) (fs : List (Str × D))
abbrev Phi := List D → Option Res
def Tabs (cs : List (Addr × Addr)) (H : Hp) : Prop := ∀ p ∈ cs, TabG H p.2
theorem Tabs.ext {cs : List (Addr × Addr)} {H H' : Hp} (x : Ext H H') (h : Tabs cs H) : Tabs cs H' := fun p hp => by
  obtain ⟨ps, e, t⟩ := h p hp
  rcases x _ _ e with q | ⟨qs, qs', e1, e2, t2⟩
  · exact ⟨ps, q, t⟩
  · cases e1; exact ⟨qs', e2, t2 t⟩
/-- a def's promise: its value by φ -/
def ResOk (K : PySem.W.Frag) (R H : Hp) (Q : VK) (E : XK) : Res → Prop
  | .ok nw d => ∀ v F' H', Grow R H F' H' → Rp K (lv nw R F') d v → Q v H'
  | .er C fs => ∀ dx F' H', Grow R H F' H' → (∃ xs, H' dx = some (.xd xs) ∧ ∀ f d, fs.lookup f = some d → ∃ v, xs.lookup f = some v ∧ Rp K F' d v) → E (.ref C) (some dx) H'
def spD (K : PySem.W.Frag) (cs : List (Addr × Addr)) (np : Nat) (φ : Phi) : Sp := fun vs H Q E => vs.length = np ∧ Tabs cs H ∧ ∃ R ds r, Sm R H ∧ NoTbl R ∧ RpL K R ds vs ∧ φ ds = some r ∧ ResOk K R H Q E r
def resC (n : Bool) : Res → Option C
  | .ok true d => some (.dp d)
  | .ok false d => some (.d (n || scal d) d)
  | .er _ _ => none
def callC (φ : Phi) (g : FA) : FC := fun τ => (g τ).bind fun p => (φ p.2).bind (resC p.1)
theorem join_sm {F G H : Hp} (s1 : Sm F H) (s2 : Sm G H) : Sm (join F G) H := fun b o e => by
  cases q : G b with
  | none => rw [join_f q] at e; exact s1 b o e
  | some u => rw [join_g q] at e; cases e; exact s2 b _ q
section
variable {R H0 : Hp} {X : Cx} {a b c e : Expr} {rest es : List Expr} {pos p2 : Pos} {n : Nat} {CX : CXT} {k : Nat} {f : Addr} {fd : FuncData} {ps : List Str} {cs : List (Addr × Addr)} {np : Nat} {φ : Phi} {x : Str} {p : Pos}
theorem call_core {τ : DS} {σ : L2.St} {F H F1 H1 : Hp} {m : Bool} {ds : List D} {vs : List V} {c : C} {Q : VK} {res : Res} (hT : Tabs cs H0) (hl : vs.length = np) (r : Rel X.K R H0 τ σ F H) (g1 : Grow F H F1 H1) (r1 : RpL X.K (lv m R F1) ds vs) (e2 : φ ds = some res) (q : resC m res = some c)
    (kk : ∀ v F' H' Gp, Pend F H F' H' Gp → Cok X.K R F' Gp c v → Q v H') : spD X.K cs np φ vs H1 Q E0 := by
  have r2 := r.grow g1
  have sR : Sm (lv m R F1) H1 := lv_sub.trans g1.s
  have tR : NoTbl (lv m R F1) := fun b ps e => g1.t b ps (lv_sub b _ e)
  refine ⟨hl, Tabs.ext r2.g.h hT, lv m R F1, ds, res, sR, tR, r1, e2, ?_⟩
  cases res with
  | er C fs => cases q
  | ok nw d =>
    intro v F' H' g2 rv
    have hnew : ∀ {b : Addr}, lv true (lv m R F1) F' b ≠ none → H1 b = none := fun {b} hb => by
      have hn : lv m R F1 b = none := by
        cases z : lv m R F1 b with
        | none => rfl
        | some u =>
          refine absurd ?_ hb
          unfold lv
          rw [if_pos (by simp only [Bool.true_and]; unfold lv at z; rw [z]; rfl)]
      rcases g2.n b (fun z => hb (by
        cases w : lv true (lv m R F1) F' b with
        | none => rfl
        | some u => have := lv_sub b _ w; rw [z] at this; cases this)) with q | q
      · exact absurd hn q
      · exact q
    cases nw with
    | true =>
      have q : some (C.dp d) = some c := q
      cases q
      refine kk v F1 H' (lv true (lv m R F1) F') ⟨g1.trans (.heap g1.s g1.t g2.h), lv_sub.trans g2.s, fun b hb => ⟨g1.s.none (hnew hb), g1.h.none (hnew hb)⟩, fun b ps e => g2.t b ps (lv_sub b _ e)⟩ rv
    | false =>
      have q : some (C.d (m || scal d) d) = some c := q
      cases q
      rw [lv_false] at rv
      have sJ : Sm F1 (join F1 F') := fun b o e => by
        cases z : F' b with
        | none => rw [join_f z]; exact e
        | some u =>
          rw [join_g z]
          have h1 := g2.h.at (g1.s b o e) fun ps z => g1.t b ps (z ▸ e)
          have h2 := g2.s b u z
          rw [h1] at h2
          exact h2.symm
      have g3 : Grow F1 H1 (join F1 F') H' := ⟨sJ, g2.h, join_sm (Sm.of_ext g1.s g1.t g2.h) g2.s, fun b hb => by
        cases z : F' b with
        | none => rw [join_f z] at hb; exact .inl hb
        | some u =>
          rcases g2.n b (by rw [z]; exact fun z => nomatch z) with w | w
          · exact .inl fun y => w (by
              cases q3 : lv m R F1 b with
              | none => rfl
              | some u2 => have := lv_sub b _ q3; rw [y] at this; cases this)
          · exact .inr w, fun b ps e => by
        cases z : F' b with
        | none => rw [join_f z] at e; exact g1.t b ps e
        | some u => rw [join_g z] at e; cases e; exact g2.t b ps z⟩
      have lvl : Sm F' (lv m R (join F1 F')) := fun b o e => by
        unfold lv
        rw [join_g e]
        rw [if_neg]
        intro hh
        rw [Bool.and_eq_true] at hh
        obtain ⟨hm, hR⟩ := hh
        -- an address of R is none of the level's
        have hb : H1 b ≠ none := fun z => by
          have := r2.rn z
          rw [this] at hR; cases hR
        rcases g2.n b (by rw [e]; exact fun z => nomatch z) with w | w
        · refine w ?_
          unfold lv
          rw [if_pos (by rw [hm, hR]; rfl)]
        · exact hb w
      exact kk v _ H' emp (g1.trans g3).pend (lv_scal (Rp.sm lvl rv))
theorem sc_call {g : FA} (hT : Tabs cs H0) (F : FnOk X.prog X.w X.K X.mg X.base CX k f fd ps (spD X.K cs np φ)) (hr : Room k X.A) (hg : Gl X x) (hm : X.mg x = some (.ref f)) (hk : PySem.W.keepIn X.K (.ref f) = true) (hb : Binds X.K fd ps []) (hx : Passes CX X E0) (hn : (e :: es).length = np)
    (h : SA R H0 X (e :: es) g) (hlen : ∀ τ p, g τ = some p → p.2.length = np) (hdb : (x == ("__debug__" : Str)) = false := by decide) (he : starEach (e :: es) X.env = (false, eval e X.env) :: starEach es X.env := by rfl) (hpl : (backTo pos (starEach es X.env)).any (·.1) = false := by rfl) :
    SC R H0 X (.Call (.Name x p) (e :: es) [] pos) (callC φ g) := PEmono (pe_call F hr hg hm hk hb .nil hx h hdb he hpl) fun σ H Q ⟨F1, τ, c, r, q, kk⟩ => by
  obtain ⟨⟨m, ds⟩, e1, q⟩ := bindO q
  obtain ⟨res, e2, q⟩ := bindO q
  refine ⟨F1, τ, m, ds, r, e1, fun vs F2 H2 g1 r1 => ?_⟩
  show spD X.K cs np φ (vs ++ []) H2 Q E0
  rw [List.append_nil]
  exact call_core hT (by rw [← r1.length]; exact hlen τ _ e1) r g1 r1 e2 q kk
theorem sc_call0 (hT : Tabs cs H0) (F : FnOk X.prog X.w X.K X.mg X.base CX k f fd ps (spD X.K cs 0 φ)) (hr : Room k X.A) (hg : Gl X x) (hm : X.mg x = some (.ref f)) (hk : PySem.W.keepIn X.K (.ref f) = true) (hb : Binds X.K fd ps []) (hx : Passes CX X E0)
    (hdb : (x == ("__debug__" : Str)) = false := by decide) : SC R H0 X (.Call (.Name x p) [] [] pos) (callC φ nilA) := PEmono (pe_call0 F hr hg hm hk hb .nil hx hdb) fun σ H Q ⟨F1, τ, c, r, q, kk⟩ => by
  obtain ⟨⟨m, ds⟩, e1, q⟩ := bindO q
  obtain ⟨res, e2, q⟩ := bindO q
  cases e1
  exact call_core (vs := []) hT rfl r r.refl (show RpL _ _ [] [] from rfl) e2 q kk
end
theorem len_nilA {τ : DS} {p : Bool × List D} (h : nilA τ = some p) : p.2.length = 0 := by cases h; rfl
theorem len_consA {f : FE} {g : FA} {n : Nat} (hg : ∀ τ p, g τ = some p → p.2.length = n) : ∀ τ p, consA f g τ = some p → p.2.length = n + 1 := fun τ p h => by
  obtain ⟨x, _, h⟩ := bindO h
  obtain ⟨y, e, h⟩ := bindO h
  cases h
  rw [List.length_cons, hg τ y e]
end Dl
end
section
set_option Elab.async false
set_option linter.all false
set_option maxRecDepth 100000
set_option maxHeartbeats 4000000
namespace Dl
open PySem PySem.Spec PyProof.Rows L2 GxR Gx

/-! ### targets -/
abbrev TgD := (Bool × D) → DS → Option DS
abbrev TgsD := List (Bool × D) → DS → Option DS
def TgOk (K : PySem.W.Frag) (R H0 : Hp) (g : TG) (t : TgD) (sl : List Nat) : Prop :=
  ∀ (x : V) (σ : L2.St) (H F : Hp) (τ : DS) (p : Bool × D) (τ' : DS), Rel K R H0 τ σ F H → Rp K (lv p.1 R F) p.2 x → t p τ = some τ' → ∀ k : L2.St → Hp → Prop, (∀ σ', Rel K R H0 τ' σ' F H → (∀ j, j ∉ sl → σ'[j]? = σ[j]?) → σ'.length = σ.length → k σ' H) → g x σ H k
def RpF (K : PySem.W.Frag) (R F : Hp) : List (Bool × D) → List V → Prop
  | [], xs => xs = []
  | p :: ps, xs => ∃ x r, xs = x :: r ∧ Rp K (lv p.1 R F) p.2 x ∧ RpF K R F ps r
def TgsOk (K : PySem.W.Frag) (R H0 : Hp) (g : TGs) (t : TgsD) (sl : List Nat) : Prop :=
  ∀ (xs : List V) (σ : L2.St) (H F : Hp) (τ : DS) (ps : List (Bool × D)) (τ' : DS), Rel K R H0 τ σ F H → RpF K R F ps xs → t ps τ = some τ' → ∀ k : L2.St → Hp → Prop, (∀ σ', Rel K R H0 τ' σ' F H → (∀ j, j ∉ sl → σ'[j]? = σ[j]?) → σ'.length = σ.length → k σ' H) → g xs σ H k
def nameT (i : Nat) : TgD := fun p τ => some (τ.set i (some (.d p.1 p.2)))
def nilT : TgsD := fun ps τ => match ps with
  | [] => some τ
  | _ => none
def consT (t : TgD) (u : TgsD) : TgsD := fun ps τ => match ps with
  | p :: ps => (t p τ).bind (u ps)
  | [] => none
def flag (n : Bool) (ds : List D) : List (Bool × D) := ds.map fun d => (n || scal d, d)
def tupT (u : TgsD) : TgD := fun p τ => match p with
  | (n, .tup ds) => u (flag n ds) τ
  | _ => none
def unlT (u : TgsD) : TgD := fun p τ => match p with
  | (n, .lst ds) => u (flag n ds) τ
  | _ => none
theorem RpL.flag {K : PySem.W.Frag} {R F : Hp} {n : Bool} : ∀ {ds : List D} {xs : List V}, RpL K (lv n R F) ds xs → RpF K R F (flag n ds) xs
  | [], _, h => h
  | d :: ds, _, ⟨y, r, e, h, t⟩ => ⟨y, r, e, lv_scal h, RpL.flag t⟩
section
variable {K : PySem.W.Frag} {R H0 : Hp}
theorem tg_name (i : Nat) : TgOk K R H0 (gName i) (nameT i) [i] := fun x σ H F τ p τ' r rp e k hk => by
  cases e
  refine hk _ (r.store (c := .d p.1 p.2) r.refl.pend rp) (fun j hj => ?_) (List.length_set ..)
  have hj : i ≠ j := fun z => hj (by rw [z]; exact List.mem_singleton.mpr rfl)
  exact List.getElem?_set_ne hj
theorem tgs_nil : TgsOk K R H0 gNil nilT [] := fun xs σ H F τ ps τ' r rp e k hk => by
  cases ps with
  | nil => cases e; exact ⟨rp, hk σ r (fun _ _ => rfl) rfl⟩
  | cons _ _ => cases e
theorem tgs_cons {g : TG} {gs : TGs} {t : TgD} {u : TgsD} {s1 s2 : List Nat} (a : TgOk K R H0 g t s1) (b : TgsOk K R H0 gs u s2) : TgsOk K R H0 (gCons g gs) (consT t u) (s1 ++ s2) := fun xs σ H F τ ps τ' r rp e k hk => by
  cases ps with
  | nil => cases e
  | cons p ps =>
    obtain ⟨τ1, e1, e2⟩ := bindO (show (t p τ).bind (u ps) = some τ' from e)
    obtain ⟨x, xr, rfl, r1, r2⟩ := rp
    refine ⟨x, xr, rfl, a x σ H F τ p τ1 r r1 e1 _ fun σ1 rel1 h1 l1 => b xr σ1 H F τ1 ps τ' rel1 r2 e2 _ fun σ2 rel2 h2 l2 => hk σ2 rel2 (fun j hj => ?_) (l2.trans l1)⟩
    rw [h2 j fun z => hj (List.mem_append_right _ z), h1 j fun z => hj (List.mem_append_left _ z)]
theorem RpF.length {F : Hp} : ∀ {ps : List (Bool × D)} {xs : List V}, RpF K R F ps xs → ps.length = xs.length
  | [], _, h => by rw [show _ = [] from h]; rfl
  | _ :: _, _, ⟨_, _, e, _, t⟩ => by rw [e, List.length_cons, List.length_cons, RpF.length t]
/-- how many names -/
def ArT (n : Nat) (u : TgsD) : Prop := ∀ ps τ τ', u ps τ = some τ' → ps.length = n
theorem ar_nil : ArT 0 nilT := fun ps τ τ' e => by cases ps with
  | nil => rfl
  | cons _ _ => cases e
theorem ar_cons {n : Nat} {t : TgD} {u : TgsD} (h : ArT n u) : ArT (n + 1) (consT t u) := fun ps τ τ' e => by
  cases ps with
  | nil => cases e
  | cons p ps =>
    obtain ⟨τ1, e1, e2⟩ := bindO (show (t p τ).bind (u ps) = some τ' from e)
    rw [List.length_cons, h ps τ1 τ' e2]
theorem tg_tup {gs : TGs} {u : TgsD} {sl : List Nat} {n : Nat} (a : TgsOk K R H0 gs u sl) (ar : ArT n u) : TgOk K R H0 (gTup K n gs) (tupT u) sl := fun x σ H F τ p τ' r rp e k hk => by
  obtain ⟨m, d⟩ := p
  match d, e, rp with
  | .tup ds, e, ⟨p1, xs, e1, hx, q1⟩ =>
    have l := ar _ _ _ (show u (flag m ds) τ = some τ' from e)
    have q2 := RpL.flag (R := R) q1
    exact ⟨p1, xs, e1, .inl (.inl ((lv_sub.trans r.s) _ _ hx)), by rw [← q2.length]; exact l, a xs σ H F τ _ τ' r q2 e k hk⟩
theorem tg_unl {gs : TGs} {u : TgsD} {sl : List Nat} {n : Nat} (a : TgsOk K R H0 gs u sl) (ar : ArT n u) : TgOk K R H0 (gUnl K n gs) (unlT u) sl := fun x σ H F τ p τ' r rp e k hk => by
  obtain ⟨m, d⟩ := p
  match d, e, rp with
  | .lst ds, e, ⟨p1, xs, e1, hx, q1⟩ =>
    have l := ar _ _ _ (show u (flag m ds) τ = some τ' from e)
    have q2 := RpL.flag (R := R) q1
    exact ⟨p1, xs, e1, .inl (.inl ((lv_sub.trans r.s) _ _ hx)), by rw [← q2.length]; exact l, a xs σ H F τ _ τ' r q2 e k hk⟩
end
/-- a tuple or a list -/
def orT (a b : TgD) : TgD := fun p τ => match p.2 with
  | .tup _ => a p τ
  | _ => b p τ
def orG (a b : TG) : TG := fun v σ H Q => a v σ H Q ∨ b v σ H Q
theorem pg_or {X : Cx} {e : Expr} {a b : TG} (h : PG X e a) (k : PG X e b) : PG X e (orG a b) := ⟨fun pins s σ H v u Q I r q => q.elim (fun q => h.run pins s σ H v u Q I r q) fun q => k.run pins s σ H v u Q I r q⟩
theorem tg_or {K : PySem.W.Frag} {R H0 : Hp} {a b : TG} {t u : TgD} {sl : List Nat} (h : TgOk K R H0 a t sl) (k : TgOk K R H0 b u sl) : TgOk K R H0 (orG a b) (orT t u) sl := fun x σ H F τ p τ' r rp e kk hk => by
  obtain ⟨m, d⟩ := p
  cases d <;> first | exact .inl (h x σ H F τ _ τ' r rp e kk hk) | exact .inr (k x σ H F τ _ τ' r rp e kk hk)

/-! ### what is walked -/
abbrev FI := DS → Option (List (Bool × D))
def IterOk (K : PySem.W.Frag) (R : Hp) (J : It) (items : List (Bool × D)) (F : Hp) : Prop :=
  ∀ i F' H', Sm F F' → Sm F' H' → NoTbl F' → Sm R F' → (∀ p, items[i]? = some p → J.go i H' ∧ ∀ x H'', J.yld i H' x H'' → ∃ F'', Grow F' H' F'' H'' ∧ Rp K (lv p.1 R F'') p.2 x) ∧ (items.length ≤ i → J.stop i H')
def IiOk (K : PySem.W.Frag) (R H0 : Hp) (wi : TI) (fi : FI) : Prop :=
  ∀ (σ : L2.St) (H F : Hp) (τ : DS) (items : List (Bool × D)), Rel K R H0 τ σ F H → fi τ = some items → ∀ Rk : It → Hp → Prop, (∀ J F1 H1, Grow F H F1 H1 → IterOk K R J items F1 → Rk J H1) → wi σ H Rk
def itemsE : (Bool × D) → Option (List (Bool × D))
  | (n, .lst ds) => some (flag n ds)
  | _ => none
theorem flag_get {n : Bool} {ds : List D} {i : Nat} {p : Bool × D} (h : (flag n ds)[i]? = some p) : ∃ d, ds[i]? = some d ∧ p = (n || scal d, d) := by
  unfold flag at h
  rw [List.getElem?_map] at h
  obtain ⟨d, e, rfl⟩ := mapO h
  exact ⟨d, e, rfl⟩
theorem sql_inj {K : PySem.W.Frag} {H : Hp} {a : Addr} {xs ys : List V} (h : H a = some (.lst xs)) (hK : K.lookup a = none) (q : SqL K H a ys) : xs = ys := by
  rcases q with (q | ⟨o, q⟩) | ⟨o, _, _, q, _⟩
  · rw [h] at q; cases q; rfl
  · rw [h] at q; cases q
  · rw [hK] at q; cases q
section
variable {K : PySem.W.Frag} {R H0 : Hp}
theorem ii_list {f : FE} : IiOk K R H0 (iList K (tSE K R H0 f)) (un1 f itemsE) := fun σ H F τ items r e Rk hk => by
  obtain ⟨⟨n, x⟩, e1, e2⟩ := un1_some e
  match x, e2 with
  | .lst ds, e2 =>
    have e2 : some (flag n ds) = some items := e2
    cases e2
    refine ⟨F, τ, n, .lst ds, r, e1, fun v F1 H1 g1 r1 => ?_⟩
    obtain ⟨a, xs, rfl, hx, q1⟩ := r1
    have hx1 : F1 a = some (.lst xs) := lv_sub _ _ hx
    refine ⟨a, rfl, ⟨xs, .inl (.inl (g1.s _ _ hx1))⟩, hk _ F1 H1 g1 fun i F' H' s1 s2 t2 sR => ⟨fun p hp => ?_, fun hl => ?_⟩⟩
    · obtain ⟨d, hd, rfl⟩ := flag_get hp
      obtain ⟨y, hy, ry⟩ := q1.get hd
      have hH : SqL K H' a xs := .inl (.inl (s2 _ _ (s1 _ _ hx1)))
      refine ⟨⟨xs, y, hH, hy⟩, fun x H'' yl => ?_⟩
      obtain ⟨rfl, yl⟩ := yl
      have := yl xs hH
      rw [hy] at this
      cases this
      exact ⟨F', .refl s2 t2, lv_scal (Rp.sm (lv_mono s1) ry)⟩
    · refine ⟨xs, .inl (.inl (s2 _ _ (s1 _ _ hx1))), ?_⟩
      unfold flag at hl
      rw [List.length_map] at hl
      rw [← q1.length]; exact hl
end
def rngItems (lo : Int) (n : Nat) : List (Bool × D) := (List.range n).map fun k => (true, .int (lo + (k : Nat)))
theorem rng_get {lo : Int} {n i : Nat} {p : Bool × D} (h : (rngItems lo n)[i]? = some p) : i < n ∧ p = (true, .int (lo + (i : Nat))) := by
  unfold rngItems at h
  rw [List.getElem?_map] at h
  obtain ⟨d, e, rfl⟩ := mapO h
  obtain ⟨h1, h2⟩ := List.getElem?_eq_some_iff.mp e
  rw [List.length_range] at h1
  rw [List.getElem_range] at h2
  exact ⟨h1, by rw [h2]⟩
theorem rng_iter {K : PySem.W.Frag} {R F : Hp} {lo : Int} {n : Nat} : IterOk K R (Itr lo n) (rngItems lo n) F := fun i F' H' s1 s2 t2 sR => ⟨fun p hp => by
  obtain ⟨hi, rfl⟩ := rng_get hp
  refine ⟨hi, fun x H'' yl => ?_⟩
  obtain ⟨rfl, rfl⟩ := yl
  exact ⟨F', .refl s2 t2, rfl⟩, fun hl => by
  unfold rngItems at hl
  rw [List.length_map, List.length_range] at hl
  exact hl⟩
def in62 (i : Int) : Bool := decide (-(2 ^ 62) ≤ i) && decide (i < 2 ^ 62)
def rng1 : (Bool × List D) → Option (List (Bool × D))
  | (_, [.int j]) => if in62 j then some (rngItems 0 j.toNat) else none
  | _ => none
def rng2 : (Bool × List D) → Option (List (Bool × D))
  | (_, [.int i, .int j]) => if in62 i && in62 j then some (rngItems i (j - i).toNat) else none
  | _ => none
theorem RpL.one_inv {K : PySem.W.Frag} {H : Hp} {d : D} {vs : List V} (h : RpL K H [d] vs) : ∃ x, vs = [x] ∧ Rp K H d x := by
  obtain ⟨x, r, rfl, h1, h2⟩ := h
  rw [show r = [] from h2]
  exact ⟨x, rfl, h1⟩
theorem RpL.two_inv {K : PySem.W.Frag} {H : Hp} {d e : D} {vs : List V} (h : RpL K H [d, e] vs) : ∃ x y, vs = [x, y] ∧ Rp K H d x ∧ Rp K H e y := by
  obtain ⟨x, r, rfl, h1, y, r2, rfl, h2, h3⟩ := h
  rw [show r2 = [] from h3]
  exact ⟨x, y, rfl, h1, h2⟩
section
variable {K : PySem.W.Frag} {R H0 : Hp}
theorem ii_rng1 {g : FA} : IiOk K R H0 (iRng1 (tSA K R H0 g)) (un1 g rng1) := fun σ H F τ items r e Rk hk => by
  obtain ⟨⟨n, ds⟩, e1, e2⟩ := un1_some e
  match ds, e2 with
  | [.int j], e2 =>
    have e2 : (if in62 j then some (rngItems 0 j.toNat) else none) = some items := e2
    split at e2
    · rename_i hb
      cases e2
      unfold in62 at hb
      rw [Bool.and_eq_true, decide_eq_true_eq, decide_eq_true_eq] at hb
      refine ⟨F, τ, n, _, r, e1, fun vs F1 H1 g1 r1 => ?_⟩
      obtain ⟨x, rfl, h1⟩ := RpL.one_inv r1
      exact ⟨j, by rw [show x = V.int j from h1], hb.1, hb.2, hk _ F1 H1 g1 rng_iter⟩
    · cases e2
theorem ii_rng2 {g : FA} : IiOk K R H0 (iRng2 (tSA K R H0 g)) (un1 g rng2) := fun σ H F τ items r e Rk hk => by
  obtain ⟨⟨n, ds⟩, e1, e2⟩ := un1_some e
  match ds, e2 with
  | [.int i, .int j], e2 =>
    have e2 : (if in62 i && in62 j then some (rngItems i (j - i).toNat) else none) = some items := e2
    split at e2
    · rename_i hb
      cases e2
      unfold in62 at hb
      simp only [Bool.and_eq_true, decide_eq_true_eq] at hb
      refine ⟨F, τ, n, _, r, e1, fun vs F1 H1 g1 r1 => ?_⟩
      obtain ⟨x, y, rfl, h1, h2⟩ := RpL.two_inv r1
      exact ⟨i, j, by rw [show x = V.int i from h1, show y = V.int j from h2], ⟨hb.1.1, hb.1.2, hb.2.1, hb.2.2⟩, hk _ F1 H1 g1 rng_iter⟩
    · cases e2
end
end Dl
end
section
set_option Elab.async false
set_option linter.all false
set_option maxRecDepth 100000
set_option maxHeartbeats 4000000
namespace Dl
open PySem PySem.Spec PyProof.Rows L2 GxR Gx

/-! ### enumerate, zip -/
def enumI (n : Bool) : Nat → List D → List (Bool × D)
  | _, [] => []
  | k, d :: ds => (n || scal d, .tup [.int (k : Nat), d]) :: enumI n (k + 1) ds
theorem enumI_get {n : Bool} : ∀ {ds : List D} {k i : Nat} {p : Bool × D}, (enumI n k ds)[i]? = some p → ∃ d, ds[i]? = some d ∧ p = (n || scal d, .tup [.int ((k + i : Nat) : Int), d])
  | [], _, _, _, h => by simp [enumI] at h
  | d :: ds, k, 0, p, h => by
    unfold enumI at h
    rw [List.getElem?_cons_zero] at h
    exact ⟨d, rfl, (Option.some.inj h).symm⟩
  | d :: ds, k, i + 1, p, h => by
    unfold enumI at h
    rw [List.getElem?_cons_succ] at h
    obtain ⟨d', h1, h2⟩ := enumI_get h
    refine ⟨d', by rw [List.getElem?_cons_succ]; exact h1, ?_⟩
    rw [h2]
    have : k + 1 + i = k + (i + 1) := by omega
    rw [this]
theorem enumI_len {n : Bool} : ∀ {ds : List D} {k : Nat}, (enumI n k ds).length = ds.length
  | [], _ => rfl
  | d :: ds, k => by unfold enumI; rw [List.length_cons, List.length_cons, enumI_len]
def enumF : (Bool × List D) → Option (List (Bool × D))
  | (n, [.lst ds]) => some (enumI n 0 ds)
  | _ => none
def zipI (n : Bool) : List D → List D → List (Bool × D)
  | d :: ds, e :: es => ((n || scal d) && (n || scal e), .tup [d, e]) :: zipI n ds es
  | _, _ => []
theorem zipI_get {n : Bool} : ∀ {ds es : List D} {i : Nat} {p : Bool × D}, (zipI n ds es)[i]? = some p → ∃ d e, ds[i]? = some d ∧ es[i]? = some e ∧ p = ((n || scal d) && (n || scal e), .tup [d, e])
  | [], _, _, _, h => by simp [zipI] at h
  | _ :: _, [], _, _, h => by simp [zipI] at h
  | d :: ds, e :: es, 0, p, h => by
    unfold zipI at h
    rw [List.getElem?_cons_zero] at h
    exact ⟨d, e, rfl, rfl, (Option.some.inj h).symm⟩
  | d :: ds, e :: es, i + 1, p, h => by
    unfold zipI at h
    rw [List.getElem?_cons_succ] at h
    obtain ⟨d', e', h1, h2, h3⟩ := zipI_get h
    exact ⟨d', e', by rw [List.getElem?_cons_succ]; exact h1, by rw [List.getElem?_cons_succ]; exact h2, h3⟩
theorem zipI_len {n : Bool} : ∀ {ds es : List D}, (zipI n ds es).length = min ds.length es.length
  | [], es => by simp [zipI]
  | _ :: _, [] => by simp [zipI]
  | d :: ds, e :: es => by
    unfold zipI
    rw [List.length_cons, List.length_cons, List.length_cons, zipI_len]
    omega
def zipF : (Bool × List D) → Option (List (Bool × D))
  | (n, [.lst ds, .lst es]) => some (zipI n ds es)
  | _ => none
section
variable {K : PySem.W.Frag} {R H0 : Hp}
theorem sq_lst {H : Hp} {a : Addr} {xs : List V} (h : H a = some (.lst xs)) : SqL K H a xs := .inl (.inl h)
theorem ii_enum {g : FA} : IiOk K R H0 (iEnum K (tSA K R H0 g)) (un1 g enumF) := fun σ H F τ items r e Rk hk => by
  obtain ⟨⟨n, ds⟩, e1, e2⟩ := un1_some e
  match ds, e2 with
  | [.lst ds], e2 =>
    have e2 : some (enumI n 0 ds) = some items := e2
    cases e2
    refine ⟨F, τ, n, _, r, e1, fun vs F1 H1 g1 r1 => ?_⟩
    obtain ⟨x, rfl, a, xs, rfl, hx, q1⟩ := RpL.one_inv r1
    have hx1 : F1 a = some (.lst xs) := lv_sub _ _ hx
    refine ⟨a, xs, rfl, sq_lst (g1.s _ _ hx1), hk _ F1 H1 g1 fun i F' H' s1 s2 t2 sR => ⟨fun p hp => ?_, fun hl => ?_⟩⟩
    · obtain ⟨d, hd, rfl⟩ := enumI_get hp
      obtain ⟨y, hy, ry⟩ := q1.get hd
      have hH : SqL K H' a xs := sq_lst (s2 _ _ (s1 _ _ hx1))
      refine ⟨⟨xs, y, hH, hy⟩, fun x H'' yl => ?_⟩
      obtain ⟨T, z, rfl, hT, rfl, yl⟩ := yl
      have := yl xs hH
      rw [hy] at this
      cases this
      have g3 : Grow F' H' (upd F' T (.tup [.int (i : Nat), y])) (upd H' T (.tup [.int (i : Nat), y])) := .new s2 t2 hT fun _ z => nomatch z
      refine ⟨_, g3, T, _, rfl, lv_new upd_same (sR.none (s2.none hT)), _, _, rfl, ?_, _, _, rfl, Rp.sm (lv_mono g3.f) (lv_scal (Rp.sm (lv_mono s1) ry)), rfl⟩
      show V.int _ = V.int _
      rw [Nat.zero_add]
    · refine ⟨xs, sq_lst (s2 _ _ (s1 _ _ hx1)), ?_⟩
      rw [enumI_len] at hl
      rw [← q1.length]; exact hl
theorem ii_zip {g : FA} : IiOk K R H0 (iZip K (tSA K R H0 g)) (un1 g zipF) := fun σ H F τ items r e Rk hk => by
  obtain ⟨⟨n, ds⟩, e1, e2⟩ := un1_some e
  match ds, e2 with
  | [.lst ds, .lst es], e2 =>
    have e2 : some (zipI n ds es) = some items := e2
    cases e2
    refine ⟨F, τ, n, _, r, e1, fun vs F1 H1 g1 r1 => ?_⟩
    obtain ⟨x, x2, rfl, ⟨a, xs, rfl, hx, q1⟩, b, ys, rfl, hy, q2⟩ := RpL.two_inv r1
    have hx1 : F1 a = some (.lst xs) := lv_sub _ _ hx
    have hy1 : F1 b = some (.lst ys) := lv_sub _ _ hy
    refine ⟨a, b, xs, ys, rfl, sq_lst (g1.s _ _ hx1), sq_lst (g1.s _ _ hy1), hk _ F1 H1 g1 fun i F' H' s1 s2 t2 sR => ⟨fun p hp => ?_, fun hl => ?_⟩⟩
    · obtain ⟨d, d2, hd, hd2, rfl⟩ := zipI_get hp
      obtain ⟨y, hy, ry⟩ := q1.get hd
      obtain ⟨y2, hy2, ry2⟩ := q2.get hd2
      have hH : SqL K H' a xs := sq_lst (s2 _ _ (s1 _ _ hx1))
      have hH2 : SqL K H' b ys := sq_lst (s2 _ _ (s1 _ _ hy1))
      refine ⟨⟨xs, ys, y, y2, hH, hH2, hy, hy2⟩, fun x H'' yl => ?_⟩
      obtain ⟨T, z, z2, rfl, hT, rfl, yl, yl2⟩ := yl
      have e1 := yl xs hH
      have e2 := yl2 ys hH2
      rw [hy] at e1
      rw [hy2] at e2
      cases e1; cases e2
      have g3 : Grow F' H' (upd F' T (.tup [y, y2])) (upd H' T (.tup [y, y2])) := .new s2 t2 hT fun _ z => nomatch z
      refine ⟨_, g3, T, _, rfl, lv_new upd_same (sR.none (s2.none hT)), _, _, rfl, Rp.sm ((lv_mono g3.f).trans lv_and) (lv_scal (Rp.sm (lv_mono s1) ry)), _, _, rfl, Rp.sm ((lv_mono g3.f).trans lv_and') (lv_scal (Rp.sm (lv_mono s1) ry2)), rfl⟩
    · refine ⟨xs, ys, sq_lst (s2 _ _ (s1 _ _ hx1)), sq_lst (s2 _ _ (s1 _ _ hy1)), ?_⟩
      rw [zipI_len] at hl
      rw [← q1.length, ← q2.length]
      omega
end

/-! ### the names of a block -/
def wD (τ : DS) : List Nat → DS
  | [] => τ
  | v :: vs => (wD τ vs).set v none
theorem wD_len (τ : DS) : ∀ vs, (wD τ vs).length = τ.length
  | [] => rfl
  | v :: vs => by unfold wD; rw [List.length_set, wD_len τ vs]
theorem wD_some {τ : DS} {i : Nat} {c : C} : ∀ {vs : List Nat}, (wD τ vs)[i]? = some (some c) → τ[i]? = some (some c) ∧ i ∉ vs
  | [], h => ⟨h, by simp⟩
  | v :: vs, h => by
    unfold wD at h
    by_cases hi : v = i
    · subst hi
      by_cases hv : v < (wD τ vs).length
      · rw [List.getElem?_set_self hv] at h; cases h
      · rw [List.getElem?_eq_none (by simpa using hv)] at h; cases h
    · rw [List.getElem?_set_ne hi] at h
      obtain ⟨h1, h2⟩ := wD_some h
      exact ⟨h1, by simp only [List.mem_cons, not_or]; exact ⟨fun e => hi e.symm, h2⟩⟩
theorem wipe_out {σ : L2.St} {j : Nat} : ∀ {vs : List Nat}, j ∉ vs → (wipe σ vs)[j]? = σ[j]?
  | [], _ => rfl
  | v :: vs, h => by
    unfold wipe
    rw [List.mem_cons, not_or] at h
    rw [List.getElem?_set_ne (fun e => h.1 e.symm)]
    exact wipe_out h.2
theorem wipe_in {σ : L2.St} {j : Nat} (hj : j < σ.length) : ∀ {vs : List Nat}, j ∈ vs → (wipe σ vs)[j]? = some none
  | v :: vs, h => by
    unfold wipe
    by_cases e : v = j
    · subst e
      exact List.getElem?_set_self (by rw [wipe_length]; exact hj)
    · rw [List.getElem?_set_ne e]
      rcases List.mem_cons.mp h with z | z
      · exact absurd z.symm e
      · exact wipe_in hj z
theorem wipe_eq {σ σ' : L2.St} {vs : List Nat} (h : ∀ j, j ∉ vs → σ'[j]? = σ[j]?) (hl : σ'.length = σ.length) : wipe σ' vs = wipe σ vs := by
  refine List.ext_getElem? fun j => ?_
  by_cases hj : j ∈ vs
  · by_cases hlt : j < σ.length
    · rw [wipe_in hlt hj, wipe_in (by rw [hl]; exact hlt) hj]
    · rw [List.getElem?_eq_none (by rw [wipe_length, hl]; omega), List.getElem?_eq_none (by rw [wipe_length]; omega)]
  · rw [wipe_out hj, wipe_out hj, h j hj]
theorem wipe_wipe {σ : L2.St} {vs : List Nat} : wipe (wipe σ vs) vs = wipe σ vs := wipe_eq (fun j hj => wipe_out hj) (wipe_length _ _)
theorem Rel.wipe {K : PySem.W.Frag} {R H0 : Hp} {τ : DS} {σ : L2.St} {F H : Hp} (vs : List Nat) (r : Rel K R H0 τ σ F H) : Rel K R H0 (wD τ vs) (L2.wipe σ vs) F H := by
  have hl : τ.length = σ.length := let ⟨_, r⟩ := r; r.len
  refine r.drop (by rw [wD_len, wipe_length]; exact hl) fun i c e => ?_
  obtain ⟨h1, h2⟩ := wD_some e
  exact ⟨h1, wipe_out h2⟩
def TtOk (K : PySem.W.Frag) (R H0 : Hp) (tt : TT) (c : FT) : Prop :=
  ∀ (σ : L2.St) (H F : Hp) (τ : DS) (b : Bool), Rel K R H0 τ σ F H → c τ = some b → ∀ Q : Bool → Hp → Prop, (∀ F' H', Grow F H F' H' → Q b H') → tt σ H Q
theorem tt_yes {K : PySem.W.Frag} {R H0 : Hp} : TtOk K R H0 tYes (fun _ => some true) := fun σ H F τ b r e Q k => by cases e; exact k F H r.refl
theorem tt_st {K : PySem.W.Frag} {R H0 : Hp} {f : FT} : TtOk K R H0 (tST K R H0 f) f := fun σ H F τ b r e Q k => ⟨F, τ, b, r, e, k⟩

/-! ### comprehensions -/
def lcD (vs : List Nat) (t : TgD) (c : FT) (e : FE) (τ : DS) : List (Bool × D) → Option (Bool × List D)
  | [] => some (true, [])
  | p :: ps => (t p (wD τ vs)).bind fun τ1 => (c τ1).bind fun b => if b = true then (e τ1).bind fun y => (lcD vs t c e τ ps).bind fun z => some (y.1 && z.1, y.2 :: z.2) else lcD vs t c e τ ps
def lcF (fi : FI) (vs : List Nat) (t : TgD) (c : FT) (e : FE) : FC := fun τ => (fi τ).bind fun items => if items.length ≤ lim then (lcD vs t c e τ items).map fun z => .own z.1 z.2 else none
section
variable {K : PySem.W.Frag} {R H0 : Hp}
theorem lc_ok {wi : TI} {fi : FI} {g : TG} {t : TgD} {sl vs : List Nat} {tt : TT} {c : FT} {e : FE} (hi : IiOk K R H0 wi fi) (ht : TgOk K R H0 g t sl) (hsl : ∀ j ∈ sl, j ∈ vs) (hc : TtOk K R H0 tt c)
    {σ : L2.St} {H F : Hp} {τ : DS} {cl : C} {Q : VK} (r : Rel K R H0 τ σ F H) (q : lcF fi vs t c e τ = some cl) (k : ∀ v F' H' Gp, Pend F H F' H' Gp → Cok K R F' Gp cl v → Q v H') : tLc wi g tt (tSE K R H0 e) vs σ H Q := by
  obtain ⟨items, e1, q⟩ := bindO q
  split at q
  · rename_i hlim
    obtain ⟨⟨fl, total⟩, e2, rfl⟩ := mapO q
    refine hi σ H F τ items r e1 _ fun J F1 H1 g1 it D hD => ?_
    refine ⟨fun i m H => m = items.length - i ∧ i ≤ items.length ∧ ∃ F2 acc out nr rest, Grow F1 H1 F2 H ∧ H D = some (.lst acc) ∧ F2 D = none ∧ RpL K (lv fl R F2) out acc ∧ out.length ≤ i ∧ lcD vs t c e τ (items.drop i) = some (nr, rest) ∧ total = out ++ rest ∧ (fl = true → nr = true),
      ⟨items.length, by omega, Nat.zero_le _, F1, [], [], fl, total, .heap g1.s g1.t (Ext.upd hD), upd_same, g1.s.none hD, rfl, Nat.zero_le _, e2, rfl, id⟩, ?_⟩
    rintro i m H2 ⟨rfl, hi2, F2, acc, out, nr, rest, g2, hHD, hFD, ro, ho, el, et, hfl⟩
    have r2 : Rel K R H0 τ σ F2 H2 := (r.grow g1).grow g2
    obtain ⟨ig, is⟩ := it i F2 H2 g2.f g2.s g2.t (g1.f.trans g2.f |> fun s => r.g.f.trans s)
    by_cases hlt : i < items.length
    · obtain ⟨p, hp⟩ : ∃ p, items[i]? = some p := ⟨items[i], List.getElem?_eq_getElem hlt⟩
      obtain ⟨go, yl⟩ := ig p hp
      have ed : items.drop i = p :: items.drop (i + 1) := by
        rw [List.drop_eq_getElem_cons hlt]
        rw [List.getElem?_eq_getElem hlt] at hp
        rw [Option.some.inj hp]
      rw [ed] at el
      obtain ⟨τ1, et1, el⟩ := bindO (show (t p (wD τ vs)).bind _ = _ from el)
      obtain ⟨b, ec, el⟩ := bindO el
      refine .inr ⟨go, fun H' => items.length - (i + 1) < items.length - i ∧ i + 1 ≤ items.length ∧ ∃ F2 acc out nr rest, Grow F1 H1 F2 H' ∧ H' D = some (.lst acc) ∧ F2 D = none ∧ RpL K (lv fl R F2) out acc ∧ out.length ≤ i + 1 ∧ lcD vs t c e τ (items.drop (i + 1)) = some (nr, rest) ∧ total = out ++ rest ∧ (fl = true → nr = true),
        fun H' ⟨h1, h2, h3⟩ => ⟨_, h1, rfl, h2, h3⟩, fun x H3 hy => ?_⟩
      obtain ⟨F3, g3, rx⟩ := yl x H3 hy
      have r3 : Rel K R H0 (wD τ vs) (wipe σ vs) F3 H3 := (r2.grow g3).wipe vs
      refine ht x (wipe σ vs) H3 F3 _ p τ1 r3 rx et1 _ fun σ2 r4 hσ hl => ⟨?_, ?_⟩
      · rw [wipe_eq (fun j hj => hσ j fun z => hj (hsl j z)) hl, wipe_wipe]
      have nD : ∀ {Fa Ha Fb Hb : Hp}, Grow Fa Ha Fb Hb → Fa D = none → Ha D = some (.lst acc) → Fb D = none ∧ Hb D = some (.lst acc) := fun {Fa Ha Fb Hb} g h1 h2 => by
        refine ⟨?_, g.h.at h2 fun _ z => nomatch z⟩
        cases z : Fb D with
        | none => rfl
        | some u =>
          rcases g.n D (by rw [z]; exact fun z => nomatch z) with w | w
          · exact absurd h1 w
          · rw [h2] at w; cases w
      obtain ⟨n3, d3⟩ := nD g3 hFD hHD
      refine hc σ2 H3 F3 τ1 b r4 ec _ fun F4 H4 g4 => ?_
      obtain ⟨n4, d4⟩ := nD g4 n3 d3
      cases b with
      | false =>
        rw [if_neg Bool.false_ne_true] at el
        refine iteF ⟨by omega, hlt, F4, acc, out, nr, rest, (g2.trans g3).trans g4, d4, n4, RpL.sm (lv_mono (g3.trans g4).f) ro, by omega, el, et, hfl⟩
      | true =>
        rw [if_pos rfl] at el
        obtain ⟨⟨ny, y⟩, ey, el⟩ := bindO el
        obtain ⟨⟨nz, z⟩, ez, el⟩ := bindO el
        cases el
        refine iteT ⟨F4, τ1, ny, y, r4.grow g4, ey, fun v F5 H5 g5 rv => ?_⟩
        obtain ⟨n5, d5⟩ := nD g5 n4 d4
        have hac : acc.length < sizeLine := by
          rw [← ro.length]
          have : items.length ≤ sizeLine := hlim
          omega
        have gg := ((g2.trans g3).trans g4).trans g5
        have hb : ny = true ∧ nz = true ∨ fl = false := by
          cases fl with
          | false => exact .inr rfl
          | true =>
            have := hfl rfl
            rw [Bool.and_eq_true] at this
            exact .inl this
        refine ⟨acc, d5, hac, by omega, hlt, F5, acc ++ [v], out ++ [y], nz, z, ⟨gg.f, fun b o eb => ?_, fun b o eb => ?_, gg.n, gg.t⟩, upd_same, n5, RpL.app (RpL.sm (lv_mono ((g3.trans g4).trans g5).f) ro) (RpL.one (Rp.sm (lv_imp fun z => ?_) rv)), by rw [List.length_append, List.length_singleton]; omega, ez, by rw [et, List.append_assoc]; rfl, fun z => ?_⟩
        · have hb : b ≠ D := fun z => by rw [z, hD] at eb; cases eb
          rw [upd_ne hb]
          exact gg.h b o eb
        · have hb : b ≠ D := fun z => by rw [z, n5] at eb; cases eb
          rw [upd_ne hb]
          exact gg.s b o eb
        · rcases hb with hb | hb
          · exact hb.1
          · rw [z] at hb; cases hb
        · rcases hb with hb | hb
          · exact hb.2
          · rw [z] at hb; cases hb
    · have e3 : i = items.length := by omega
      subst e3
      rw [List.drop_length] at el
      cases el
      rw [List.append_nil] at et
      refine .inl ⟨is (Nat.le_refl _), k _ F2 H2 (sing D (.lst acc)) ⟨g1.trans g2, fun b x eb => ?_, fun b hb => ?_, fun b ps eb => ?_⟩ ⟨D, acc, rfl, sing_same, by rw [et]; exact ro⟩⟩
      · unfold sing at eb
        split at eb
        · rename_i hb; rw [hb, hHD]; exact eb
        · cases eb
      · have : b = D := by
          unfold sing at hb
          split at hb
          · assumption
          · exact absurd rfl hb
        subst this
        exact ⟨hFD, g1.h.none hD⟩
      · unfold sing at eb
        split at eb
        · cases eb
        · cases eb
  · cases q
end
section
variable {R H0 : Hp} {X : Cx}
theorem sc_lc {elt tg iter : Expr} {ifs : List Expr} {scope : Scope} {own : List (Str × Nat)} {pos : Pos} {wi : TI} {fi : FI} {g : TG} {t : TgD} {sl : List Nat} {tt : TT} {c : FT} {e : FE} (hc : X.calm = true) (hN : X.N.Nodup) (hi : PI X tg iter wi) (hii : IiOk X.K R H0 wi fi) (ok : BlkOk X.N X.env.scope scope own)
    (hg : ∀ (s : Shared) (H : Hp) (C : Addr) (cl : List (Str × Addr)) (fp : List Addr), PG (X.blk s H scope (compEnvC scope cl C X.env) fp) tg g) (hgt : TgOk X.K R H0 g t sl) (hsl : ∀ j ∈ sl, j ∈ own.map (·.2))
    (ht : ∀ (s : Shared) (H : Hp) (C : Addr) (cl : List (Str × Addr)) (fp : List Addr), PTs (X.blk s H scope (compEnvC scope cl C X.env) fp) ifs tt) (htt : TtOk X.K R H0 tt c)
    (he : ∀ (s : Shared) (H : Hp) (C : Addr) (cl : List (Str × Addr)) (fp : List Addr), SE R H0 (X.blk s H scope (compEnvC scope cl C X.env) fp) elt e) (hs : ∀ x, foldedSetIterable iter X.env x = pure x := by intro _; rfl) :
    SC R H0 X (.ListComp elt [⟨tg, iter, ifs, 0⟩] scope pos) (lcF fi (own.map (·.2)) t c e) := PEmono (pe_lc hc hN hi ok hg ht he hs) fun σ H Q ⟨F, τ, cl, r, q, k⟩ => lc_ok hii hgt hsl htt r q k

/-! ### all, any, sum of generator expressions -/
def allD (vs : List Nat) (t : TgD) (c : FT) (e : FE) (τ : DS) : List (Bool × D) → Option Bool
  | [] => some true
  | p :: ps => (t p (wD τ vs)).bind fun τ1 => (c τ1).bind fun b => if b = true then (e τ1).bind fun y => match y.2 with
    | .bl true => allD vs t c e τ ps
    | .bl false => some false
    | _ => none
    else allD vs t c e τ ps
def anyD (vs : List Nat) (t : TgD) (c : FT) (e : FE) (τ : DS) : List (Bool × D) → Option Bool
  | [] => some false
  | p :: ps => (t p (wD τ vs)).bind fun τ1 => (c τ1).bind fun b => if b = true then (e τ1).bind fun y => match y.2 with
    | .bl true => some true
    | .bl false => anyD vs t c e τ ps
    | _ => none
    else anyD vs t c e τ ps
def sumD (vs : List Nat) (t : TgD) (c : FT) (e : FE) (τ : DS) : Int → List (Bool × D) → Option Int
  | a, [] => some a
  | a, p :: ps => (t p (wD τ vs)).bind fun τ1 => (c τ1).bind fun b => if b = true then (e τ1).bind fun y => match y.2 with
    | .int k => sumD vs t c e τ (a + k) ps
    | _ => none
    else sumD vs t c e τ a ps
def allF (fi : FI) (vs : List Nat) (t : TgD) (c : FT) (e : FE) : FE := fun τ => (fi τ).bind fun items => (allD vs t c e τ items).map fun b => (true, .bl b)
def anyF (fi : FI) (vs : List Nat) (t : TgD) (c : FT) (e : FE) : FE := fun τ => (fi τ).bind fun items => (anyD vs t c e τ items).map fun b => (true, .bl b)
def sumF (fi : FI) (vs : List Nat) (t : TgD) (c : FT) (e : FE) : FE := fun τ => (fi τ).bind fun items => (sumD vs t c e τ 0 items).map fun b => (true, .int b)
end
section
variable {K : PySem.W.Frag} {R H0 : Hp}
/-- the turns of a generator expression; S i a: what is left to be done is worth res -/
theorem gx_ok {α : Type} {P : Addr} {wi : TI} {fi : FI} {g : TG} {t : TgD} {sl vs : List Nat} {tt : TT} {c : FT} {e : FE} {a0 : α} {out : α → V → Hp → (α → Hp → Prop) → Prop} {fin : α → Hp → Prop} (hi : IiOk K R H0 wi fi) (ht : TgOk K R H0 g t sl) (hsl : ∀ j ∈ sl, j ∈ vs) (hc : TtOk K R H0 tt c)
    {σ : L2.St} {H F : Hp} {τ : DS} {items : List (Bool × D)} (r : Rel K R H0 τ σ F H) (hT : ∀ F1 H1, Grow F H F1 H1 → TabG H1 P) (e1 : fi τ = some items) (S : α → List (Bool × D) → Prop) (h0 : S a0 items)
    (hS : ∀ a p ps, S a (p :: ps) → ∃ τ1 b, t p (wD τ vs) = some τ1 ∧ c τ1 = some b ∧ if b = true then ∃ y, e τ1 = some y ∧ ∀ v F' H' Nx, Grow F H F' H' → Rp K (lv y.1 R F') y.2 v → (∀ a', S a' ps → Nx a' H') → out a v H' Nx else S a ps)
    (hF : ∀ a F' H', S a [] → Grow F H F' H' → fin a H') : tGen P wi g tt (tSE K R H0 e) vs a0 out fin σ H := by
  refine hi σ H F τ items r e1 _ fun J F1 H1 g1 it => ⟨hT F1 H1 g1, fun H2 hTb => ?_⟩
  have x2 : Ext H1 H2 := Ext.tabbed hTb (hT F1 H1 g1)
  have g2 : Grow F1 H1 F1 H2 := .heap g1.s g1.t x2
  refine ⟨fun i m a H => m = items.length - i ∧ i ≤ items.length ∧ S a (items.drop i) ∧ ∃ F3, Grow F1 H1 F3 H, ⟨items.length, by omega, Nat.zero_le _, h0, F1, g2⟩, ?_⟩
  rintro i m a H3 ⟨rfl, hi2, hSa, F3, g3⟩
  have r3 : Rel K R H0 τ σ F3 H3 := (r.grow g1).grow g3
  obtain ⟨ig, is⟩ := it i F3 H3 g3.f g3.s g3.t (r.g.f.trans (g1.f.trans g3.f))
  by_cases hlt : i < items.length
  · obtain ⟨p, hp⟩ : ∃ p, items[i]? = some p := ⟨items[i], List.getElem?_eq_getElem hlt⟩
    obtain ⟨go, yl⟩ := ig p hp
    have ed : items.drop i = p :: items.drop (i + 1) := by
      rw [List.drop_eq_getElem_cons hlt]
      rw [List.getElem?_eq_getElem hlt] at hp
      rw [Option.some.inj hp]
    rw [ed] at hSa
    obtain ⟨τ1, b, et1, ec, hb⟩ := hS _ _ _ hSa
    refine .inr ⟨go, fun a' H' => S a' (items.drop (i + 1)) ∧ ∃ F3, Grow F1 H1 F3 H', fun a' H' ⟨h1, h2⟩ => ⟨items.length - (i + 1), by omega, rfl, hlt, h1, h2⟩, fun x H4 hy => ?_⟩
    obtain ⟨F4, g4, rx⟩ := yl x H4 hy
    have r4 : Rel K R H0 (wD τ vs) (wipe σ vs) F4 H4 := (r3.grow g4).wipe vs
    refine ht x (wipe σ vs) H4 F4 _ p τ1 r4 rx et1 _ fun σ2 r5 hσ hl => ⟨?_, ?_⟩
    · rw [wipe_eq (fun j hj => hσ j fun z => hj (hsl j z)) hl, wipe_wipe]
    refine hc σ2 H4 F4 τ1 b r5 ec _ fun F5 H5 g5 => ?_
    cases b with
    | false =>
      rw [if_neg Bool.false_ne_true] at hb
      exact iteF ⟨hb, F5, (g3.trans g4).trans g5⟩
    | true =>
      rw [if_pos rfl] at hb
      obtain ⟨y, ey, hout⟩ := hb
      refine iteT ⟨F5, τ1, y.1, y.2, r5.grow g5, ey, fun v F6 H6 g6 rv => ?_⟩
      have gg := ((g3.trans g4).trans g5).trans g6
      exact hout v F6 H6 _ (g1.trans gg) rv fun a' hS' => ⟨hS', F6, gg⟩
  · have e3 : i = items.length := by omega
    subst e3
    rw [List.drop_length] at hSa
    exact .inl ⟨is (Nat.le_refl _), hF a F3 H3 hSa (g1.trans g3)⟩
end
section
variable {R H0 : Hp} {X : Cx} {c P : Addr} {elt tg iter : Expr} {ifs : List Expr} {scope : Scope} {own : List (Str × Nat)} {gpos p pos : Pos} {wi : TI} {fi : FI} {g : TG} {t : TgD} {sl : List Nat} {tt : TT} {cd : FT} {e : FE} {k : Nat} {cs : List (Addr × Addr)}
theorem se_allG (hT : Tabs cs H0) (hP : (c, P) ∈ cs) (hr : Room (k + 1) X.A) (hc : X.calm = true) (hN : X.N.Nodup) (hgl : Gl X "all") (hm : X.mg "all" = none) (TB : TabB X.base X.mg c P) (hcode : X.env.code = .ref c) (ok : BlkOk X.N X.env.scope scope own) (hnc : ∀ y ∈ scope.names, y.2 ≠ .cell) (hdot : scope.names.lookup (".0" : Str) = some NameKind.local)
    (hco : scope.isCoroutine = false) (hi : PI X tg iter wi) (hii : IiOk X.K R H0 wi fi)
    (hg : ∀ s H C code fp A' pn, Room k A' → PG (Cxg X s H (gEnv X scope C code) fp A' pn) tg g) (hgt : TgOk X.K R H0 g t sl) (hsl : ∀ j ∈ sl, j ∈ own.map (·.2)) (ht : ∀ s H C code fp A' pn, Room k A' → PTs (Cxg X s H (gEnv X scope C code) fp A' pn) ifs tt) (htt : TtOk X.K R H0 tt cd)
    (he : ∀ s H C code fp A' pn, Room k A' → SE R H0 (Cxg X s H (gEnv X scope C code) fp A' pn) elt e)
    (hs : ∀ v, genFold iter X.env v = pure v := by intro _; rfl) (hst : starEach [GE elt tg iter ifs scope gpos] X.env = (false, eval (GE elt tg iter ifs scope gpos) X.env) :: starEach [] X.env := by rfl) :
    SE R H0 X (.Call (.Name "all" p) [GE elt tg iter ifs scope gpos] [] pos) (allF fi (own.map (·.2)) t cd e) := PEmono (pe_allG (te := tSE X.K R H0 e) hr hc hN hgl hm TB hcode ok hnc hdot hco hi hg ht he hs hst) fun σ H Q ⟨F, τ, nw, d, r, q, kk⟩ => by
  obtain ⟨items, e1, q⟩ := bindO q
  obtain ⟨b, e2, q⟩ := mapO q
  cases q
  refine gx_ok (e := e) hii hgt hsl htt r (fun F1 H1 g1 => Tabs.ext (r.grow g1).g.h hT (c, P) hP) e1 (fun (_ : Unit) l => allD (own.map (·.2)) t cd e τ l = some b) e2 (fun a p ps hS => ?_) fun a F' H' hS g' => ?_
  · obtain ⟨τ1, h1, hS⟩ := bindO (show (t p (wD τ (own.map (·.2)))).bind _ = _ from hS)
    obtain ⟨b1, h2, hS⟩ := bindO hS
    refine ⟨τ1, b1, h1, h2, ?_⟩
    cases b1 with
    | false => rw [if_neg Bool.false_ne_true] at hS; exact iteF hS
    | true =>
      rw [if_pos rfl] at hS
      obtain ⟨⟨ny, y⟩, h3, hS⟩ := bindO hS
      refine iteT ⟨(ny, y), h3, fun v F' H' Nx g' rv hn => ?_⟩
      match y, hS, rv with
      | .bl true, hS, rv => exact ⟨true, rv, iteT (hn () hS)⟩
      | .bl false, hS, rv =>
        cases hS
        exact ⟨false, rv, iteF (kk _ F' H' g' rfl)⟩
  · cases hS
    exact kk _ F' H' g' rfl
theorem se_anyG (hT : Tabs cs H0) (hP : (c, P) ∈ cs) (hr : Room (k + 1) X.A) (hc : X.calm = true) (hN : X.N.Nodup) (hgl : Gl X "any") (hm : X.mg "any" = none) (TB : TabB X.base X.mg c P) (hcode : X.env.code = .ref c) (ok : BlkOk X.N X.env.scope scope own) (hnc : ∀ y ∈ scope.names, y.2 ≠ .cell) (hdot : scope.names.lookup (".0" : Str) = some NameKind.local)
    (hco : scope.isCoroutine = false) (hi : PI X tg iter wi) (hii : IiOk X.K R H0 wi fi)
    (hg : ∀ s H C code fp A' pn, Room k A' → PG (Cxg X s H (gEnv X scope C code) fp A' pn) tg g) (hgt : TgOk X.K R H0 g t sl) (hsl : ∀ j ∈ sl, j ∈ own.map (·.2)) (ht : ∀ s H C code fp A' pn, Room k A' → PTs (Cxg X s H (gEnv X scope C code) fp A' pn) ifs tt) (htt : TtOk X.K R H0 tt cd)
    (he : ∀ s H C code fp A' pn, Room k A' → SE R H0 (Cxg X s H (gEnv X scope C code) fp A' pn) elt e)
    (hs : ∀ v, genFold iter X.env v = pure v := by intro _; rfl) (hst : starEach [GE elt tg iter ifs scope gpos] X.env = (false, eval (GE elt tg iter ifs scope gpos) X.env) :: starEach [] X.env := by rfl) :
    SE R H0 X (.Call (.Name "any" p) [GE elt tg iter ifs scope gpos] [] pos) (anyF fi (own.map (·.2)) t cd e) := PEmono (pe_anyG (te := tSE X.K R H0 e) hr hc hN hgl hm TB hcode ok hnc hdot hco hi hg ht he hs hst) fun σ H Q ⟨F, τ, nw, d, r, q, kk⟩ => by
  obtain ⟨items, e1, q⟩ := bindO q
  obtain ⟨b, e2, q⟩ := mapO q
  cases q
  refine gx_ok (e := e) hii hgt hsl htt r (fun F1 H1 g1 => Tabs.ext (r.grow g1).g.h hT (c, P) hP) e1 (fun (_ : Unit) l => anyD (own.map (·.2)) t cd e τ l = some b) e2 (fun a p ps hS => ?_) fun a F' H' hS g' => ?_
  · obtain ⟨τ1, h1, hS⟩ := bindO (show (t p (wD τ (own.map (·.2)))).bind _ = _ from hS)
    obtain ⟨b1, h2, hS⟩ := bindO hS
    refine ⟨τ1, b1, h1, h2, ?_⟩
    cases b1 with
    | false => rw [if_neg Bool.false_ne_true] at hS; exact iteF hS
    | true =>
      rw [if_pos rfl] at hS
      obtain ⟨⟨ny, y⟩, h3, hS⟩ := bindO hS
      refine iteT ⟨(ny, y), h3, fun v F' H' Nx g' rv hn => ?_⟩
      match y, hS, rv with
      | .bl false, hS, rv => exact ⟨false, rv, iteF (hn () hS)⟩
      | .bl true, hS, rv =>
        cases hS
        exact ⟨true, rv, iteT (kk _ F' H' g' rfl)⟩
  · cases hS
    exact kk _ F' H' g' rfl
theorem se_sumG (hT : Tabs cs H0) (hP : (c, P) ∈ cs) (hr : Room (k + 1) X.A) (hc : X.calm = true) (hN : X.N.Nodup) (hgl : Gl X "sum") (hm : X.mg "sum" = none) (TB : TabB X.base X.mg c P) (hcode : X.env.code = .ref c) (ok : BlkOk X.N X.env.scope scope own) (hnc : ∀ y ∈ scope.names, y.2 ≠ .cell) (hdot : scope.names.lookup (".0" : Str) = some NameKind.local)
    (hco : scope.isCoroutine = false) (hi : PI X tg iter wi) (hii : IiOk X.K R H0 wi fi)
    (hg : ∀ s H C code fp A' pn, Room k A' → PG (Cxg X s H (gEnv X scope C code) fp A' pn) tg g) (hgt : TgOk X.K R H0 g t sl) (hsl : ∀ j ∈ sl, j ∈ own.map (·.2)) (ht : ∀ s H C code fp A' pn, Room k A' → PTs (Cxg X s H (gEnv X scope C code) fp A' pn) ifs tt) (htt : TtOk X.K R H0 tt cd)
    (he : ∀ s H C code fp A' pn, Room k A' → SE R H0 (Cxg X s H (gEnv X scope C code) fp A' pn) elt e)
    (hs : ∀ v, genFold iter X.env v = pure v := by intro _; rfl) (hst : starEach [GE elt tg iter ifs scope gpos] X.env = (false, eval (GE elt tg iter ifs scope gpos) X.env) :: starEach [] X.env := by rfl) :
    SE R H0 X (.Call (.Name "sum" p) [GE elt tg iter ifs scope gpos] [] pos) (sumF fi (own.map (·.2)) t cd e) := PEmono (pe_sumG (te := tSE X.K R H0 e) hr hc hN hgl hm TB hcode ok hnc hdot hco hi hg ht he hs hst) fun σ H Q ⟨F, τ, nw, d, r, q, kk⟩ => by
  obtain ⟨items, e1, q⟩ := bindO q
  obtain ⟨b, e2, q⟩ := mapO q
  cases q
  refine gx_ok (e := e) hii hgt hsl htt r (fun F1 H1 g1 => Tabs.ext (r.grow g1).g.h hT (c, P) hP) e1 (fun (a : Int) l => sumD (own.map (·.2)) t cd e τ a l = some b) e2 (fun a p ps hS => ?_) fun a F' H' hS g' => ?_
  · obtain ⟨τ1, h1, hS⟩ := bindO (show (t p (wD τ (own.map (·.2)))).bind _ = _ from hS)
    obtain ⟨b1, h2, hS⟩ := bindO hS
    refine ⟨τ1, b1, h1, h2, ?_⟩
    cases b1 with
    | false => rw [if_neg Bool.false_ne_true] at hS; exact iteF hS
    | true =>
      rw [if_pos rfl] at hS
      obtain ⟨⟨ny, y⟩, h3, hS⟩ := bindO hS
      refine iteT ⟨(ny, y), h3, fun v F' H' Nx g' rv hn => ?_⟩
      match y, hS, rv with
      | .int j, hS, rv => exact ⟨j, rv, hn _ hS⟩
  · cases hS
    exact kk _ F' H' g' rfl
end
end Dl
end
section
set_option Elab.async false
set_option linter.all false
set_option maxRecDepth 100000
set_option maxHeartbeats 4000000
namespace Dl
open PySem PySem.Spec PyProof.Rows L2 GxR Gx

/-! ### statements -/
inductive Out where
  | nx (τ : DS)
  | rt (nw : Bool) (d : D)
  | bk (τ : DS)
  | ct (τ : DS)
abbrev FS := DS → Option Out
def OutK (K : PySem.W.Frag) (R H0 : Hp) (D : Ends) (F : Hp) : Out → Prop
  | .nx τ => ∀ σ' F' H', Sm F F' → Rel K R H0 τ σ' F' H' → D.nx σ' H'
  | .bk τ => ∀ σ' F' H', Sm F F' → Rel K R H0 τ σ' F' H' → D.bk σ' H'
  | .ct τ => ∀ σ' F' H', Sm F F' → Rel K R H0 τ σ' F' H' → D.ct σ' H'
  | .rt nw d => ∀ v F' H', Grow R H0 F' H' → Rp K (lv nw R F') d v → D.rt v H'
theorem OutK.mono {K : PySem.W.Frag} {R H0 : Hp} {D : Ends} {F F1 : Hp} (s : Sm F F1) : ∀ {o : Out}, OutK K R H0 D F o → OutK K R H0 D F1 o
  | .nx _, h => fun σ' F' H' s2 r => h σ' F' H' (s.trans s2) r
  | .bk _, h => fun σ' F' H' s2 r => h σ' F' H' (s.trans s2) r
  | .ct _, h => fun σ' F' H' s2 r => h σ' F' H' (s.trans s2) r
  | .rt _ _, h => h
def tSS (K : PySem.W.Frag) (R H0 : Hp) (g : FS) : TS := fun D σ H => ∃ F τ o, Rel K R H0 τ σ F H ∧ g τ = some o ∧ OutK K R H0 D F o
abbrev SS (R H0 : Hp) (X : Cx) (st : Stmt) (g : FS) : Prop := PS X st (tSS X.K R H0 g)
abbrev SSs (R H0 : Hp) (X : Cx) (st : List Stmt) (g : FS) : Prop := PSs X st (tSS X.K R H0 g)
def nxF : FS := fun τ => some (.nx τ)
def noF : FS := fun _ => none
def seqF (f g : FS) : FS := fun τ => (f τ).bind fun o => match o with
  | .nx τ' => g τ'
  | o => some o
section
variable {R H0 : Hp} {X : Cx} {st : Stmt} {rest : List Stmt} {e a b c : Expr} {es : List Expr} {pos : Pos}
theorem ss_never : SS R H0 X st noF := PSmono ps_never fun D σ H ⟨F, τ, o, r, q, k⟩ => nomatch q
theorem sss_nil : SSs R H0 X [] nxF := PSsmono pss_nil fun D σ H ⟨F, τ, o, r, q, k⟩ => by
  cases q; exact k σ F H .refl r
theorem sss_one {f : FS} (h : SS R H0 X st f) : SSs R H0 X [st] f := pss_one h
theorem sss_cons {f g : FS} (h : SS R H0 X st f) (k : SSs R H0 X rest g) : SSs R H0 X (st :: rest) (seqF f g) := PSsmono (pss_cons h k) fun D σ H ⟨F, τ, o, r, q, k⟩ => by
  obtain ⟨o1, e1, e2⟩ := bindO q
  refine ⟨F, τ, o1, r, e1, ?_⟩
  cases o1 with
  | nx τ1 => exact fun σ' F' H' s r' => ⟨F', τ1, o, r', e2, k.mono s⟩
  | rt nw d => cases e2; exact k
  | bk τ1 => cases e2; exact k
  | ct τ1 => cases e2; exact k
/-- slots are frozen ahead of a statement -/
def fzs : List Nat → DS → DS
  | [], τ => τ
  | i :: is, τ => fzs is (fz i τ)
theorem Rel.fzs {K : PySem.W.Frag} (hR : Sm R H0) : ∀ (is : List Nat) {τ : DS} {σ : L2.St} {F H : Hp}, Rel K R H0 τ σ F H → ∃ F', Sm F F' ∧ Rel K R H0 (fzs is τ) σ F' H
  | [], τ, σ, F, H, r => ⟨F, .refl, r⟩
  | i :: is, τ, σ, F, H, r => by
    obtain ⟨F1, s1, r1⟩ := Rel.fz i r hR
    obtain ⟨F2, s2, r2⟩ := Rel.fzs hR is r1
    exact ⟨F2, s1.trans s2, r2⟩
def fzF (is : List Nat) (g : FS) : FS := fun τ => g (fzs is τ)
theorem ss_fz (is : List Nat) {g : FS} (hR : Sm R H0) (h : SS R H0 X st g) : SS R H0 X st (fzF is g) := PSmono h fun D σ H ⟨F, τ, o, r, q, k⟩ => by
  obtain ⟨F1, s1, r1⟩ := Rel.fzs hR is r
  exact ⟨F1, _, o, r1, q, k.mono s1⟩
theorem ss_pass : SS R H0 X (.Pass pos) nxF := PSmono ps_pass fun D σ H ⟨F, τ, o, r, q, k⟩ => by
  cases q; exact k σ F H .refl r
def bkF : FS := fun τ => some (.bk τ)
def ctF : FS := fun τ => some (.ct τ)
theorem ss_break : SS R H0 X (.Break pos) bkF := PSmono ps_break fun D σ H ⟨F, τ, o, r, q, k⟩ => by
  cases q; exact k σ F H .refl r
theorem ss_continue : SS R H0 X (.Continue pos) ctF := PSmono ps_continue fun D σ H ⟨F, τ, o, r, q, k⟩ => by
  cases q; exact k σ F H .refl r
theorem ss_doc {x j pos'} : SS R H0 X (.Expr (.Constant (.str x) j pos) pos') nxF := PSmono ps_doc fun D σ H ⟨F, τ, o, r, q, k⟩ => by
  cases q; exact k σ F H .refl r
def setF (i : Nat) (f : FC) : FS := fun τ => (f τ).map fun c => .nx (τ.set i (some c))
theorem ss_set (i : Nat) {x : Str} {f : FC} {pos' : Pos} (hN : X.N.Nodup) (he : SC R H0 X e f) (hi : X.N[i]? = some x := by rfl) (hx : Loc X.env.scope x := by first | exact Or.inl rfl | exact Or.inr rfl) (hs : swapsWith e (some (.Name x pos')) pos.line X.env = pure false := by rfl) (hf : X.fn x = true ∨ X.env.scope.names.lookup x = some .local := by first | exact .inl rfl | exact .inr rfl | assumption) :
    SS R H0 X (.Assign [.Name x pos'] e pos) (setF i f) := PSmono (ps_set hN hi hx he hs hf) fun D σ H ⟨F, τ, o, r, q, k⟩ => by
  obtain ⟨cl, e1, rfl⟩ := mapO q
  exact ⟨F, τ, cl, r, e1, fun v F' H' Gp p ck => k _ F' H' p.g.f (r.store p ck)⟩
theorem ss_setLc (i : Nat) {y : Str} {py : Pos} {elt tg iter : Expr} {ifs : List Expr} {scope : Scope} {own : List (Str × Nat)} {pos spos : Pos} {wi : TI} {fi : FI} {g : TG} {t : TgD} {sl : List Nat} {tt : TT} {c : FT} {e : FE} (hc : X.calm = true) (hN : X.N.Nodup)
    (hsw : swapsWith (.ListComp elt [⟨tg, iter, ifs, 0⟩] scope pos) (some (.Name y py)) spos.line X.env = pure true) (hi : PI X tg iter wi) (hii : IiOk X.K R H0 wi fi) (ok : BlkOk X.N X.env.scope scope own)
    (hg : ∀ (s : Shared) (H : Hp) (C : Addr) (cl : List (Str × Addr)) (fp : List Addr), PG (X.blk s H scope (compEnvC scope cl C X.env) fp) tg g) (hgt : TgOk X.K R H0 g t sl) (hsl : ∀ j ∈ sl, j ∈ own.map (·.2))
    (ht : ∀ (s : Shared) (H : Hp) (C : Addr) (cl : List (Str × Addr)) (fp : List Addr), PTs (X.blk s H scope (compEnvC scope cl C X.env) fp) ifs tt) (htt : TtOk X.K R H0 tt c)
    (he : ∀ (s : Shared) (H : Hp) (C : Addr) (cl : List (Str × Addr)) (fp : List Addr), SE R H0 (X.blk s H scope (compEnvC scope cl C X.env) fp) elt e) (hy : X.N[i]? = some y := by rfl) (hyl : X.env.scope.names.lookup y = some .local := by rfl) (hs : ∀ x, foldedSetIterable iter X.env x = pure x := by intro _; rfl) :
    SS R H0 X (.Assign [.Name y py] (.ListComp elt [⟨tg, iter, ifs, 0⟩] scope pos) spos) (setF i (lcF fi (own.map (·.2)) t c e)) :=
  PSmono (ps_setLc hc hN hy hyl hsw hi ok hg ht he hs) fun D σ H ⟨F, τ, o, r, q, k⟩ => by
    obtain ⟨cl, e1, rfl⟩ := mapO q
    exact lc_ok hii hgt hsl htt r e1 fun v F' H' Gp p ck => k _ F' H' p.g.f (r.store p ck)
def unpF (f : FE) (t : TgD) : FS := fun τ => (f τ).bind fun p => (t p τ).map .nx
theorem ss_unpack {tg : Expr} {f : FE} {g : TG} {t : TgD} {sl : List Nat} (he : SE R H0 X e f) (hg : PG X tg g) (hgt : TgOk X.K R H0 g t sl) (hs : swapsWithSole [tg] e pos.line X.env = pure false := by rfl) (hw : swappedStores [tg] e X.env = pure none := by rfl)
    (h1 : (assignEach [tg] X.env).map (·.2) = [assign tg X.env] := by rfl) : SS R H0 X (.Assign [tg] e pos) (unpF f t) := PSmono (ps_asg he hg hs hw h1) fun D σ H ⟨F, τ, o, r, q, k⟩ => by
  obtain ⟨p, e1, q⟩ := bindO q
  obtain ⟨τ', e2, rfl⟩ := mapO q
  exact ⟨F, τ, p.1, p.2, r, e1, fun v F' H' g1 rp => hgt v σ H' F' τ p τ' (r.grow g1) rp e2 _ fun σ' r' _ _ => k σ' F' H' g1.f r'⟩
def augF (i : Nat) (f : FB) : FS := fun τ => match cellD τ[i]?, f τ with
  | some (_, .int x), some (.int y) => some (.nx (τ.set i (some (.d true (.int (x + y))))))
  | _, _ => none
theorem ss_aug (i : Nat) {x : Str} {f : FB} {pos' : Pos} (hN : X.N.Nodup) (he : SB R H0 X e f) (hi : X.N[i]? = some x := by rfl) (hx : Loc X.env.scope x := by first | exact Or.inl rfl | exact Or.inr rfl) (hf : X.fn x = true ∨ X.env.scope.names.lookup x = some .local := by first | exact .inl rfl | exact .inr rfl | assumption) :
    SS R H0 X (.AugAssign (.Name x pos') .Add e pos) (augF i f) := PSmono (ps_aug hN hi hx he ip_add hf) fun D σ H ⟨F, τ, o, r, q, k⟩ => by
  unfold augF at q
  split at q
  · rename_i nw x y h1 h2
    cases q
    obtain ⟨G, rg⟩ := r
    obtain ⟨v, hv, cv⟩ := rg.cell i _ (cellD_some h1)
    refine ⟨v, hv, F, τ, _, ⟨G, rg⟩, h2, fun u F' H' g1 ru => ⟨x, y, cv, ru, k _ F' H' g1.f ?_⟩⟩
    exact Rel.store (c := .d true (.int (x + y))) ⟨G, rg⟩ g1.pend rfl
  · cases q
def dropF {α : Type} (f : DS → Option α) : FS := fun τ => (f τ).map fun _ => .nx τ
theorem ss_expr {f : FE} (he : SE R H0 X e f) (hs : swapsWith e none pos.line X.env = pure false := by rfl) : SS R H0 X (.Expr e pos) (dropF f) := PSmono (ps_expr he hs) fun D σ H ⟨F, τ, o, r, q, k⟩ => by
  obtain ⟨⟨nw, d⟩, e1, rfl⟩ := mapO q
  exact ⟨F, τ, nw, d, r, e1, fun v F' H' g1 _ => k σ F' H' g1.f (r.grow g1)⟩
theorem ss_exprC {f : FC} (he : SC R H0 X e f) (hs : swapsWith e none pos.line X.env = pure false := by rfl) : SS R H0 X (.Expr e pos) (dropF f) := PSmono (ps_expr he hs) fun D σ H ⟨F, τ, o, r, q, k⟩ => by
  obtain ⟨cl, e1, rfl⟩ := mapO q
  exact ⟨F, τ, cl, r, e1, fun v F' H' Gp p _ => k σ F' H' p.g.f (r.grow p.g)⟩
def retF (f : FE) : FS := fun τ => (f τ).map fun p => .rt p.1 p.2
theorem ss_ret {f : FE} (he : SE R H0 X e f) : SS R H0 X (.Return (some e) pos) (retF f) := PSmono (ps_ret he) fun D σ H ⟨F, τ, o, r, q, k⟩ => by
  obtain ⟨⟨nw, d⟩, e1, rfl⟩ := mapO q
  exact ⟨F, τ, nw, d, r, e1, fun v F' H' g1 rp => k v F' H' (r.g.trans g1) rp⟩
def retNF : FS := fun _ => some (.rt true .non)
theorem ss_retN : SS R H0 X (.Return none pos) retNF := PSmono ps_retN fun D σ H ⟨F, τ, o, r, q, k⟩ => by
  cases q
  exact k _ F H r.g rfl
theorem ss_if {t : FT} {p q : List Stmt} {f g : FS} (h : ST R H0 X c t) (hp : SSs R H0 X p f) (hq : SSs R H0 X q g) : SS R H0 X (.If c p q pos) (ifF t f g) := PSmono (ps_if h hp hq) fun D σ H ⟨F, τ, o, r, q, k⟩ => by
  obtain ⟨x, e1, q⟩ := bindO q
  refine ⟨F, τ, x, r, e1, fun F1 H1 g1 => ?_⟩
  cases x with
  | true => exact iteT ⟨F1, τ, o, r.grow g1, q, k.mono g1.f⟩
  | false => exact iteF ⟨F1, τ, o, r.grow g1, q, k.mono g1.f⟩
/-- for -/
def forD (t : TgD) (gb : FS) : List (Bool × D) → DS → Option Out
  | [], τ => some (.nx τ)
  | p :: ps, τ => (t p τ).bind fun τ1 => (gb τ1).bind fun o => match o with
    | .nx τ2 => forD t gb ps τ2
    | .ct τ2 => forD t gb ps τ2
    | .bk τ2 => some (.nx τ2)
    | .rt nw d => some (.rt nw d)
def forF (fi : FI) (t : TgD) (gb : FS) : FS := fun τ => (fi τ).bind fun items => forD t gb items τ
theorem ss_for {tg iter : Expr} {body : List Stmt} {wi : TI} {fi : FI} {g : TG} {t : TgD} {sl : List Nat} {gb : FS} (hp : PassesOwn (model X.prog X.w) X.A X.env X.xe) (hc : X.calm = true) (hi : PI X tg iter wi) (hii : IiOk X.K R H0 wi fi) (hg : PG X tg g) (hgt : TgOk X.K R H0 g t sl) (hb : SSs R H0 X body gb)
    (hs : ∀ x, foldedSetIterable iter X.env x = pure x := by intro _; rfl) : SS R H0 X (.For tg iter body [] pos) (forF fi t gb) := PSmono (ps_for hp hc hi hg hb hs) fun D σ H ⟨F, τ, o, r, q, k⟩ => by
  obtain ⟨items, e1, q⟩ := bindO q
  refine hii σ H F τ items r e1 _ fun J F1 H1 g1 it => ?_
  refine ⟨fun i m σ H => m = items.length - i ∧ i ≤ items.length ∧ ∃ F2 τ2, Sm F1 F2 ∧ Rel X.K R H0 τ2 σ F2 H ∧ forD t gb (items.drop i) τ2 = some o, ⟨items.length, by omega, Nat.zero_le _, F1, τ, .refl, r.grow g1, q⟩, ?_⟩
  rintro i m σ2 H2 ⟨rfl, hi2, F2, τ2, s2, r2, e2⟩
  have k2 : OutK X.K R H0 D F2 o := k.mono (g1.f.trans s2)
  obtain ⟨ig, is⟩ := it i F2 H2 s2 r2.s r2.t r2.g.f
  by_cases hlt : i < items.length
  · obtain ⟨p, hp⟩ : ∃ p, items[i]? = some p := ⟨items[i], List.getElem?_eq_getElem hlt⟩
    obtain ⟨go, yl⟩ := ig p hp
    have ed : items.drop i = p :: items.drop (i + 1) := by
      rw [List.drop_eq_getElem_cons hlt]
      rw [List.getElem?_eq_getElem hlt] at hp
      rw [Option.some.inj hp]
    rw [ed] at e2
    obtain ⟨τ3, e3, e2⟩ := bindO (show (t p τ2).bind _ = _ from e2)
    obtain ⟨ob, e4, e2⟩ := bindO e2
    refine .inr ⟨go, fun σ' H' => ∃ F' τ', Sm F1 F' ∧ Rel X.K R H0 τ' σ' F' H' ∧ forD t gb (items.drop (i + 1)) τ' = some o, fun σ' H' ⟨F', τ', h1, h2, h3⟩ => ⟨items.length - (i + 1), by omega, rfl, hlt, F', τ', h1, h2, h3⟩, fun x H3 hy => ?_⟩
    obtain ⟨F3, g3, rx⟩ := yl x H3 hy
    refine hgt x σ2 H3 F3 τ2 p τ3 (r2.grow g3) rx e3 _ fun σ3 r3 _ _ => ⟨F3, τ3, ob, r3, e4, ?_⟩
    have s3 := s2.trans g3.f
    have k3 := k2.mono g3.f
    cases ob with
    | nx τ4 => exact fun σ' F' H' s r' => ⟨F', τ4, s3.trans s, r', e2⟩
    | ct τ4 => exact fun σ' F' H' s r' => ⟨F', τ4, s3.trans s, r', e2⟩
    | bk τ4 => cases e2; exact k3
    | rt nw d => cases e2; exact k3
  · have e3 : i = items.length := by omega
    subst e3
    rw [List.drop_length] at e2
    cases e2
    exact .inl ⟨is (Nat.le_refl _), k2 σ2 F2 H2 .refl r2⟩

/-! ### lists of one's own -/
theorem RelG.own {K : PySem.W.Frag} {G : Nat → Hp} {τ : DS} {σ : L2.St} {F H : Hp} {i : Nat} {p : Addr} {xs ys : List V} {nw : Bool} {ds : List D} (r : RelG K R H0 G τ σ F H) (hv : σ[i]? = some (some (.ref p))) (hG : G i p = some (.lst xs)) (hi : i < τ.length) (h : RpL K (lv nw R F) ds ys) :
    RelG K R H0 (fun j => if j = i then upd (G i) p (.lst ys) else G j) (τ.set i (some (.own nw ds))) σ F (upd H p (.lst ys)) := by
  have hp : G i p ≠ none := by rw [hG]; exact fun z => nomatch z
  have hF := ((r.reg i).n p hp).1
  have hH0 := ((r.reg i).n p hp).2
  have same : ∀ {b : Addr}, upd (G i) p (.lst ys) b ≠ none → G i b ≠ none := fun {b} hb => by
    by_cases e : b = p
    · rw [e]; exact hp
    · rw [upd_ne e] at hb; exact hb
  refine ⟨⟨r.g.f, fun b o e => ?_, fun b o e => ?_, r.g.n, r.g.t⟩, fun j => ?_, fun j k b hjk hb => ?_, by rw [List.length_set]; exact r.len, fun j c' e => ?_⟩
  · have hb : b ≠ p := fun z => by rw [z, hH0] at e; cases e
    rw [upd_ne hb]; exact r.g.h b o e
  · have hb : b ≠ p := fun z => by rw [z, hF] at e; cases e
    rw [upd_ne hb]; exact r.g.s b o e
  · by_cases hj : j = i
    · subst hj
      simp only [if_true]
      refine ⟨fun b o e => ?_, fun b hb => (r.reg j).n b (same hb), fun b ps e => ?_⟩
      · by_cases hb : b = p
        · subst hb; rw [upd_same] at e ⊢; exact e
        · rw [upd_ne hb] at e ⊢; exact (r.reg j).s b o e
      · by_cases hb : b = p
        · subst hb; rw [upd_same] at e; cases e
        · rw [upd_ne hb] at e; exact (r.reg j).t b ps e
    · simp only [hj, if_false]
      refine ⟨fun b o e => ?_, (r.reg j).n, (r.reg j).t⟩
      have hb : b ≠ p := fun z => by
        have := r.dis i j p (Ne.symm hj) hp
        rw [z, this] at e; cases e
      rw [upd_ne hb]; exact (r.reg j).s b o e
  · by_cases hj : j = i
    · have hk : k ≠ i := fun z => hjk (hj.trans z.symm)
      simp only [hj, if_true] at hb
      simp only [hk, if_false]
      exact r.dis i k b (fun z => hk z.symm) (same hb)
    · simp only [hj, if_false] at hb
      by_cases hk : k = i
      · simp only [hk, if_true]
        have z := r.dis j i b hj hb
        have hbp : b ≠ p := fun w => by rw [w, hG] at z; cases z
        rw [upd_ne hbp]; exact z
      · simp only [hk, if_false]; exact r.dis j k b hjk hb
  · by_cases hj : j = i
    · subst hj
      rw [List.getElem?_set_self hi] at e
      cases e
      refine ⟨.ref p, hv, p, ys, rfl, ?_, h⟩
      simp only [if_true]
      exact upd_same
    · rw [List.getElem?_set_ne (Ne.symm hj)] at e
      obtain ⟨u, h1, h2⟩ := r.cell j c' e
      refine ⟨u, h1, ?_⟩
      simp only [hj, if_false]
      exact h2
/-- what a list of one's own becomes -/
def ownF {α : Type} (i : Nat) (f : DS → Option α) (op : Bool → List D → α → Option (Bool × List D)) : FS := fun τ => match τ[i]? with
  | some (some (.own nw ds)) => (f τ).bind fun x => (op nw ds x).map fun p => .nx (τ.set i (some (.own p.1 p.2)))
  | _ => none
theorem ownF_some {α : Type} {i : Nat} {f : DS → Option α} {op : Bool → List D → α → Option (Bool × List D)} {τ : DS} {o : Out} (h : ownF i f op τ = some o) : ∃ nw ds x p, τ[i]? = some (some (.own nw ds)) ∧ f τ = some x ∧ op nw ds x = some p ∧ o = .nx (τ.set i (some (.own p.1 p.2))) := by
  unfold ownF at h
  split at h
  · rename_i nw ds e
    obtain ⟨x, e1, h⟩ := bindO h
    obtain ⟨p, e2, rfl⟩ := mapO h
    exact ⟨nw, ds, x, p, e, e1, e2, rfl⟩
  · cases h
theorem lt_of_some {α : Type} {l : List α} {i : Nat} {x : α} (h : l[i]? = some x) : i < l.length := (List.getElem?_eq_some_iff.mp h).1
def appOp (nw : Bool) (ds : List D) (p : Bool × List D) : Option (Bool × List D) := match p.2 with
  | [d] => if ds.length < lim then some (nw && p.1, ds ++ [d]) else none
  | _ => none
def extOp (nw : Bool) (ds : List D) (p : Bool × List D) : Option (Bool × List D) := match p.2 with
  | [.lst es] => if ds.length + es.length ≤ lim then some (nw && p.1, ds ++ es) else none
  | _ => none
/-- x.append(e) -/
theorem ss_append (i : Nat) {x : Str} {f : FA} {vp ap cp : Pos} (ha : SA R H0 X [e] f) (hN : X.N[i]? = some x := by rfl) (hv : Vis X.env.scope x := by first | exact Or.inl rfl | exact Or.inr (Or.inl rfl) | exact Or.inr (Or.inr rfl)) (hd : (x == ("__debug__" : Str)) = false := by decide)
    (hcd : (x == ("__classdict__" : Str)) = false := by decide) (hs : swapsWith (.Call (.Attribute (.Name x vp) "append" ap) [e] [] cp) none pos.line X.env = pure false := by rfl)
    (hbase : attributeBase (.Name x vp) "append" X.env (eval (.Name x vp) X.env) = eval (.Name x vp) X.env := by rfl)
    (hfew : ((backTo cp (starEach [e] X.env)).all (fun x => !x.1) && (backToKw cp (keywordEach [] X.env)).all (fun x => x.1.isSome)
      && decide ([e].length + ([] : List Keyword).length + (if ([] : List Keyword).isEmpty then 0 else 1) < 30)) = true := by rfl)
    (hline : (ap.endLine == cp.line) = true := by rfl) (he : starEach [e] X.env = (false, eval e X.env) :: starEach [] X.env := by rfl) :
    SS R H0 X (.Expr (.Call (.Attribute (.Name x vp) "append" ap) [e] [] cp) pos) (ownF i f appOp) :=
  PSmono (ps_expr (pe_bm PySem.F.plainAttrs_list PySem.F.slot_list_append PySem.F.type_list_append mt_append (pe_var hN hv hd hcd) ha hbase hfew hline he (by rfl)) hs) fun D σ H ⟨F, τ, o, r, q, k⟩ => by
    obtain ⟨nw, ds, ⟨m, as⟩, p, e1, e2, e3, rfl⟩ := ownF_some q
    unfold appOp at e3
    split at e3
    · rename_i d h
      have h : as = [d] := h
      subst h
      split at e3
      · rename_i hz
        cases e3
        obtain ⟨G, rg⟩ := r
        obtain ⟨v, hv, pa, xs, rfl, hG, rx⟩ := rg.cell i _ e1
        refine ⟨.ref pa, hv, .inl ⟨rfl, xs, .inl (.inl ((rg.reg i).s _ _ hG))⟩, F, τ, m, _, ⟨G, rg⟩, e2, fun vs F' H' g1 r1 => ?_⟩
        obtain ⟨y, rfl, ry⟩ := RpL.one_inv r1
        have rg' := rg.grow g1
        refine ⟨pa, xs, y, rfl, rfl, (rg'.reg i).s _ _ hG, by rw [← rx.length]; exact hz, k σ F' _ g1.f ⟨_, rg'.own hv hG (lt_of_some e1) ?_⟩⟩
        exact RpL.app (RpL.sm ((lv_mono g1.f).trans lv_and) rx) (RpL.sm lv_and' (RpL.one ry))
      · cases e3
    · cases e3
/-- x.extend(e), e a list -/
theorem ss_extend (i : Nat) {x : Str} {f : FA} {vp ap cp : Pos} (ha : SA R H0 X [e] f) (hN : X.N[i]? = some x := by rfl) (hv : Vis X.env.scope x := by first | exact Or.inl rfl | exact Or.inr (Or.inl rfl) | exact Or.inr (Or.inr rfl)) (hd : (x == ("__debug__" : Str)) = false := by decide)
    (hcd : (x == ("__classdict__" : Str)) = false := by decide) (hs : swapsWith (.Call (.Attribute (.Name x vp) "extend" ap) [e] [] cp) none pos.line X.env = pure false := by rfl)
    (hbase : attributeBase (.Name x vp) "extend" X.env (eval (.Name x vp) X.env) = eval (.Name x vp) X.env := by rfl)
    (hfew : ((backTo cp (starEach [e] X.env)).all (fun x => !x.1) && (backToKw cp (keywordEach [] X.env)).all (fun x => x.1.isSome)
      && decide ([e].length + ([] : List Keyword).length + (if ([] : List Keyword).isEmpty then 0 else 1) < 30)) = true := by rfl)
    (hline : (ap.endLine == cp.line) = true := by rfl) (he : starEach [e] X.env = (false, eval e X.env) :: starEach [] X.env := by rfl) :
    SS R H0 X (.Expr (.Call (.Attribute (.Name x vp) "extend" ap) [e] [] cp) pos) (ownF i f extOp) :=
  PSmono (ps_expr (pe_bm PySem.F.plainAttrs_list PySem.F.slot_list_extend PySem.F.type_list_extend mt_extend (pe_var hN hv hd hcd) ha hbase hfew hline he (by rfl)) hs) fun D σ H ⟨F, τ, o, r, q, k⟩ => by
    obtain ⟨nw, ds, ⟨m, as⟩, p, e1, e2, e3, rfl⟩ := ownF_some q
    unfold extOp at e3
    split at e3
    · rename_i es h
      have h : as = [.lst es] := h
      subst h
      split at e3
      · rename_i hz
        cases e3
        obtain ⟨G, rg⟩ := r
        obtain ⟨v, hv, pa, xs, rfl, hG, rx⟩ := rg.cell i _ e1
        refine ⟨.ref pa, hv, .inl ⟨rfl, xs, .inl (.inl ((rg.reg i).s _ _ hG))⟩, F, τ, m, _, ⟨G, rg⟩, e2, fun vs F' H' g1 r1 => ?_⟩
        obtain ⟨y, rfl, pb, zs, rfl, hB, rz⟩ := RpL.one_inv r1
        have rg' := rg.grow g1
        refine ⟨pa, pb, xs, zs, rfl, rfl, (rg'.reg i).s _ _ hG, g1.s _ _ (lv_sub _ _ hB), by rw [← rx.length, ← rz.length]; exact hz, k σ F' _ g1.f ⟨_, rg'.own hv hG (lt_of_some e1) ?_⟩⟩
        exact RpL.app (RpL.sm ((lv_mono g1.f).trans lv_and) rx) (RpL.sm lv_and' rz)
      · cases e3
    · cases e3
end
end Dl
end
section
set_option Elab.async false
set_option linter.all false
set_option maxRecDepth 100000
set_option maxHeartbeats 4000000
namespace Dl
open PySem PySem.Spec PyProof.Rows L2 GxR Gx

/-! ### the theorem of a def -/
abbrev NoE (CX : CXT) : Prop := ∀ outer H s e s', ¬ CX outer H s E0 e s'
theorem pass_of {CX : CXT} {X : Cx} (h : NoE CX) : Passes CX X E0 := fun _ _ _ _ _ _ _ z => (h _ _ _ _ _ z).elim
def startD (n : Nat) (ds : List D) : DS := ds.map (fun d => some (.d (scal d) d)) ++ List.replicate (n - ds.length) none
def phi (n : Nat) (g : FS) : Phi := fun ds => match g (startD n ds) with
  | some (.rt nw d) => some (.ok nw d)
  | some (.nx _) => some (.ok true .non)
  | _ => none
theorem RpL.at {K : PySem.W.Frag} {H : Hp} {ds : List D} {xs : List V} {i : Nat} {d : D} (h : RpL K H ds xs) (e : ds[i]? = some d) : ∃ x, xs[i]? = some x ∧ Rp K H d x := h.get e
theorem start_rel {K : PySem.W.Frag} {R H : Hp} {N : List Str} {ds : List D} {vs : List V} (sR : Sm R H) (tR : NoTbl R) (r : RpL K R ds vs) : Rel K R H (startD N.length ds) (L2.start N vs) R H := by
  refine ⟨fun _ => emp, .refl sR tR, fun i => .emp, fun i j b _ _ => rfl, ?_, fun i c e => ?_⟩
  · unfold startD L2.start
    rw [List.length_append, List.length_append, List.length_map, List.length_map, List.length_replicate, List.length_replicate, r.length]
  · unfold startD at e
    have hi : i < ds.length := by
      rcases Nat.lt_or_ge i ds.length with h | h
      · exact h
      · rw [List.getElem?_append_right (by rw [List.length_map]; exact h), List.getElem?_replicate] at e
        split at e <;> cases e
    rw [List.getElem?_append_left (by rw [List.length_map]; exact hi), List.getElem?_map] at e
    obtain ⟨d, hd, hc⟩ := mapO e
    cases hc
    obtain ⟨x, hx, rx⟩ := r.get hd
    refine ⟨x, ?_, ?_⟩
    · unfold L2.start
      rw [List.getElem?_append_left (by rw [List.length_map, ← r.length]; exact hi), List.getElem?_map, hx]
      rfl
    · show Rp K (lv (scal d) R R) d x
      have := lv_scal (n := false) (R := R) (F := R) (d := d) (v := x) (K := K) (by rw [lv_false]; exact rx)
      rw [Bool.false_or] at this
      exact this
/-- a def of the text, with its code object -/
structure Def (K : PySem.W.Frag) (mg : Str → Option Value) (c : Addr) (x : Str) (st : Stmt) (ps : List Str) : Prop where
  ex : ∃ (f : Addr) (oc : Value) (od : Option Addr) (kV doc pm : Value) (an : Option Addr) (ct : Value) (osl : Array (Option Value)),
    K.lookup f = some ⟨oc, od, .func (PySem.W.fnOf x x (L2.defArgs st) (L2.defBody st) (L2.defScope st) .none kV doc pm an (.ref c) ct), osl⟩ ∧ PySem.W.codeIn K (.ref c) x = true ∧ mg x = some (.ref f) ∧ PySem.W.keepIn K (.ref f) = true
  bd : ∀ (kV doc pm : Value) (an : Option Addr) (cdv ct : Value) (us : List Value), us.length = ps.length → bindArgs (PySem.W.fnOf x x (L2.defArgs st) (L2.defBody st) (L2.defScope st) .none kV doc pm an cdv ct) ⟨us, []⟩ = pure (ps.zip us)
/-- a def that keeps its promise -/
def Okd (P : Program) (w : World) (K : PySem.W.Frag) (mg : Str → Option Value) (base : Heap) (CX : CXT) (cs : List (Addr × Addr)) (k : Nat) (x : Str) (np : Nat) (φ : Phi) : Prop :=
  ∃ (f : Addr) (fd : FuncData) (ps : List Str), mg x = some (.ref f) ∧ PySem.W.keepIn K (.ref f) = true ∧ Binds K fd ps [] ∧ FnOk P w K mg base CX k f fd ps (spD K cs np φ)
section
variable {P : Program} {w : World} {K : PySem.W.Frag} {mg : Str → Option Value} {base : Heap} {CX : CXT} {cs : List (Addr × Addr)} {k : Nat} {c : Addr} {x : Str} {st : Stmt} {N ps : List Str} {g : FS}
theorem fnD (Df : Def K mg c x st ps) (S : FnScope N ps (L2.defScope st))
    (hbody : ∀ (f : Addr) (A : Around) (outer : List Env) (s : Shared) (H : Hp) (E : XK) (R : Hp), Room k (A.deeper (envOfC x (L2.defScope st) s.heap.objs.size f (.ref c))) → Sm R H → Tabs cs H →
      SSs R H (cxOf CX P w K mg base N x (L2.defScope st) f (.ref c) A outer s H E).nox (L2.defBody st) g) : Okd P w K mg base CX cs (k + 1) x ps.length (phi N.length g) := by
  obtain ⟨f, oc, od, kV, doc, pm, an, ct, osl, lk, hcd, hm, hk⟩ := Df.ex
  refine ⟨f, _, ps, hm, hk, .all (Df.bd kV doc pm an (.ref c) ct), fn_of lk hcd S (fun vs H Q E h => h.1) fun A outer s H vs Q E hr ⟨hl, hT, R, ds, r, sR, tR, rr, e, ok⟩ => ?_⟩
  refine ⟨_, (hbody f A outer s H E R hr sR hT).nox, R, startD N.length ds, ?_⟩
  unfold phi at e
  cases q : g (startD N.length ds) with
  | none => rw [q] at e; cases e
  | some o =>
    rw [q] at e
    refine ⟨o, start_rel sR tR rr, rfl, ?_⟩
    cases o with
    | rt nw d => cases e; exact ok
    | nx τ => cases e; exact fun σ' F' H' s r' => ok .non F' H' r'.g rfl
    | bk τ => cases e
    | ct τ => cases e
end
section
variable {R H0 : Hp} {X : Cx} {e : Expr} {es : List Expr} {pos : Pos} {CX : CXT} {k n : Nat} {cs : List (Addr × Addr)} {np : Nat} {φ : Phi} {x : Str} {p : Pos}
theorem sc_fn {g : FA} (O : Okd X.prog X.w X.K X.mg X.base CX cs k x np φ) (hT : Tabs cs H0) (hx : NoE CX) (hr : Room n X.A) (hkn : k ≤ n) (h : SA R H0 X (e :: es) g) (hlen : ∀ τ p, g τ = some p → p.2.length = np) (hg : Gl X x := by rfl) (hn : (e :: es).length = np := by rfl)
    (hdb : (x == ("__debug__" : Str)) = false := by decide) (he : starEach (e :: es) X.env = (false, eval e X.env) :: starEach es X.env := by rfl) (hpl : (backTo pos (starEach es X.env)).any (·.1) = false := by rfl) :
    SC R H0 X (.Call (.Name x p) (e :: es) [] pos) (callC φ g) := by
  obtain ⟨f, fd, ps, hm, hk, hb, F⟩ := O
  exact sc_call hT F (hr.mono hkn) hg hm hk hb (pass_of hx) hn h hlen hdb he hpl
theorem sc_fn0 (O : Okd X.prog X.w X.K X.mg X.base CX cs k x 0 φ) (hT : Tabs cs H0) (hx : NoE CX) (hr : Room n X.A) (hkn : k ≤ n) (hg : Gl X x := by rfl) (hdb : (x == ("__debug__" : Str)) = false := by decide) : SC R H0 X (.Call (.Name x p) [] [] pos) (callC φ nilA) := by
  obtain ⟨f, fd, ps, hm, hk, hb, F⟩ := O
  exact sc_call0 hT F (hr.mono hkn) hg hm hk hb (pass_of hx) hdb
end
end Dl
end
section
set_option Elab.async false
set_option linter.all false
set_option maxRecDepth 100000
set_option maxHeartbeats 4000000
namespace Dl
open PySem PySem.Spec PyProof.Rows L2 GxR Gx

/-! ### dicts of one's own -/
theorem RelG.write {K : PySem.W.Frag} {R H0 : Hp} {G : Nat → Hp} {τ : DS} {σ : L2.St} {F H : Hp} {i : Nat} {p : Addr} {o o' : HO} {c : C} (r : RelG K R H0 G τ σ F H) (hv : σ[i]? = some (some (.ref p))) (hG : G i p = some o) (ht : ∀ ps, o' ≠ .tbl ps) (hi : i < τ.length) (h : Cok K R F (upd (G i) p o') c (.ref p)) :
    RelG K R H0 (fun j => if j = i then upd (G i) p o' else G j) (τ.set i (some c)) σ F (upd H p o') := by
  have hp : G i p ≠ none := by rw [hG]; exact fun z => nomatch z
  have hF := ((r.reg i).n p hp).1
  have hH0 := ((r.reg i).n p hp).2
  have same : ∀ {b : Addr}, upd (G i) p o' b ≠ none → G i b ≠ none := fun {b} hb => by
    by_cases e : b = p
    · rw [e]; exact hp
    · rw [upd_ne e] at hb; exact hb
  refine ⟨⟨r.g.f, fun b o e => ?_, fun b o e => ?_, r.g.n, r.g.t⟩, fun j => ?_, fun j k b hjk hb => ?_, by rw [List.length_set]; exact r.len, fun j c' e => ?_⟩
  · have hb : b ≠ p := fun z => by rw [z, hH0] at e; cases e
    rw [upd_ne hb]; exact r.g.h b o e
  · have hb : b ≠ p := fun z => by rw [z, hF] at e; cases e
    rw [upd_ne hb]; exact r.g.s b o e
  · by_cases hj : j = i
    · subst hj
      simp only [if_true]
      refine ⟨fun b o e => ?_, fun b hb => (r.reg j).n b (same hb), fun b ps e => ?_⟩
      · by_cases hb : b = p
        · subst hb; rw [upd_same] at e ⊢; exact e
        · rw [upd_ne hb] at e ⊢; exact (r.reg j).s b o e
      · by_cases hb : b = p
        · subst hb; rw [upd_same] at e; exact ht ps (Option.some.inj e)
        · rw [upd_ne hb] at e; exact (r.reg j).t b ps e
    · simp only [hj, if_false]
      refine ⟨fun b o e => ?_, (r.reg j).n, (r.reg j).t⟩
      have hb : b ≠ p := fun z => by
        have := r.dis i j p (Ne.symm hj) hp
        rw [z, this] at e; cases e
      rw [upd_ne hb]; exact (r.reg j).s b o e
  · by_cases hj : j = i
    · have hk : k ≠ i := fun z => hjk (hj.trans z.symm)
      simp only [hj, if_true] at hb
      simp only [hk, if_false]
      exact r.dis i k b (fun z => hk z.symm) (same hb)
    · simp only [hj, if_false] at hb
      by_cases hk : k = i
      · simp only [hk, if_true]
        have z := r.dis j i b hj hb
        have hbp : b ≠ p := fun w => by rw [w, hG] at z; cases z
        rw [upd_ne hbp]; exact z
      · simp only [hk, if_false]; exact r.dis j k b hjk hb
  · by_cases hj : j = i
    · subst hj
      rw [List.getElem?_set_self hi] at e
      cases e
      refine ⟨.ref p, hv, ?_⟩
      simp only [if_true]
      exact h
    · rw [List.getElem?_set_ne (Ne.symm hj)] at e
      obtain ⟨u, h1, h2⟩ := r.cell j c' e
      refine ⟨u, h1, ?_⟩
      simp only [hj, if_false]
      exact h2
def keyD : D → Option Key
  | .int i => some (.inl i)
  | .str x => some (.inr x)
  | _ => none
theorem keyD_some {K : PySem.W.Frag} {H : Hp} {d : D} {k : Key} {v : V} (h : keyD d = some k) (r : Rp K H d v) : v = kV k := by
  cases d <;> first | (cases h; done) | skip
  · cases h; exact r
  · cases h; exact r
def updL {α : Type} : List Key → List α → Key → α → List α
  | k' :: ks, x :: xs, k, v => (if k' = k then v else x) :: updL ks xs k v
  | _, xs, _, _ => xs
theorem updL_cons {α : Type} {k' : Key} {ks : List Key} {x : α} {xs : List α} {k : Key} {v : α} : updL (k' :: ks) (x :: xs) k v = (if k' = k then v else x) :: updL ks xs k v := rfl
def hasK (ks : List Key) (k : Key) : Bool := ks.any fun j => decide (j = k)
theorem updL_zip {k : Key} {v : V} : ∀ {ks : List Key} {xs : List V}, (ks.zip xs).map (fun kv => if kv.1 = k then (kv.1, v) else kv) = ks.zip (updL ks xs k v)
  | [], xs => by simp
  | _ :: _, [] => by simp [updL]
  | k' :: ks, x :: xs => by
    rw [List.zip_cons_cons, List.map_cons, updL_zip, updL_cons, List.zip_cons_cons]
    congr 1
    dsimp only
    split <;> rfl
theorem updL_len {α : Type} {k : Key} {v : α} : ∀ {ks : List Key} {xs : List α}, (updL ks xs k v).length = xs.length
  | [], _ => rfl
  | _ :: _, [] => rfl
  | k' :: ks, x :: xs => by unfold updL; rw [List.length_cons, List.length_cons, updL_len]
theorem RpL.updL {K : PySem.W.Frag} {H : Hp} {k : Key} {d : D} {v : V} (h : Rp K H d v) : ∀ {ks : List Key} {ds : List D} {xs : List V}, RpL K H ds xs → RpL K H (updL ks ds k d) (Dl.updL ks xs k v)
  | [], _, _, r => r
  | _ :: _, [], _, r => by rw [show _ = [] from r]; exact rfl
  | k' :: ks, e :: ds, _, ⟨y, r, e1, r1, r2⟩ => by
    rw [e1]
    unfold Dl.updL
    refine ⟨_, _, rfl, ?_, RpL.updL h r2⟩
    split
    · exact h
    · exact r1
theorem zip_app {ks : List Key} {xs : List V} {k : Key} {v : V} (h : ks.length = xs.length) : ks.zip xs ++ [(k, v)] = (ks ++ [k]).zip (xs ++ [v]) := by
  rw [List.zip_append h]; rfl
theorem any_zip {k : Key} : ∀ {ks : List Key} {xs : List V}, ks.length = xs.length → ((ks.zip xs).any fun kv => decide (kv.1 = k)) = hasK ks k
  | [], [], _ => rfl
  | k' :: ks, x :: xs, h => by
    rw [List.zip_cons_cons, List.any_cons, any_zip (Nat.succ.inj h)]
    rfl
theorem isSome_zip {ks : List Key} {xs : List V} {k : Key} (h : ks.length = xs.length) : (valV (ks.zip xs) k).isSome = hasK ks k := by
  rw [← valV_any, any_zip h]
theorem putK_zip {ks : List Key} {xs : List V} {k : Key} {v : V} (h : ks.length = xs.length) : putK (ks.zip xs) k v = if hasK ks k = true then ks.zip (updL ks xs k v) else (ks ++ [k]).zip (xs ++ [v]) := by
  unfold putK
  rw [any_zip h]
  by_cases e : hasK ks k = true
  · rw [if_pos e, if_pos e, updL_zip]
  · rw [if_neg e, if_neg e, zip_app h]
section
variable {R H0 : Hp} {X : Cx} {a b e value ke : Expr} {pos p2 pos' : Pos} {n : Nat}
def dnewF : FC := fun _ => some (.dic true [] [])
theorem sc_dnew : SC R H0 X (.Dict [] [] pos) dnewF := PEmono pe_dnewK fun σ H Q ⟨F, τ, c, r, q, k⟩ => by
  cases q
  exact fun p hp => k _ _ _ _ (pend_new r.refl hp fun _ z => nomatch z) ⟨p, [], rfl, sing_same, rfl, rfl⟩
def dputF (i : Nat) (fk fv : FE) : FS := fun τ => match τ[i]? with
  | some (some (.dic nw ks ds)) => (fv τ).bind fun v => (fk τ).bind fun kk => (keyD kk.2).bind fun k => if ks.length < lim then
      some (.nx (τ.set i (some (if hasK ks k = true then .dic (nw && v.1) ks (updL ks ds k v.2) else .dic (nw && v.1) (ks ++ [k]) (ds ++ [v.2]))))) else none
  | _ => none
theorem ss_dput (i : Nat) {x : Str} {fk fv : FE} (hr : Room n X.A) (hk : SE R H0 X ke fk) (hv : SE R H0 X value fv) (hN : X.N[i]? = some x := by rfl) (hvs : Vis X.env.scope x := by first | exact Or.inl rfl | exact Or.inr (Or.inl rfl) | exact Or.inr (Or.inr rfl)) (hd : (x == ("__debug__" : Str)) = false := by decide)
    (hcd : (x == ("__classdict__" : Str)) = false := by decide) (hs : swapsWith value (some (.Subscript (.Name x p2) ke pos')) pos.line X.env = pure false := by rfl) : SS R H0 X (.Assign [.Subscript (.Name x p2) ke pos'] value pos) (dputF i fk fv) :=
  PSmono (ps_dput (by have := hr.units; omega) (pe_var hN hvs hd hcd) hk hv hs) fun D σ H ⟨F, τ, o, r, q, k⟩ => by
    unfold dputF at q
    split at q
    · rename_i nw ks ds e1
      obtain ⟨⟨m, d⟩, e2, q⟩ := bindO q
      obtain ⟨⟨mk, kd⟩, e3, q⟩ := bindO q
      obtain ⟨kk, e4, q⟩ := bindO q
      split at q
      · rename_i hz
        cases q
        refine ⟨F, τ, m, d, r, e2, fun v F1 H1 g1 rv => ?_⟩
        obtain ⟨G, rg⟩ := id r
        obtain ⟨u, hu, p, xs, rfl, hG, hl, rx⟩ := rg.cell i _ e1
        refine ⟨.ref p, hu, F1, τ, mk, kd, r.grow g1, e3, fun y F2 H2 g2 ry => ?_⟩
        have gg := g1.trans g2
        have rg2 := rg.grow gg
        refine ⟨p, upd H2 p (.dK (putK (ks.zip xs) kk v)), rfl, ?_, ?_⟩
        · rw [keyD_some e4 ry]
          exact .k ((rg2.reg i).s _ _ hG) (by rw [List.length_zip]; have := Nat.min_le_left ks.length xs.length; exact Nat.lt_of_le_of_lt this hz)
        · refine k σ F2 _ gg.f ⟨_, rg2.write hu hG (fun _ z => nomatch z) (lt_of_some e1) ?_⟩
          have rv2 : Rp X.K (lv (nw && m) R F2) d v := Rp.sm ((lv_mono g2.f).trans lv_and') rv
          have rx2 : RpL X.K (lv (nw && m) R F2) ds xs := RpL.sm ((lv_mono gg.f).trans lv_and) rx
          by_cases hk : hasK ks kk = true
          · rw [if_pos hk, putK_zip hl, if_pos hk]
            exact ⟨p, _, rfl, upd_same, by rw [updL_len]; exact hl, RpL.updL rv2 rx2⟩
          · rw [if_neg hk, putK_zip hl, if_neg hk]
            exact ⟨p, _, rfl, upd_same, by rw [List.length_append, List.length_append, hl]; rfl, RpL.app rx2 (RpL.one rv2)⟩
      · cases q
    · cases q
def dinF (i : Nat) (fk : FE) : FT := fun τ => match τ[i]? with
  | some (some (.dic _ ks _)) => (fk τ).bind fun kk => (keyD kk.2).map fun k => hasK ks k
  | _ => none
theorem c_din (i : Nat) {x : Str} {fk : FE} (hr : Room n X.A) (hk : SE R H0 X ke fk) (hN : X.N[i]? = some x := by rfl) (hvs : Vis X.env.scope x := by first | exact Or.inl rfl | exact Or.inr (Or.inl rfl) | exact Or.inr (Or.inr rfl)) (hd : (x == ("__debug__" : Str)) = false := by decide)
    (hcd : (x == ("__classdict__" : Str)) = false := by decide) : ST R H0 X (.Compare ke [.In] [.Name x p2] pos) (dinF i fk) := PTmono (pt_cmp (pc_din (by have := hr.units; omega) hk (pe_var hN hvs hd hcd))) fun σ H Q ⟨F, τ, z, r, q, k⟩ => by
  unfold dinF at q
  split at q
  · rename_i nw ks ds e1
    obtain ⟨⟨mk, kd⟩, e3, q⟩ := bindO q
    obtain ⟨kk, e4, rfl⟩ := mapO q
    refine ⟨F, τ, mk, kd, r, e3, fun y F2 H2 g2 ry => ?_⟩
    obtain ⟨G, rg⟩ := id r
    obtain ⟨u, hu, p, xs, rfl, hG, hl, rx⟩ := rg.cell i _ e1
    have hH := ((rg.grow g2).reg i).s _ _ hG
    refine ⟨.ref p, hu, p, _, rfl, (by rw [keyD_some e4 ry]; exact .k hH), ?_⟩
    rw [isSome_zip hl]
    exact ⟨_, rfl, k F2 H2 g2⟩
  · cases q
end
end Dl
end
section
set_option Elab.async false
set_option linter.all false
set_option maxRecDepth 100000
set_option maxHeartbeats 4000000
namespace Dl
open PySem PySem.Spec PyProof.Rows L2 GxR Gx
/-! ### names for the operations -/
def subF (f g : FB) : FE := bi f g (oI yes2 fun i j => .int (i - j))
def fdivF (f g : FB) : FE := bi f g (oI (fun _ j => decide (0 < j) && decide (j < 1073741824)) fun i j => .int (i / j))
def modF (f g : FB) : FE := bi f g (oI (fun _ j => decide (0 < j)) fun i j => .int (i % j))
def powF (f g : FB) : FE := bi f g (oI (fun i j => decide (0 ≤ j) && decide (j ≤ 1000000) && decide (i.natAbs < 2 ^ 64)) fun i j => .int (i ^ j.toNat))
def bandF (f g : FB) : FE := bi f g (oI yes2 fun i j => .int (Builtin.bitAnd i j))
def shrF (f g : FB) : FE := bi f g (oI (fun _ j => decide (0 ≤ j)) fun i j => .int (i / 2 ^ j.toNat))
end Dl
end
section
set_option Elab.async false
set_option linter.all false
set_option maxRecDepth 100000
set_option maxHeartbeats 4000000
namespace Dl
open PySem PySem.Spec PyProof.Rows L2 GxR Gx

/-! ### what is told is written over, then forgotten -/
/-- nothing but the region Gp has changed -/
def Off (Gp H H' : Hp) : Prop := ∀ b, Gp b = none → H' b = H b
theorem RelG.off {K : PySem.W.Frag} {R H0 : Hp} {G : Nat → Hp} {τ : DS} {σ : L2.St} {F H H1 H2 F1 Gp : Hp} (r : RelG K R H0 G τ σ F H) (p : Pend F H F1 H1 Gp) (o : Off Gp H1 H2) : RelG K R H0 G τ σ F1 H2 := by
  have r1 := r.grow p.g
  have nH : ∀ {b : Addr}, H b ≠ none → Gp b = none := fun {b} hb => by
    cases q : Gp b with
    | none => rfl
    | some u => exact absurd (p.n b (by rw [q]; exact fun z => nomatch z)).2 hb
  have nF : ∀ {b : Addr}, F1 b ≠ none → Gp b = none := fun {b} hb => by
    cases q : Gp b with
    | none => rfl
    | some u => exact absurd (p.n b (by rw [q]; exact fun z => nomatch z)).1 hb
  refine ⟨⟨r1.g.f, fun b x e => ?_, fun b x e => ?_, r1.g.n, r1.g.t⟩, fun i => ⟨fun b x e => ?_, (r1.reg i).n, (r1.reg i).t⟩, r1.dis, r1.len, r1.cell⟩
  · rw [o b (nH (r.g.h.some (by rw [e]; exact fun z => nomatch z)))]
    exact r1.g.h b x e
  · rw [o b (nF (by rw [e]; exact fun z => nomatch z))]
    exact r1.g.s b x e
  · have hb : H b ≠ none := by rw [(r.reg i).s b x e]; exact fun z => nomatch z
    rw [o b (nH hb)]
    exact (r1.reg i).s b x e
def strL (zs : List V) : Prop := ∀ z ∈ zs, ∃ x, z = V.str x
def isStr : D → Bool
  | .str _ => true
  | _ => false
theorem RpL.strs {K : PySem.W.Frag} {H : Hp} : ∀ {ds : List D} {zs : List V}, ds.all isStr = true → RpL K H ds zs → strL zs
  | [], zs, _, h => by rw [show zs = [] from h]; exact fun z hz => nomatch hz
  | d :: ds, _, s, ⟨y, r, e, h, t⟩ => by
    rw [List.all_cons, Bool.and_eq_true] at s
    rw [e]
    intro z hz
    rcases List.mem_cons.mp hz with q | q
    · cases d <;> first | (cases s.1; done) | skip
      rename_i x
      exact ⟨x, q.trans h⟩
    · exact RpL.strs s.2 t z q
/-- lists of texts may have grown by n -/
def Sc (Gp H : Hp) (n : Nat) : Prop := ∀ b o, Gp b = some o → H b = some o ∨ ∃ zs ys, o = .lst zs ∧ strL zs ∧ H b = some (.lst ys) ∧ ys.length ≤ zs.length + n
theorem Sc.lst {Gp H : Hp} {n : Nat} {b : Addr} {zs : List V} (s : Sc Gp H n) (h : Gp b = some (.lst zs)) : ∃ ys, H b = some (.lst ys) ∧ ys.length ≤ zs.length + n := by
  rcases s b _ h with q | ⟨ws, ys, e, _, q, l⟩
  · exact ⟨zs, q, by omega⟩
  · cases e; exact ⟨ys, q, l⟩
theorem Sc.put {Gp H : Hp} {n m : Nat} {b : Addr} {zs ys : List V} (s : Sc Gp H n) (h : Gp b = some (.lst zs)) (hs : strL zs) (hl : ys.length ≤ zs.length + m) (hm : n ≤ m) : Sc Gp (upd H b (.lst ys)) m := fun x o e => by
  by_cases hx : x = b
  · subst hx
    rw [h] at e; cases e
    exact .inr ⟨zs, ys, rfl, hs, upd_same, hl⟩
  · rw [upd_ne hx]
    rcases s x o e with q | ⟨ws, us, e1, e2, q, l⟩
    · exact .inl q
    · exact .inr ⟨ws, us, e1, e2, q, by omega⟩
theorem Off.put {Gp H H' : Hp} {b : Addr} {o o' : HO} (f : Off Gp H H') (h : Gp b = some o) : Off Gp H (upd H' b o') := fun x e => by
  have hx : x ≠ b := fun z => by rw [z, h] at e; cases e
  rw [upd_ne hx]; exact f x e
/-- the pieces of what is told: a place and two lists of texts -/
def pcOk (n : Nat) : D → Bool
  | .tup [_, .lst a, .lst b] => a.all isStr && b.all isStr && decide (a.length + n < lim) && decide (b.length + n < lim)
  | _ => false
def scribF (j : Nat) (f : FC) : FS := fun τ => match f τ with
  | some (.dp (.lst ds)) => if (ds.all (pcOk ds.length) && decide (j < τ.length)) = true then some (.nx (τ.set j none)) else none
  | _ => none
theorem pcOk_some {n : Nat} {d : D} (h : pcOk n d = true) : ∃ x a b, d = .tup [x, .lst a, .lst b] ∧ a.all isStr = true ∧ b.all isStr = true ∧ a.length + n < lim ∧ b.length + n < lim := by
  unfold pcOk at h
  split at h
  · rename_i x a b
    simp only [Bool.and_eq_true, decide_eq_true_eq] at h
    exact ⟨x, a, b, rfl, h.1.1.1, h.1.1.2, h.1.2, h.2⟩
  · cases h
section
variable {R H0 : Hp} {X : Cx} {iter : Expr} {pos : Pos}
theorem scrib_core {tb : TS} {f : FC} {j : Nat} {te : TE} (hte : ∀ σ H Q, tSC X.K R H0 f σ H Q → te σ H Q)
    (step : ∀ (D : Ends) (σ : L2.St) (H Gp : Hp) (n : Nat) (t p q : Addr) (x : V) (us vs : List V), σ[j]? = some (some (.ref t)) → Gp t = some (.tup [x, .ref p, .ref q]) → Gp p = some (.lst us) → Gp q = some (.lst vs) → strL us → strL vs → us.length + n < lim → vs.length + n < lim → Sc Gp H n →
      (∀ H', Off Gp H H' → Sc Gp H' (n + 1) → D.nx σ H') → tb D σ H)
    {D : Ends} {σ : L2.St} {H : Hp} (h : tSS X.K R H0 (scribF j f) D σ H) : tFor (iList X.K te) (gName j) tb D σ H := by
  obtain ⟨F, τ, o, r, q, k⟩ := h
  unfold scribF at q
  split at q
  · rename_i ds e1
    split at q
    · rename_i hok
      cases q
      rw [Bool.and_eq_true, decide_eq_true_eq] at hok
      obtain ⟨hok, hjt⟩ := hok
      refine hte _ _ _ ⟨F, τ, _, r, e1, fun v F1 H1 Gp pd cv => ?_⟩
      obtain ⟨a, xs, rfl, hG, rx⟩ := cv
      obtain ⟨G, rg⟩ := r
      have hH1 := pd.s a _ hG
      refine ⟨a, rfl, ⟨xs, .inl (.inl hH1)⟩, ?_⟩
      have keepA : ∀ {H' : Hp} {n : Nat}, n ≤ xs.length → Sc Gp H' n → H' a = some (.lst xs) := fun {H' n} hn s => by
        rcases s a _ hG with w | ⟨zs, ys, e, st, w, l⟩
        · exact w
        · cases e
          cases xs with
          | nil =>
            have : ys = [] := List.eq_nil_of_length_eq_zero (by have : n = 0 := Nat.le_zero.mp hn; simp only [List.length_nil] at l; omega)
            rw [w, this]
          | cons x0 xr =>
            exfalso
            obtain ⟨d0, hd0⟩ : ∃ d0, ds[0]? = some d0 := by
              cases ds with
              | nil => exact nomatch (show (x0 :: xr : List V) = [] from rx)
              | cons d0 _ => exact ⟨d0, rfl⟩
            obtain ⟨y, hy, ry⟩ := rx.get hd0
            have hm : d0 ∈ ds := List.mem_of_getElem? hd0
            obtain ⟨x, u, v, rfl, _⟩ := pcOk_some (List.all_eq_true.mp hok d0 hm)
            obtain ⟨t, ts, rfl, _⟩ := ry
            obtain ⟨s, hs⟩ := st _ (List.mem_of_getElem? hy)
            cases hs
      refine for_list (K := X.K) (xs := xs) (fun n σ' H' => σ'.length = σ.length ∧ (∀ i, i ≠ j → σ'[i]? = σ[i]?) ∧ Off Gp H1 H' ∧ Sc Gp H' n) ⟨rfl, fun _ _ => rfl, fun _ _ => rfl, fun b o e => .inl (pd.s b o e)⟩ (fun n σ' H' hn ⟨_, _, _, s⟩ => .inl (.inl (keepA hn s))) (fun n x σ' H' hx ⟨hl, hσ, ho, s⟩ => ?_) fun σ' H' ⟨hl, hσ, ho, s⟩ => ?_
      · obtain ⟨d, hd⟩ : ∃ d, ds[n]? = some d := by
          have hn : n < ds.length := by rw [rx.length]; exact lt_of_some hx
          exact ⟨ds[n], List.getElem?_eq_getElem hn⟩
        obtain ⟨y, hy, ry⟩ := rx.get hd
        rw [hx] at hy; cases hy
        obtain ⟨x0, u, v, rfl, hu, hv, lu, lv⟩ := pcOk_some (List.all_eq_true.mp hok d (List.mem_of_getElem? hd))
        obtain ⟨t, ts, rfl, hGt, y1, r1, rfl, _, y2, r2, rfl, ⟨p, us, rfl, hp, ru⟩, y3, r3, rfl, ⟨q, vs, rfl, hq, rv⟩, e0⟩ := ry
        rw [show r3 = [] from e0] at hGt
        have hn : n < ds.length := lt_of_some hd
        show tb _ (σ'.set j (some (.ref t))) H'
        have hj : j < σ'.length := by rw [hl, ← rg.len]; exact hjt
        refine step _ _ H' Gp n t p q y1 us vs (List.getElem?_set_self hj) hGt hp hq (RpL.strs hu ru) (RpL.strs hv rv) (by rw [← ru.length]; omega) (by rw [← rv.length]; omega) s fun H2 o2 s2 => ⟨by rw [List.length_set]; exact hl, fun i hi => ?_, fun b hb => (o2 b hb).trans (ho b hb), s2⟩
        rw [List.getElem?_set_ne (Ne.symm hi)]; exact hσ i hi
      · refine k σ' F1 H' pd.g.f ?_
        have r2 : Rel X.K R H0 τ σ F1 H' := ⟨G, rg.off pd ho⟩
        refine r2.drop (by rw [List.length_set, hl]; exact rg.len) fun i c e => ?_
        by_cases hi : i = j
        · subst hi
          exfalso
          rcases Nat.lt_or_ge i τ.length with w | w
          · rw [List.getElem?_set_self w] at e; cases e
          · rw [List.getElem?_eq_none (by rw [List.length_set]; exact w)] at e; cases e
        · rw [List.getElem?_set_ne (Ne.symm hi)] at e
          exact ⟨e, hσ i hi⟩
    · cases q
  · cases q
variable {x : Str} {st : Str} {j0 : Nat} {p1 p2 p3 p4 p5 p6 p7 p8 q1 q2 q3 q4 q5 q6 q7 : Pos} {n1 n2 : Nat}
/-- for x in e: x[1].append('z'); x[2].clear() -/
theorem ss_scribAC (j : Nat) {f : FC} (hc : X.calm = true) (hN : X.N.Nodup) (hE : PassesOwn (model X.prog X.w) X.A X.env X.xe) (he : SC R H0 X iter f) (hi : X.N[j]? = some x := by rfl) (hx : Loc X.env.scope x := by first | exact Or.inl rfl | exact Or.inr rfl) (hv : Vis X.env.scope x := by first | exact Or.inl rfl | exact Or.inr (Or.inl rfl) | exact Or.inr (Or.inr rfl)) (hf : X.fn x = true ∨ X.env.scope.names.lookup x = some .local := by exact Or.inl rfl) (hd : (x == ("__debug__" : Str)) = false := by decide) (hcd : (x == ("__classdict__" : Str)) = false := by decide)
    (hb1 : attributeBase (.Subscript (.Name x p1) (.Constant (.int 1) n1 p2) p3) "append" X.env (eval (.Subscript (.Name x p1) (.Constant (.int 1) n1 p2) p3) X.env) = eval (.Subscript (.Name x p1) (.Constant (.int 1) n1 p2) p3) X.env := by rfl)
    (hb2 : attributeBase (.Subscript (.Name x q1) (.Constant (.int 2) n2 q2) q3) "clear" X.env (eval (.Subscript (.Name x q1) (.Constant (.int 2) n2 q2) q3) X.env) = eval (.Subscript (.Name x q1) (.Constant (.int 2) n2 q2) q3) X.env := by rfl)
    (hl1 : (p4.endLine == p6.line) = true := by rfl) (hl2 : (q4.endLine == q6.line) = true := by rfl)
    (hw1 : swapsWith (.Call (.Attribute (.Subscript (.Name x p1) (.Constant (.int 1) n1 p2) p3) "append" p4) [.Constant (.str st) j0 p5] [] p6) none p7.line X.env = pure false := by rfl)
    (hw2 : swapsWith (.Call (.Attribute (.Subscript (.Name x q1) (.Constant (.int 2) n2 q2) q3) "clear" q4) [] [] q6) none q7.line X.env = pure false := by rfl)
    (hs : ∀ v, foldedSetIterable iter X.env v = pure v := by intro _; rfl) :
    SS R H0 X (.For (.Name x p8) iter [.Expr (.Call (.Attribute (.Subscript (.Name x p1) (.Constant (.int 1) n1 p2) p3) "append" p4) [.Constant (.str st) j0 p5] [] p6) p7, .Expr (.Call (.Attribute (.Subscript (.Name x q1) (.Constant (.int 2) n2 q2) q3) "clear" q4) [] [] q6) q7] [] pos) (scribF j f) :=
  PSmono (ps_for hE hc (pi_list he) (pg_name (i := j) hN hi hx hf)
    (pss_cons (ps_expr (pe_bm PySem.F.plainAttrs_list PySem.F.slot_list_append PySem.F.type_list_append mt_append (pe_ix ix_tup (pe_var hi hv hd hcd) pe_int (by exact fun _ _ => rfl)) (pa_cons pe_str pa_nil (by rfl)) hb1 (by rfl) hl1 (by rfl) (by rfl)) hw1)
      (pss_one (ps_expr (pe_bm0 PySem.F.plainAttrs_list PySem.F.slot_list_clear PySem.F.type_list_clear mt_clear (pe_ix ix_tup (pe_var hi hv hd hcd) pe_int (by exact fun _ _ => rfl)) hb2 hl2) hw2))) hs) fun D σ H h =>
  scrib_core (fun _ _ _ h => h) (fun D σ H Gp n t p q y us vs hσ hGt hp hq hu hv lu lv s k => by
    have tupAt : ∀ {H' : Hp} {m : Nat}, Sc Gp H' m → H' t = some (.tup [y, .ref p, .ref q]) := fun {H' m} s => by
      rcases s t _ hGt with w | ⟨_, _, e, _⟩
      · exact w
      · cases e
    obtain ⟨ys, hys, lys⟩ := s.lst hp
    have s1 : Sc Gp (upd H p (.lst (ys ++ [.str st]))) (n + 1) := s.put hp hu (by rw [List.length_append, List.length_singleton]; omega) (by omega)
    obtain ⟨zs, hzs, lzs⟩ := s1.lst hq
    have o1 : Off Gp H (upd H p (.lst (ys ++ [.str st]))) := Off.put (fun _ _ => rfl) hp
    refine ⟨.ref t, hσ, t, [y, .ref p, .ref q], 1, .ref p, rfl, rfl, .inl (.inl (tupAt s)), rfl, .inl ⟨rfl, ys, .inl (.inl hys)⟩, p, ys, .str st, rfl, rfl, hys, ?_, ?_⟩
    · show ys.length < lim
      omega
    refine ⟨.ref t, hσ, t, [y, .ref p, .ref q], 2, .ref q, rfl, rfl, .inl (.inl (tupAt s1)), rfl, .inl ⟨rfl, zs, .inl (.inl hzs)⟩, q, zs, rfl, rfl, hzs, ?_⟩
    exact k _ (Off.put o1 hq) (s1.put hq hv (by rw [List.length_nil]; omega) (Nat.le_refl _))) h
end
end Dl
end
section
set_option Elab.async false
set_option linter.all false
set_option maxRecDepth 100000
set_option maxHeartbeats 4000000
namespace Dl
open PySem PySem.Spec PyProof.Rows L2 GxR Gx
/-! ### the law's def, the end -/
structure DefL (K : PySem.W.Frag) (c : Addr) (x : Str) (st : Stmt) (f : Addr) (fd : FuncData) : Prop where
  ex : ∃ (oc : Value) (od : Option Addr) (dV kV doc pm : Value) (an : Option Addr) (ct : Value) (osl : Array (Option Value)),
    fd = PySem.W.fnOf x x (L2.defArgs st) (L2.defBody st) (L2.defScope st) dV kV doc pm an (.ref c) ct ∧ K.lookup f = some ⟨oc, od, .func fd, osl⟩ ∧ PySem.W.codeIn K (.ref c) x = true
section
variable {P : Program} {w : World} {K : PySem.W.Frag} {mg : Str → Option Value} {base : Heap} {CX : CXT} {cs : List (Addr × Addr)} {k : Nat} {c : Addr} {x : Str} {st : Stmt} {N ps : List Str} {g : FS} {f : Addr} {fd : FuncData}
theorem fnL (Df : DefL K c x st f fd) (S : FnScope N ps (L2.defScope st))
    (hbody : ∀ (f : Addr) (A : Around) (outer : List Env) (s : Shared) (H : Hp) (E : XK) (R : Hp), Room k (A.deeper (envOfC x (L2.defScope st) s.heap.objs.size f (.ref c))) → Sm R H → Tabs cs H →
      SSs R H (cxOf CX P w K mg base N x (L2.defScope st) f (.ref c) A outer s H E).nox (L2.defBody st) g) : FnOk P w K mg base CX (k + 1) f fd ps (spD K cs ps.length (phi N.length g)) := by
  obtain ⟨oc, od, dV, kV, doc, pm, an, ct, osl, rfl, lk, hcd⟩ := Df.ex
  refine fn_of lk hcd S (fun vs H Q E h => h.1) fun A outer s H vs Q E hr ⟨hl, hT, R, ds, r, sR, tR, rr, e, ok⟩ => ?_
  refine ⟨_, (hbody f A outer s H E R hr sR hT).nox, R, startD N.length ds, ?_⟩
  unfold phi at e
  cases q : g (startD N.length ds) with
  | none => rw [q] at e; cases e
  | some o =>
    rw [q] at e
    refine ⟨o, start_rel sR tR rr, rfl, ?_⟩
    cases o with
    | rt nw d => cases e; exact ok
    | nx τ => cases e; exact fun σ' F' H' s r' => ok .non F' H' r'.g rfl
    | bk τ => cases e
    | ct τ => cases e
theorem def_of {fd : FuncData} (F : FunD K x x (L2.defArgs st) (L2.defBody st) (L2.defScope st) [] [] (He.fAd K (x, none)) fd) (hm : mg x = some (.ref (He.ga K x)))
    (h : ∀ (kV doc pm : Value) (an : Option Addr) (cdv ct : Value) (us : List Value), us.length = ps.length → bindArgs (PySem.W.fnOf x x (L2.defArgs st) (L2.defBody st) (L2.defScope st) .none kV doc pm an cdv ct) ⟨us, []⟩ = pure (ps.zip us)) : Def K mg (He.codeOf K (x, none)) x st ps := by
  obtain ⟨oc, od, dV, kV, doc, pm, an, cdv, ct, osl, rfl, lk, hcd, hD, hK⟩ := F.ex
  obtain ⟨c, rfl⟩ := He.codeIn_ref hcd
  have e : He.codeOf K (x, none) = c := He.codeOf_eq lk rfl
  rw [e]
  rcases hD with ⟨_, rfl⟩ | ⟨z, _⟩
  · exact ⟨⟨_, oc, od, kV, doc, pm, an, ct, osl, lk, hcd, hm, F.kp⟩, h⟩
  · exact absurd rfl z
theorem defL_of {fd : FuncData} (F : FunD K x x (L2.defArgs st) (L2.defBody st) (L2.defScope st) [] [] (He.fAd K (x, none)) fd) : DefL K (He.codeOf K (x, none)) x st (He.fAd K (x, none)) fd := by
  obtain ⟨oc, od, dV, kV, doc, pm, an, cdv, ct, osl, rfl, lk, hcd, hD, hK⟩ := F.ex
  obtain ⟨c, rfl⟩ := He.codeIn_ref hcd
  have e : He.codeOf K (x, none) = c := He.codeOf_eq lk rfl
  rw [e]
  exact ⟨oc, od, dV, kV, doc, pm, an, ct, osl, rfl, lk, hcd⟩
/-- at the script -/
theorem spD_scr {φ : Phi} {H : Hp} {a : Addr} {ns : List Int} {m : Bool} (hφ : φ [.scr ns] = some (.ok m (.bl true))) (hT : ∀ p ∈ cs, H p.2 = some (.tbl #[])) (hS : SqL K H a (ns.map V.int)) (E : XK) : spD K cs 1 φ [.ref a] H (fun v _ => v = .bl true) E := by
  refine ⟨rfl, fun p hp => ⟨#[], hT p hp, by trivial⟩, ?_⟩
  have fin : ∀ R, Sm R H → NoTbl R → SqL K R a (ns.map V.int) → ∃ R ds r, Sm R H ∧ NoTbl R ∧ RpL K R ds [.ref a] ∧ φ ds = some r ∧ ResOk K R H (fun v _ => v = .bl true) E r := fun R h1 h2 h3 =>
    ⟨R, [.scr ns], _, h1, h2, RpL.one ⟨a, rfl, h3⟩, hφ, fun v F' H' _ rv => rv⟩
  have sm : ∀ {o : HO}, H a = some o → Sm (sing a o) H := fun {o} h b x e => by
    unfold sing at e
    split at e
    · rename_i hb
      cases e
      rw [hb]; exact h
    · cases e
  have nt : ∀ {o : HO}, (∀ ps, o ≠ .tbl ps) → NoTbl (sing a o) := fun {o} h b ps e => by
    unfold sing at e
    split at e
    · cases e; exact h ps rfl
    · cases e
  rcases hS with (h | ⟨o, h⟩) | h
  · exact fin _ (sm h) (nt fun _ z => nomatch z) (.inl (.inl sing_same))
  · exact fin _ (sm h) (nt fun _ z => nomatch z) (.inl (.inr ⟨o, sing_same⟩))
  · exact fin emp (fun _ _ e => nomatch e) (fun _ _ e => nomatch e) (.inr h)
/-- the law, at its end -/
theorem law_at {l : PySem.W.OpenLaw} {h : Heap} {fa : List He.Fa} {fn : List He.DefD} {tf : List He.Defn} {ex : PySem.W.Frag → Bool} {φ : Phi} {y : Str} {fd : FuncData} {f : Addr} (X : K.In h) (c : He.SaysX fa fn [] tf ex w h K)
    (hφ : ∀ ns, ∃ m, φ [.scr ns] = some (.ok m (.bl true))) (hb : ∀ (s : Shared) (u : Value), BindsTo s fd ⟨[u], []⟩ [(y, u)])
    (hF : ∀ base : Heap, K.In base → base.Ns mainGlobals mg → (∀ p ∈ tf.map (He.cT K), GxR.TabB base mg p.1 p.2) → FnOk l.prog w K mg base CX k f fd [y] (spD K (tf.map (He.cT K)) 1 φ)) : LamX.LawAtS l w K CX k 63 y mg f h := by
  have at_ : ∀ {Q : Addr × Addr → Prop}, (∀ p ∈ tf, Q (He.cT K p)) → ∀ p ∈ tf.map (He.cT K), Q p := fun {Q} h p hp => by
    obtain ⟨q, hq, rfl⟩ := List.mem_map.mp hp
    exact h q hq
  refine ⟨fd, tf.map (He.cT K), spD K (tf.map (He.cT K)) 1 φ, at_ c.empty, at_ c.out, at_ fun p hp => PySem.W.codeHd_of_K X (c.hd p hp), hb, fun H a ns _ _ hT hS => ?_, fun base KB NB TB => hF base KB NB fun p hp => ⟨(TB p hp).code, (TB p hp).bm, (TB p hp).gP⟩⟩
  obtain ⟨m, e⟩ := hφ ns
  exact spD_scr e hT hS _
end
end Dl
end
section
set_option Elab.async false
set_option linter.all false
set_option maxRecDepth 100000
set_option maxHeartbeats 4000000
namespace Dl
open PySem PySem.Spec PyProof.Rows L2 GxR Gx
section
variable {R H0 : Hp} {X : Cx} {a b c e : Expr} {pos : Pos} {n : Nat}
/-! ### a chain of two comparisons of whole numbers -/
def chI (p q : Int → Int → Bool) (f g h : FB) : FT := fun τ => (f τ).bind fun x => (g τ).bind fun y => match x, y with
  | .int i, .int j => if p i j = true then (h τ).bind fun z => (match z with
      | .int k => some (q j k)
      | _ => none) else some false
  | _, _ => none
theorem chI_some {p q : Int → Int → Bool} {f g h : FB} {τ : DS} {z : Bool} (e : chI p q f g h τ = some z) : ∃ i j, f τ = some (.int i) ∧ g τ = some (.int j) ∧ if p i j = true then ∃ k, h τ = some (.int k) ∧ z = q j k else z = false := by
  obtain ⟨x, e1, e⟩ := bindO e
  obtain ⟨y, e2, e⟩ := bindO e
  match x, y, e1, e2, e with
  | .int i, .int j, e1, e2, e =>
    refine ⟨i, j, e1, e2, ?_⟩
    have e : (if p i j = true then (h τ).bind fun z => (match z with
        | .int k => some (q j k)
        | _ => none) else some false) = some z := e
    split at e
    · rename_i hp
      rw [if_pos hp]
      obtain ⟨w, e3, e⟩ := bindO e
      match w, e3, e with
      | .int k, e3, e =>
        cases e
        exact ⟨k, e3, rfl⟩
    · rename_i hp
      rw [if_neg hp]
      cases e; rfl
theorem c_chain {op op' : CmpOp} {p q : Int → Int → Bool} {f g h : FB} (ho : OpR X (compareOp op) (rI0 fun i j => .bl (p i j))) (ho' : OpR X (compareOp op') (rI0 fun i j => .bl (q i j))) (ha : SB R H0 X a f) (hb : SB R H0 X b g) (hc : SB R H0 X c h)
    (hm : lastMarks [op, op'] [b, c] = false := by with_unfolding_all rfl) : ST R H0 X (.Compare a [op, op'] [b, c] pos) (chI p q f g h) ∧ SE R H0 X (.Compare a [op, op'] [b, c] pos) (blE (chI p q f g h)) := by
  have core : ∀ {σ : L2.St} {H F : Hp} {τ : DS} {z : Bool} {Q : VK}, Rel X.K R H0 τ σ F H → chI p q f g h τ = some z → (∀ F' H', Grow F H F' H' → Q (.bl z) H') → tChain (rI0 fun i j => .bl (p i j)) (rI0 fun i j => .bl (q i j)) (tSB X.K R H0 f) (tSB X.K R H0 g) (tSB X.K R H0 h) σ H Q := fun {σ H F τ z Q} r e k => by
    obtain ⟨i, j, e1, e2, e⟩ := chI_some e
    refine two_sb r e1 e2 fun v u F' H' g' r1 r2 => ⟨i, j, r1, r2, p i j, rfl, ?_⟩
    split at e
    · rename_i hp
      obtain ⟨m, e3, rfl⟩ := e
      rw [if_pos hp]
      exact ⟨F', τ, _, r.grow g', e3, fun w F'' H'' g'' r3 => ⟨j, m, r2, r3, k F'' H'' (g'.trans g'')⟩⟩
    · rename_i hp
      subst e
      rw [if_neg hp]
      exact k F' H' g'
  refine ⟨PTmono (pt_chain ho ho' ha hb hc hm) fun σ H Q ⟨F, τ, z, r, e, k⟩ => core r e fun F' H' g' => ⟨z, rfl, k F' H' g'⟩, PEmono (pe_chain ho ho' ha hb hc hm) fun σ H Q ⟨F, τ, nw, d, r, e, k⟩ => ?_⟩
  unfold blE at e
  obtain ⟨z, w, e⟩ := mapO e
  cases e
  exact core r w fun F' H' g' => k _ F' H' g' rfl
theorem ch_lt : OpR X (compareOp .Lt) (rI0 fun i j => .bl (lt2 i j)) := op_lt
theorem ch_le : OpR X (compareOp .LtE) (rI0 fun i j => .bl (le2 i j)) := op_le

/-! ### the truth of a list -/
def truD : D → Option Bool
  | .bl b => some b
  | .lst ds => some (!ds.isEmpty)
  | .tup ds => some (!ds.isEmpty)
  | .scr ns => some (!ns.isEmpty)
  | .non => some false
  | .int i => some (i != 0)
  | _ => none
theorem isE {α β : Type} {xs : List α} {ys : List β} (h : xs.length = ys.length) : xs.isEmpty = ys.isEmpty := by
  cases xs <;> cases ys <;> first | rfl | cases h
theorem st_tru {f : FB} (ha : SB R H0 X e f) (he : ∀ whole, isTrue e X.env whole = (do let v ← whole; standAt e.pos; holding [v] (truthy v)) := by intro _; rfl) : ST R H0 X e (un1 f truD) := PTmono (pt_truth ha he) fun σ H Q ⟨F, τ, z, r, q, k⟩ => by
  obtain ⟨x, e1, q⟩ := un1_some q
  refine ⟨F, τ, x, r, e1, fun v F' H' g' rv => ⟨z, ?_, k F' H' g'⟩⟩
  cases x <;> first | (cases q; done) | skip
  · cases q; obtain rfl : v = V.non := rv; exact rfl
  · cases q; obtain rfl : v = V.bl _ := rv; exact rfl
  · cases q; obtain rfl : v = V.int _ := rv; exact rfl
  · cases q
    obtain ⟨p, xs, rfl, hx, rx⟩ := rv
    exact .inl ⟨xs, .inl (.inl hx), by rw [isE rx.length]⟩
  · cases q
    obtain ⟨p, xs, rfl, hx, rx⟩ := rv
    exact .inr (.inl ⟨xs, .inl (.inl hx), by rw [isE rx.length]⟩)
  · cases q
    obtain ⟨p, rfl, hx⟩ := rv
    exact .inl ⟨_, hx, by rw [isE (List.length_map _)]⟩

/-! ### in a list -/
def inD (neg : Bool) (x y : D) : Option Bool := match y with
  | .lst ds => if okEq x && okEq (.lst ds) then some (neg != (pyL ds).any fun z => PyData.eqv z (py x)) else none
  | _ => none
theorem c_in {f g : FB} (hr : Room n X.A) (ha : SB R H0 X a f) (hb : SB R H0 X b g) (hm : behindInMarks .In b = false := by with_unfolding_all rfl) : ST R H0 X (.Compare a [.In] [b] pos) (bi f g (inD false)) ∧ SE R H0 X (.Compare a [.In] [b] pos) (blE (bi f g (inD false))) :=
  cmp_of (op_inD (by have := hr.un; omega)) hm (fun x y z e F H v u Q _ r1 r2 q => by
    unfold inD okEq at e
    split at e
    · rename_i ds
      split at e
      · rename_i h
        simp only [Bool.and_eq_true] at h
        cases e
        rw [Bool.false_bne] at q
        exact ⟨py x, pyL ds, Rp.dp _ _ h.1.1 r1, Rp.dp (.lst ds) _ h.2.1 r2, h.1.2, h.2.2, q⟩
      · cases e
    · cases e) ha hb
theorem c_notin {f g : FB} (hr : Room n X.A) (ha : SB R H0 X a f) (hb : SB R H0 X b g) (hm : behindInMarks .NotIn b = false := by with_unfolding_all rfl) : ST R H0 X (.Compare a [.NotIn] [b] pos) (bi f g (inD true)) ∧ SE R H0 X (.Compare a [.NotIn] [b] pos) (blE (bi f g (inD true))) :=
  cmp_of (op_notInD (by have := hr.un; omega)) hm (fun x y z e F H v u Q _ r1 r2 q => by
    unfold inD okEq at e
    split at e
    · rename_i ds
      split at e
      · rename_i h
        simp only [Bool.and_eq_true] at h
        cases e
        rw [Bool.true_bne] at q
        exact ⟨py x, pyL ds, Rp.dp _ _ h.1.1 r1, Rp.dp (.lst ds) _ h.2.1 r2, h.1.2, h.2.2, q⟩
      · cases e
    · cases e) ha hb
/-! ### a, b = x, y -/
def parF (i j : Nat) (f : FA) : FS := fun τ => (f τ).bind fun p => match p.2 with
  | [d, e] => some (.nx ((τ.set i (some (.d (p.1 || scal d) d))).set j (some (.d (p.1 || scal e) e))))
  | _ => none
theorem ss_par (i j : Nat) {x y : Str} {px py pt : Pos} {kt k2 pt2} {f : FA} (hc : X.calm = true) (hN : X.N.Nodup) (hij : i ≠ j) (ha : SA R H0 X [a, b] f) (hw : swappedStores [.Tuple [.Name x px, .Name y py] kt pt] (.Tuple [a, b] k2 pt2) X.env = pure (some [x, y]))
    (hi : X.N[i]? = some x := by rfl) (hj : X.N[j]? = some y := by rfl) (hx : X.env.scope.names.lookup x = some .local := by rfl) (hy : X.env.scope.names.lookup y = some .local := by rfl)
    (hs : swapsWithSole [.Tuple [.Name x px, .Name y py] kt pt] (.Tuple [a, b] k2 pt2) pos.line X.env = pure false := by rfl) :
    SS R H0 X (.Assign [.Tuple [.Name x px, .Name y py] kt pt] (.Tuple [a, b] k2 pt2) pos) (parF i j f) := PSmono (ps_par hc hN hi hj hij hx hy ha hw hs) fun D σ H ⟨F, τ, o, r, q, k⟩ => by
  obtain ⟨⟨m, ds⟩, e1, q⟩ := bindO q
  match ds, e1, q with
  | [d, e], e1, q =>
    cases q
    refine ⟨F, τ, m, _, r, e1, fun vs F' H' g' rv => ?_⟩
    obtain ⟨v, w, rfl, r1, r2⟩ := RpL.two_inv rv
    have s1 := (r.grow g').store (c := .d (m || scal d) d) (i := i) (r.grow g').refl.pend (lv_scal r1)
    have s2 := s1.store (c := .d (m || scal e) e) (i := j) s1.refl.pend (lv_scal r2)
    exact ⟨v, w, rfl, k _ F' H' g'.f s2⟩
end
end Dl
end
section
set_option Elab.async false
set_option linter.all false
set_option maxRecDepth 100000
set_option maxHeartbeats 4000000
namespace Dl
open PySem PySem.Spec PyProof.Rows L2 GxR Gx
section
variable {R H0 : Hp} {X : Cx} {a b c e : Expr} {pos : Pos} {n : Nat}
/-! ### list(range(n)) -/
def rgL (j : Int) : List D := (List.range j.toNat).map fun i => .int (i : Nat)
theorem RpL.rg {K : PySem.W.Frag} {H : Hp} : ∀ (l : List Nat), RpL K H (l.map fun (i : Nat) => D.int ((i : Nat) : Int)) (l.map fun (i : Nat) => V.int (0 + ((i : Nat) : Int)))
  | [] => rfl
  | i :: l => ⟨_, _, rfl, (show V.int (0 + (i : Int)) = V.int (i : Int) by rw [Int.zero_add]), RpL.rg l⟩
def lrgD : D → Option C
  | .int j => if j ≤ (lim : Int) ∧ -(lim : Int) ≤ j then some (.own true (rgL j)) else none
  | _ => none
theorem sc_listRg {f : FB} {p p2 pos2 : Pos} (hc : X.calm = true) (hg : Gl X "list") (hm : X.mg "list" = none) (hg2 : Gl X "range") (hm2 : X.mg "range" = none) (ha : SB R H0 X a f) (na2 : starEach [a] X.env = (false, eval a X.env) :: starEach [] X.env := by rfl)
    (na : starEach [.Call (.Name "range" p2) [a] [] pos2] X.env = (false, eval (.Call (.Name "range" p2) [a] [] pos2) X.env) :: starEach [] X.env := by rfl) :
    SC R H0 X (.Call (.Name "list" p) [.Call (.Name "range" p2) [a] [] pos2] [] pos) (un1 f lrgD) := PEmono (pe_listRg hc hg hm (prg_1 hg2 hm2 ha na2) na) fun σ H Q ⟨F, τ, cl, r, q, k⟩ => by
  obtain ⟨x, e1, q⟩ := un1_some q
  match x, e1, q with
  | .int j, e1, q =>
    have q : (if j ≤ (lim : Int) ∧ -(lim : Int) ≤ j then some (C.own true (rgL j)) else none) = some cl := q
    split at q
    · rename_i hj
      cases q
      have hl : (lim : Int) = 16777216 := rfl
      refine ⟨F, τ, _, r, e1, fun v F' H' g' rv => ⟨j, rv, ⟨by decide, by decide, by omega, by omega, by omega⟩, fun p hp => k _ _ _ _ (pend_new g' hp fun _ z => nomatch z) ⟨p, _, rfl, sing_same, ?_⟩⟩⟩
      have := RpL.rg (K := X.K) (H := lv true R F') (List.range (j - 0).toNat)
      unfold rgL
      rw [Int.sub_zero] at this
      show RpL X.K (lv true R F') _ (rgV 0 j)
      unfold rgV
      rw [Int.sub_zero]
      exact this
    · cases q
/-! ### max, min of two -/
def maxD : (Bool × List D) → Option (Bool × D)
  | (_, [.int i, .int j]) => some (true, .int (if j > i then j else i))
  | _ => none
def minD : (Bool × List D) → Option (Bool × D)
  | (_, [.int i, .int j]) => some (true, .int (if j < i then j else i))
  | _ => none
theorem se_max2 {f : FA} {p : Pos} (hc : X.calm = true) (hg : Gl X "max") (hm : X.mg "max" = none) (ha : SA R H0 X [a, b] f) (he : starEach [a, b] X.env = (false, eval a X.env) :: starEach [b] X.env := by rfl) (hp : (backTo pos (starEach [b] X.env)).any (·.1) = false := by rfl) :
    SE R H0 X (.Call (.Name "max" p) [a, b] [] pos) (un1 f maxD) := PEmono (pe_callB (call_max2 hc) hg hm (by decide +kernel) ha (by decide) (by decide) he hp) fun σ H Q ⟨F, τ, nw, d, r, q, k⟩ => by
  obtain ⟨⟨m, ds⟩, e1, q⟩ := un1_some q
  match ds, e1, q with
  | [.int i, .int j], e1, q =>
    cases q
    refine ⟨F, τ, m, _, r, e1, fun vs F' H' g' rv => ?_⟩
    obtain ⟨x, y, rfl, r1, r2⟩ := RpL.two_inv rv
    exact ⟨i, j, by rw [show x = V.int i from r1, show y = V.int j from r2], k _ F' H' g' rfl⟩
theorem se_min2 {f : FA} {p : Pos} (hc : X.calm = true) (hg : Gl X "min") (hm : X.mg "min" = none) (ha : SA R H0 X [a, b] f) (he : starEach [a, b] X.env = (false, eval a X.env) :: starEach [b] X.env := by rfl) (hp : (backTo pos (starEach [b] X.env)).any (·.1) = false := by rfl) :
    SE R H0 X (.Call (.Name "min" p) [a, b] [] pos) (un1 f minD) := PEmono (pe_callB (call_min2 hc) hg hm (by decide +kernel) ha (by decide) (by decide) he hp) fun σ H Q ⟨F, τ, nw, d, r, q, k⟩ => by
  obtain ⟨⟨m, ds⟩, e1, q⟩ := un1_some q
  match ds, e1, q with
  | [.int i, .int j], e1, q =>
    cases q
    refine ⟨F, τ, m, _, r, e1, fun vs F' H' g' rv => ?_⟩
    obtain ⟨x, y, rfl, r1, r2⟩ := RpL.two_inv rv
    exact ⟨i, j, by rw [show x = V.int i from r1, show y = V.int j from r2], k _ F' H' g' rfl⟩
end
end Dl
end
section
set_option Elab.async false
set_option linter.all false
set_option maxRecDepth 100000
set_option maxHeartbeats 4000000
namespace Dl
open PySem PySem.Spec PyProof.Rows L2 GxR Gx
section
variable {R H0 : Hp} {X : Cx} {a b c e ke : Expr} {pos : Pos} {n : Nat}
/-! ### x.get(k), x[k] of a dict of one's own -/
def lookL {α : Type} : List Key → List α → Key → Option α
  | k' :: ks, x :: xs, k => if k' = k then some x else lookL ks xs k
  | _, _, _ => none
theorem valV_zip {k : Key} : ∀ {ks : List Key} {xs : List V}, valV (ks.zip xs) k = lookL ks xs k
  | [], xs => by cases xs <;> rfl
  | _ :: _, [] => rfl
  | k' :: ks, x :: xs => by
    rw [List.zip_cons_cons]
    by_cases e : k' = k
    · rw [valV_pos (p := (k', x)) e]
      show _ = (if k' = k then some x else lookL ks xs k)
      rw [if_pos e]
    · rw [valV_neg (p := (k', x)) e, valV_zip]
      show _ = (if k' = k then some x else lookL ks xs k)
      rw [if_neg e]
theorem RpL.look {K : PySem.W.Frag} {H : Hp} {k : Key} : ∀ {ks : List Key} {ds : List D} {xs : List V}, RpL K H ds xs → (∀ d, lookL ks ds k = some d → ∃ v, lookL ks xs k = some v ∧ Rp K H d v) ∧ (lookL ks ds k = none → lookL ks xs k = none)
  | [], _, _, _ => ⟨(fun _ h => nomatch h), fun _ => rfl⟩
  | _ :: _, [], _, r => by rw [show _ = [] from r]; exact ⟨(fun _ h => nomatch h), fun _ => rfl⟩
  | k' :: ks, d :: ds, _, ⟨y, t, rfl, r1, r2⟩ => by
    obtain ⟨h1, h2⟩ := RpL.look (k := k) (ks := ks) r2
    by_cases e : k' = k
    · refine ⟨fun d' h => ?_, fun h => ?_⟩
      · have h : (if k' = k then some d else lookL ks ds k) = some d' := h
        rw [if_pos e] at h
        cases h
        exact ⟨y, if_pos e, r1⟩
      · have h : (if k' = k then some d else lookL ks ds k) = none := h
        rw [if_pos e] at h
        cases h
    · refine ⟨fun d' h => ?_, fun h => ?_⟩
      · have h : (if k' = k then some d else lookL ks ds k) = some d' := h
        rw [if_neg e] at h
        obtain ⟨v, h3, h4⟩ := h1 d' h
        exact ⟨v, (if_neg e).trans h3, h4⟩
      · have h : (if k' = k then some d else lookL ks ds k) = none := h
        rw [if_neg e] at h
        exact (if_neg e).trans (h2 h)
/-- a dict: one's own, a frozen one, one told of plain values -/
def dicAt : Option (Option C) → Option (Bool × List Key × List D)
  | some (some (.dic nw ks ds)) => some (nw, ks, ds)
  | some (some (.d nw (.dic ks ds))) => some (nw, ks, ds)
  | some (some (.dp (.dic ks ds))) => if allScal ds = true then some (true, ks, ds) else none
  | _ => none
theorem dic_at {K : PySem.W.Frag} {τ : DS} {σ : L2.St} {F H : Hp} {i : Nat} {nw : Bool} {ks : List Key} {ds : List D} (r : Rel K R H0 τ σ F H) (h : dicAt τ[i]? = some (nw, ks, ds)) :
    ∃ p xs, σ[i]? = some (some (.ref p)) ∧ ks.length = xs.length ∧ (∀ F' H', Grow F H F' H' → H' p = some (.dK (ks.zip xs)) ∧ RpL K (lv nw R F') ds xs) := by
  obtain ⟨G, rg⟩ := r
  match w : τ[i]?, h with
  | some (some (.dic m ks' ds')), h =>
    cases h
    obtain ⟨u, hu, p, xs, rfl, hG, hl, rx⟩ := rg.cell i _ w
    exact ⟨p, xs, hu, hl, fun F' H' g => ⟨((rg.grow g).reg i).s _ _ hG, RpL.sm (lv_mono g.f) rx⟩⟩
  | some (some (.d m (.dic ks' ds'))), h =>
    cases h
    obtain ⟨u, hu, p, xs, rfl, hG, hl, rx⟩ := rg.cell i _ w
    exact ⟨p, xs, hu, hl, fun F' H' g => ⟨g.s _ _ (g.f _ _ (lv_sub _ _ hG)), RpL.sm (lv_mono g.f) rx⟩⟩
  | some (some (.dp (.dic ks' ds'))), h =>
    have h : (if allScal ds' = true then some (true, ks', ds') else none) = some (nw, ks, ds) := h
    split at h
    · rename_i hs
      cases h
      obtain ⟨u, hu, p, xs, rfl, hG, hl, rx⟩ := rg.cell i _ w
      exact ⟨p, xs, hu, hl, fun F' H' g => ⟨((rg.grow g).reg i).s _ _ hG, RpL.scal hs rx⟩⟩
    · cases h
def dgetF (i : Nat) (fk : FE) : FE := fun τ => (dicAt τ[i]?).bind fun t => (fk τ).bind fun kk => (keyD kk.2).map fun k => (match lookL t.2.1 t.2.2 k with
      | some d => (t.1 || scal d, d)
      | none => (true, .non))
theorem se_dget (i : Nat) {x : Str} {fk : FE} {vp ap : Pos} (hr : Room n X.A) (hk : SE R H0 X ke fk) (m : M1 X (.Name x vp) "get" ap ke pos := by exact ⟨rfl, rfl, rfl, rfl⟩) (hN : X.N[i]? = some x := by rfl) (hv : Vis X.env.scope x := by first | exact Or.inl rfl | exact Or.inr (Or.inl rfl) | exact Or.inr (Or.inr rfl)) (hd : (x == ("__debug__" : Str)) = false := by decide)
    (hcd : (x == ("__classdict__" : Str)) = false := by decide) : SE R H0 X (.Call (.Attribute (.Name x vp) "get" ap) [ke] [] pos) (dgetF i fk) := PEmono (pe_dget1 (by have := hr.units; omega) (pe_var hN hv hd hcd) hk m) fun σ H Q ⟨F, τ, nw, d, r, q, k⟩ => by
  obtain ⟨⟨m0, ks, ds⟩, e1, q⟩ := bindO q
  obtain ⟨⟨mk, kd⟩, e3, q⟩ := bindO q
  obtain ⟨kk, e4, q⟩ := mapO q
  obtain ⟨p, xs, hu, hl, at_⟩ := dic_at r e1
  refine ⟨.ref p, hu, p, rfl, .inl ⟨_, .inl (at_ F H r.refl).1⟩, F, τ, mk, kd, r, e3, fun y F2 H2 g2 ry => ?_⟩
  obtain ⟨hH, rx2⟩ := at_ F2 H2 g2
  refine ⟨_, by rw [keyD_some e4 ry]; exact .k hH, ?_⟩
  rw [valV_zip]
  obtain ⟨h1, h2⟩ := RpL.look (k := kk) (ks := ks) rx2
  cases w : lookL ks ds kk with
  | none =>
    rw [w] at q
    cases q
    rw [h2 w]
    exact k _ F2 H2 g2 rfl
  | some d' =>
    rw [w] at q
    cases q
    obtain ⟨v, h3, h4⟩ := h1 _ w
    rw [h3]
    exact k _ F2 H2 g2 (lv_scal h4)
def dsubF (i : Nat) (fk : FE) : FE := fun τ => (dicAt τ[i]?).bind fun t => (fk τ).bind fun kk => (keyD kk.2).bind fun k => (lookL t.2.1 t.2.2 k).map fun d => (t.1 || scal d, d)
theorem se_dsub (i : Nat) {x : Str} {fk : FE} {vp : Pos} (hr : Room n X.A) (hk : SE R H0 X ke fk) (hs : NoSl ke := by exact fun _ _ => rfl) (hN : X.N[i]? = some x := by rfl) (hv : Vis X.env.scope x := by first | exact Or.inl rfl | exact Or.inr (Or.inl rfl) | exact Or.inr (Or.inr rfl)) (hd : (x == ("__debug__" : Str)) = false := by decide)
    (hcd : (x == ("__classdict__" : Str)) = false := by decide) : SE R H0 X (.Subscript (.Name x vp) ke pos) (dsubF i fk) := PEmono (pe_dget (by have := hr.units; omega) (pe_var hN hv hd hcd) hk hs) fun σ H Q ⟨F, τ, nw, d, r, q, k⟩ => by
  obtain ⟨⟨m0, ks, ds⟩, e1, q⟩ := bindO q
  obtain ⟨⟨mk, kd⟩, e3, q⟩ := bindO q
  obtain ⟨kk, e4, q⟩ := bindO q
  obtain ⟨d', w, q⟩ := mapO q
  cases q
  obtain ⟨p, xs, hu, hl, at_⟩ := dic_at r e1
  refine ⟨.ref p, hu, F, τ, mk, kd, r, e3, fun y F2 H2 g2 ry => ?_⟩
  obtain ⟨hH, rx2⟩ := at_ F2 H2 g2
  obtain ⟨v, h3, h4⟩ := (RpL.look (k := kk) (ks := ks) rx2).1 _ w
  refine ⟨p, v, rfl, ?_, k _ F2 H2 g2 (lv_scal h4)⟩
  rw [keyD_some e4 ry, ← h3, ← valV_zip]
  exact .k hH
def dinP (i : Nat) (fk : FE) : FT := fun τ => (dicAt τ[i]?).bind fun t => (fk τ).bind fun kk => (keyD kk.2).map fun k => hasK t.2.1 k
theorem c_dinP (i : Nat) {x : Str} {fk : FE} {p2 : Pos} (hr : Room n X.A) (hk : SE R H0 X ke fk) (hN : X.N[i]? = some x := by rfl) (hvs : Vis X.env.scope x := by first | exact Or.inl rfl | exact Or.inr (Or.inl rfl) | exact Or.inr (Or.inr rfl)) (hd : (x == ("__debug__" : Str)) = false := by decide)
    (hcd : (x == ("__classdict__" : Str)) = false := by decide) : ST R H0 X (.Compare ke [.In] [.Name x p2] pos) (dinP i fk) := PTmono (pt_cmp (pc_din (by have := hr.units; omega) hk (pe_var hN hvs hd hcd))) fun σ H Q ⟨F, τ, z, r, q, k⟩ => by
  obtain ⟨⟨m0, ks, ds⟩, e1, q⟩ := bindO q
  obtain ⟨⟨mk, kd⟩, e3, q⟩ := bindO q
  obtain ⟨kk, e4, rfl⟩ := mapO q
  obtain ⟨p, xs, hu, hl, at_⟩ := dic_at r e1
  refine ⟨F, τ, mk, kd, r, e3, fun y F2 H2 g2 ry => ?_⟩
  obtain ⟨hH, rx2⟩ := at_ F2 H2 g2
  refine ⟨.ref p, hu, p, _, rfl, (by rw [keyD_some e4 ry]; exact .k hH), ?_⟩
  rw [isSome_zip hl]
  exact ⟨_, rfl, k F2 H2 g2⟩
/-- x.get(k, d) -/
def dgetF2 (i : Nat) (fk fd : FE) : FE := fun τ => (dicAt τ[i]?).bind fun t => (fk τ).bind fun kk => (fd τ).bind fun dd => (keyD kk.2).map fun k => (match lookL t.2.1 t.2.2 k with
      | some d => (t.1 || scal d, d)
      | none => dd)
theorem se_dget2 (i : Nat) {x : Str} {fk fd : FE} {vp ap : Pos} {de : Expr} (hr : Room n X.A) (hk : SE R H0 X ke fk) (hde : SE R H0 X de fd) (m : M2 X (.Name x vp) "get" ap ke de pos := by exact ⟨rfl, rfl, rfl, rfl⟩) (hN : X.N[i]? = some x := by rfl) (hv : Vis X.env.scope x := by first | exact Or.inl rfl | exact Or.inr (Or.inl rfl) | exact Or.inr (Or.inr rfl)) (hd : (x == ("__debug__" : Str)) = false := by decide)
    (hcd : (x == ("__classdict__" : Str)) = false := by decide) : SE R H0 X (.Call (.Attribute (.Name x vp) "get" ap) [ke, de] [] pos) (dgetF2 i fk fd) := PEmono (pe_dget2 (by have := hr.units; omega) (pe_var hN hv hd hcd) hk hde m) fun σ H Q ⟨F, τ, nw, d, r, q, k⟩ => by
  obtain ⟨⟨m0, ks, ds⟩, e1, q⟩ := bindO q
  obtain ⟨⟨mk, kd⟩, e3, q⟩ := bindO q
  obtain ⟨⟨md, dd⟩, e5, q⟩ := bindO q
  obtain ⟨kk, e4, q⟩ := mapO q
  obtain ⟨p, xs, hu, hl, at_⟩ := dic_at r e1
  refine ⟨.ref p, hu, p, rfl, .inl ⟨_, .inl (at_ F H r.refl).1⟩, F, τ, mk, kd, r, e3, fun y F2 H2 g2 ry => ⟨F2, τ, md, dd, r.grow g2, e5, fun z F3 H3 g3 rz => ?_⟩⟩
  obtain ⟨hH, rx2⟩ := at_ F3 H3 (g2.trans g3)
  refine ⟨_, by rw [keyD_some e4 ry]; exact .k hH, ?_⟩
  rw [valV_zip]
  obtain ⟨h1, h2⟩ := RpL.look (k := kk) (ks := ks) rx2
  cases w : lookL ks ds kk with
  | none =>
    rw [w] at q
    cases q
    rw [h2 w]
    exact k _ F3 H3 (g2.trans g3) rz
  | some d' =>
    rw [w] at q
    cases q
    obtain ⟨v, h3, h4⟩ := h1 _ w
    rw [h3]
    exact k _ F3 H3 (g2.trans g3) (lv_scal h4)
end
end Dl
end
section
set_option Elab.async false
set_option linter.all false
set_option maxRecDepth 100000
set_option maxHeartbeats 4000000
namespace Dl
open PySem PySem.Spec PyProof.Rows L2 GxR Gx
/-! ### all, any of a list of truths -/
def rAllB (K : PySem.W.Frag) (f : List Bool → Bool) : List V → Hp → VK → Prop := fun xs H Q => ∃ p bs, xs = [.ref p] ∧ SqL K H p (bs.map V.bl) ∧ Q (.bl (f bs)) H
theorem dpBools {K : PySem.W.Frag} {H : Hp} : ∀ bs : List Bool, DpAll K H (bs.map V.bl) (bs.map PyData.bool)
  | [] => .nil
  | b :: bs => .cons (.bl b) (dpBools bs)
theorem plainBools : ∀ bs : List Bool, PyData.plainAll (bs.map PyData.bool) = true
  | [] => rfl
  | b :: bs => by
    show PyData.plainAll (PyData.bool b :: bs.map PyData.bool) = true
    simp [PyData.plainAll, PyData.plain, plainBools bs]
theorem allBools : ∀ bs : List Bool, (bs.map PyData.bool).all PyData.truthy = bs.all id
  | [] => rfl
  | b :: bs => by
    rw [List.map_cons, List.all_cons, List.all_cons, allBools bs]
    rfl
theorem anyBools : ∀ bs : List Bool, (bs.map PyData.bool).any PyData.truthy = bs.any id
  | [] => rfl
  | b :: bs => by
    rw [List.map_cons, List.any_cons, List.any_cons, anyBools bs]
    rfl
section
variable {X : Cx}
theorem call_allB (hc : X.calm = true) : CallR X (.builtin "all") (rAllB X.K fun bs => bs.all id) := by
  intro pins s σ H xs us Q I r h
  obtain ⟨p, bs, rfl, hS, q⟩ := h
  obtain ⟨u, rfl, ru⟩ := r.one
  cases ru
  obtain ⟨its, rv, pl, hz⟩ := I.list hS
  obtain ⟨as, hr⟩ := Dp.readsAll I (bs.map PyData.bool) _ its (dpBools bs) rv
  refine PySem.W.all_list_data (I.ok.hd hc) pl.isList (by rw [List.toList_toArray]; exact hr) (plainBools bs) (fun x hx => ?_) fun h' tk k => ⟨.bl (bs.all id), H, I.kept k, ?_, q⟩
  · obtain ⟨b, _, rfl⟩ := List.mem_map.mp hx
    trivial
  · rw [allBools]
    exact rfl
theorem call_anyB (hc : X.calm = true) : CallR X (.builtin "any") (rAllB X.K fun bs => bs.any id) := by
  intro pins s σ H xs us Q I r h
  obtain ⟨p, bs, rfl, hS, q⟩ := h
  obtain ⟨u, rfl, ru⟩ := r.one
  cases ru
  obtain ⟨its, rv, pl, hz⟩ := I.list hS
  obtain ⟨as, hr⟩ := Dp.readsAll I (bs.map PyData.bool) _ its (dpBools bs) rv
  refine PySem.W.any_list_data (I.ok.hd hc) pl.isList (by rw [List.toList_toArray]; exact hr) (plainBools bs) (fun x hx => ?_) fun h' tk k => ⟨.bl (bs.any id), H, I.kept k, ?_, q⟩
  · obtain ⟨b, _, rfl⟩ := List.mem_map.mp hx
    trivial
  · rw [anyBools]
    exact rfl
end
def unbl : List D → Option (List Bool)
  | [] => some []
  | .bl b :: ds => (unbl ds).map (b :: ·)
  | _ => none
theorem unbl_some {K : PySem.W.Frag} {H : Hp} : ∀ {ds : List D} {bs : List Bool} {xs : List V}, unbl ds = some bs → RpL K H ds xs → xs = bs.map V.bl
  | [], _, _, e, r => by cases e; exact r
  | .bl b :: ds, _, _, e, ⟨y, t, rfl, r1, r2⟩ => by
    obtain ⟨bs, e1, rfl⟩ := mapO (show (unbl ds).map (b :: ·) = some _ from e)
    rw [unbl_some e1 r2, show y = V.bl b from r1]
    rfl
def allB (f : List Bool → Bool) : D → Option (Bool × D)
  | .lst ds => (unbl ds).map fun bs => (true, .bl (f bs))
  | _ => none
section
variable {R H0 : Hp} {X : Cx} {a : Expr} {pos p : Pos}
theorem se_allB {f : FB} (hc : X.calm = true) (hg : Gl X "all") (hm : X.mg "all" = none) (h : SB R H0 X a f) (he : starEach [a] X.env = (false, eval a X.env) :: starEach [] X.env := by rfl) : SE R H0 X (.Call (.Name "all" p) [a] [] pos) (un1 f (allB fun bs => bs.all id)) :=
  PEmono (pe_callB (call_allB hc) hg hm (by decide +kernel) (pa_cons h pa_nil he) (by decide) (by decide) he (by rfl)) fun σ H Q ⟨F, τ, nw, d, r, q, k⟩ => by
  obtain ⟨x, e1, q⟩ := un1_some q
  match x, e1, q with
  | .lst ds, e1, q =>
    obtain ⟨bs, e2, q⟩ := mapO (show (unbl ds).map (fun bs => (true, D.bl (bs.all id))) = some (nw, d) from q)
    cases q
    refine ⟨F, τ, _, r, e1, fun v F' H' g' rv => ?_⟩
    obtain ⟨pa, xs, rfl, hx, rx⟩ := rv
    exact ⟨pa, bs, rfl, .inl (.inl (by rw [← unbl_some e2 rx]; exact hx)), k _ F' H' g' rfl⟩
theorem se_anyB {f : FB} (hc : X.calm = true) (hg : Gl X "any") (hm : X.mg "any" = none) (h : SB R H0 X a f) (he : starEach [a] X.env = (false, eval a X.env) :: starEach [] X.env := by rfl) : SE R H0 X (.Call (.Name "any" p) [a] [] pos) (un1 f (allB fun bs => bs.any id)) :=
  PEmono (pe_callB (call_anyB hc) hg hm (by decide +kernel) (pa_cons h pa_nil he) (by decide) (by decide) he (by rfl)) fun σ H Q ⟨F, τ, nw, d, r, q, k⟩ => by
  obtain ⟨x, e1, q⟩ := un1_some q
  match x, e1, q with
  | .lst ds, e1, q =>
    obtain ⟨bs, e2, q⟩ := mapO (show (unbl ds).map (fun bs => (true, D.bl (bs.any id))) = some (nw, d) from q)
    cases q
    refine ⟨F, τ, _, r, e1, fun v F' H' g' rv => ?_⟩
    obtain ⟨pa, xs, rfl, hx, rx⟩ := rv
    exact ⟨pa, bs, rfl, .inl (.inl (by rw [← unbl_some e2 rx]; exact hx)), k _ F' H' g' rfl⟩
end
end Dl
end
section
set_option Elab.async false
set_option linter.all false
set_option maxRecDepth 100000
set_option maxHeartbeats 4000000
namespace Gx
open PySem PySem.Spec PyProof.Rows L2 GxR GenW
/-! ### two for in a generator expression -/
abbrev GE2 (elt t0 i0 : Expr) (if0 : List Expr) (t1 i1 : Expr) (if1 : List Expr) (scope : Scope) (pos : Pos) : Expr := .GeneratorExp elt [⟨t0, i0, if0, 0⟩, ⟨t1, i1, if1, 0⟩] scope pos
theorem compTurnG_out (elt t0 i0 t1 i1 : Expr) (ifs0 ifs1 : List Expr) (scope : Scope) (pos : Pos) (it acc : Value) (env : Env) :
    compTurn (GE2 elt t0 i0 ifs0 t1 i1 ifs1 scope pos) 0 it acc env = (standAt i0.pos >>= fun _ => pyNext it >>= fun r => match r with
      | none => pure (.done .next)
      | some v => letOwnedTupleGo t0 it v >>= fun _ => assign t0 env v >>= fun _ => (do { let mut ok := true; for c in ifs0 do { if ok then { ok ← isTrue c env (eval c env) } }; if ok then { let x ← eval i1 env; standAt i1.pos; let x ← foldedSetIterable i1 env x; let _ ← runOwn (.compStart (GE2 elt t0 i0 ifs0 t1 i1 ifs1 scope pos) 1 (← holding [x] (pyIter x)) acc env) env }; again (.compLoop (GE2 elt t0 i0 ifs0 t1 i1 ifs1 scope pos) 0 it acc env) })) := by rfl
theorem compTurnG_in (elt t0 i0 t1 i1 : Expr) (ifs0 ifs1 : List Expr) (scope : Scope) (pos : Pos) (it acc : Value) (env : Env) :
    compTurn (GE2 elt t0 i0 ifs0 t1 i1 ifs1 scope pos) 1 it acc env = (standAt i1.pos >>= fun _ => pyNext it >>= fun r => match r with
      | none => pure (.done .next)
      | some v => letOwnedTupleGo t1 it v >>= fun _ => assign t1 env v >>= fun _ => (do { let mut ok := true; for c in ifs1 do { if ok then { ok ← isTrue c env (eval c env) } }; if ok then { (do { let v ← eval elt env; standAt elt.pos; let _ ← yieldOut env v }) }; again (.compLoop (GE2 elt t0 i0 ifs0 t1 i1 ifs1 scope pos) 1 it acc env) })) := by rfl

def Ry (X' : Cx) (fin : Hp → Prop) : GenEnd := fun _ _ r s => r = .ok .next ∧ ∃ ps σ H, Inv X' ps σ H s ∧ fin H
def Yy (X' : Cx) (out : V → Hp → (Hp → Prop) → Prop) : Protocol := fun _ _ v s kap =>
  ∃ ps y H σ, ∃ Nx : Hp → Prop, RelV y v ∧ Inv X' ps σ H s ∧ out y H Nx ∧ ∀ s'', Nx H → s''.heap = s.heap → Inv X' ps σ H s'' → kap (.send .none) s''
/-- the word of the turns -/
def TurnsY (J : It) (g : TG) (tt : TT) (wi1 : TI) (g1 : TG) (tt1 : TT) (te : TE) (σ : L2.St) (vs vs1 : List Nat) (out : V → Hp → (Hp → Prop) → Prop) (fin : Hp → Prop) (W : Nat → Nat → Hp → Prop) : Prop :=
  ∀ i m H, W i m H → (J.stop i H ∧ fin H) ∨ (J.go i H ∧ ∃ Nx : Hp → Prop, (∀ H', Nx H' → ∃ m', m' < m ∧ W (i + 1) m' H') ∧ ∀ x H', J.yld i H x H' → g x (wipe σ vs) H' fun σ2 H2 => wipe σ2 vs = wipe σ vs ∧ tt σ2 H2 fun b H3 =>
    if b = true then wi1 σ2 H3 fun J1 H4 => ∃ W1 : Nat → Nat → Hp → Prop, (∃ k, k < m ∧ W1 0 k H4) ∧ ∀ j k H, W1 j k H →
      (J1.stop j H ∧ ∃ m', m' < k ∧ W (i + 1) m' H) ∨ (J1.go j H ∧ ∃ Nx1 : Hp → Prop, (∀ H', Nx1 H' → ∃ k', k' < k ∧ W1 (j + 1) k' H') ∧ ∀ x H', J1.yld j H x H' → g1 x (wipe σ2 vs1) H' fun σ3 H5 => wipe σ3 vs1 = wipe σ2 vs1 ∧ tt1 σ3 H5 fun b H6 =>
        if b = true then te σ3 H6 fun y H7 => out y H7 Nx1 else Nx1 H6)
    else Nx H3)

theorem seg_loop2 {X' : Cx} {Aw : Around} {elt tg iter tg1 iter1 : Expr} {ifs ifs1 : List Expr} {scope : Scope} {pos : Pos} {it : Addr} {fp : List Addr} {tn : Nat → Heap → Prop} {J : It} {g g1 : TG} {tt tt1 : TT} {wi1 : TI} {te : TE} {σ : L2.St} {vs vs1 : List Nat}
    {out : V → Hp → (Hp → Prop) → Prop} {fin : Hp → Prop} {W : Nat → Nat → Hp → Prop}
    (T : Turn X'.prog X'.w X'.K tg J fp it tn) (hA : Aw.over (.compLoop (GE2 elt tg iter ifs tg1 iter1 ifs1 scope pos) 0 (.ref it) .none X'.env) [] = X'.A)
    (hg : PG X' tg g) (ht : PTs X' ifs tt) (hi1 : PI X' tg1 iter1 wi1) (hg1 : PG X' tg1 g1) (ht1 : PTs X' ifs1 tt1) (he : PE X' elt te) (hs1 : ∀ env x, foldedSetIterable iter1 env x = pure x)
    (hv : ∀ i ∈ vs1, i ∈ vs) (hc : X'.calm = true) (hxe : X'.xe = fun _ _ => False) (hex : X'.ex = fp) (hco : X'.env.scope.isCoroutine = false)
    (hpn : ∀ p ∈ X'.pn, ∀ b ∈ fp, p.1 ≠ b) (hW : TurnsY J g tt wi1 g1 tt1 te σ vs vs1 out fin W) :
    ∀ (m n i : Nat) (s₀ s : Shared) (H : Hp), m + 1 ≤ n → W i m H → Inv X' [] (wipe σ vs) H s → tn i s.heap → (∀ b ∈ fp, H b = none) →
      Seg (model X'.prog X'.w) Aw (Ry X' fin) (Yy X' out) n s₀ (.compLoop (GE2 elt tg iter ifs tg1 iter1 ifs1 scope pos) 0 (.ref it) .none X'.env)
        ((model X'.prog X'.w).den (.compLoop (GE2 elt tg iter ifs tg1 iter1 ifs1 scope pos) 0 (.ref it) .none X'.env)) [] s := by
  intro m
  induction m using Nat.strongRecOn with
  | ind m ih =>
    intro n i s₀ s H hmn w I st hf
    have stat : ∀ {σ' : L2.St} {H' : Hp} {s' : Shared}, Inv X' [] σ' H' s' → (∀ b ∈ fp, H' b = none) → ∀ b ∈ fp, FpOk X' [] H' b := fun {σ' H' s'} I' hn b hb => by
      have hb' : b ∈ X'.ex := by rw [hex]; exact hb
      refine ⟨hn b hb, (I'.ok.exf b hb').1, I'.ok.exfs b hb', .inl hb', fun x c e => (I'.ok.exf b hb').2 x c e, fun p hp => ?_⟩
      rcases List.mem_append.mp hp with hp | hp
      · exact hpn p hp b hb
      · exact absurd hp (by simp)
    show Seg _ Aw _ _ n s₀ _ ((compTurn (GE2 elt tg iter ifs tg1 iter1 ifs1 scope pos) 0 (.ref it) .none X'.env).onRaise (leaving X'.env)) [] s
    rw [compTurnG_out, Sem.onRaise_eq_wrap]
    refine seg_bind_wrap (wpAny_standAt ?_)
    have up : ∀ {β : Type} {t : Sem β} {Q Q' : β → Shared → Prop} {E' : Value → Shared → Prop} {s : Shared}, wpAny (model X'.prog X'.w) X'.A t Q (fun _ _ => False) s → (∀ x s, Q x s → Q' x s) → wpAny (model X'.prog X'.w) (Aw.over (.compLoop (GE2 elt tg iter ifs tg1 iter1 ifs1 scope pos) 0 (.ref it) .none X'.env) []) t Q' E' s :=
      fun h hQ => by rw [hA]; exact wpAny_mono h hQ fun _ _ z => False.elim z
    rcases hW i m H w with ⟨stop, hfin⟩ | ⟨go, Nx, hNx, step⟩
    · refine seg_bind_wrap (up (T.done X' rfl rfl rfl hc i [] s _ H (fun _ _ => False) I (stat I hf) st stop) fun r s1 ⟨hr, I1⟩ => ?_)
      subst hr
      exact seg_end (.ok .next) ⟨rfl, _, _, H, I1, hfin⟩
    · refine seg_bind_wrap (up (T.item X' rfl rfl rfl hc i [] s _ H (fun _ _ => False) I (stat I hf) st go) fun r s1 ⟨u, hr, h1⟩ => ?_)
      subst hr
      refine seg_bind_wrap (up h1 fun _ s2 ⟨x, H2, I2, r2, y2, st2, f2⟩ => ?_)
      have I2' := I2.pinned (stat I2 f2) (T.obj _ _ st2)
      have step := step x H2 y2
      have hxe' : ∀ {β : Type} {t : Sem β} {Q : β → Shared → Prop} {s : Shared}, wpAny (model X'.prog X'.w) X'.A t Q X'.xe s → wpAny (model X'.prog X'.w) X'.A t Q (fun _ _ => False) s := fun h => by rw [hxe] at h; exact h
      refine seg_bind_wrap (up (hxe' (hg.run _ s2 _ H2 x u _ I2' r2 step)) fun _ s3 ⟨σ3, H3, I3, hw3, q3⟩ => ?_)
      refine seg_bind_wrap (up (hxe' (ht.run _ s3 σ3 H3 _ I3 q3)) fun b s4 ⟨H4, I4, q4⟩ => ?_)
      have hl3 : (wipe σ vs).length = σ3.length := by rw [← hw3, wipe_length]
      have back : ∀ {s' : Shared} {H' : Hp} {σ' : L2.St}, Inv X' ([] ++ pinsAt fp s2.heap) σ' H' s' → σ'.length = σ3.length → (∀ j v, (wipe σ vs)[j]? = some (some v) → σ'[j]? = some (some v)) → Inv X' [] (wipe σ vs) H' s' ∧ tn (i + 1) s'.heap ∧ ∀ b ∈ fp, H' b = none := fun {s' H' σ'} I' hl' hk' => by
        have pin' : ∀ b ∈ fp, ∀ o, s2.heap.get? b = some o → s'.heap.get? b = some o ∧ H' b = none := fun b hb o e =>
          let z := I'.pin (b, o) (List.mem_append_right _ (List.mem_append_right _ (mem_pinsAt hb e)))
          ⟨z.1, z.2.1⟩
        refine ⟨(I'.unpinned (pins := [])).weak (hl3.trans hl'.symm) hk', T.keep _ _ _ st2 fun b hb o e => (pin' b hb o e).1, fun b hb => ?_⟩
        obtain ⟨o, e, _⟩ := T.obj _ _ st2 b hb
        exact (pin' b hb o e).2
      have hk3 : ∀ (j : Nat) v, (wipe σ vs)[j]? = some (some v) → σ3[j]? = some (some v) := fun j v e => by
        rw [← hw3] at e
        exact (wipe_some e).1
      cases b with
      | false =>
        simp only [Bool.false_eq_true, if_false] at q4 ⊢
        obtain ⟨m', hm, w'⟩ := hNx H4 q4
        obtain ⟨I5, st5, f5⟩ := back I4 rfl hk3
        exact seg_again rfl (ih m' hm n (i + 1) s₀ s4 H4 (by omega) w' I5 st5 f5)
      | true =>
        simp only [if_true] at q4 ⊢
        refine seg_bind_wrap (up (hxe' (hi1.run _ s4 σ3 H4 _ I4 q4)) fun xv s5 h5 => ?_)
        refine seg_bind_wrap (wpAny_standAt ?_)
        refine seg_bind_wrap (wpAny_of_eq (hs1 _ _) ?_)
        refine seg_bind_wrap (wpAny_holding (up (hxe' h5) fun itv s6 h6 => ?_))
        obtain ⟨it1, fp1, tn1, J1, H6, e1, I6, T1, st6, f6, W1, ⟨k1, hk1, w1⟩, turn1⟩ := h6
        subst e1
        have back1 : ∀ {s' : Shared} {H' : Hp}, Inv X' ([] ++ pinsAt fp s2.heap) (wipe σ3 vs1) H' s' → Inv X' [] (wipe σ vs) H' s' ∧ tn (i + 1) s'.heap ∧ ∀ b ∈ fp, H' b = none := fun {s' H'} I' =>
          back I' (wipe_length _ _) fun j v e => by
            rw [← hw3] at e
            obtain ⟨e1, e2⟩ := wipe_some e
            rw [wipe_out fun z => e2 (hv j z)]
            exact e1
        have stat1 : ∀ {H' : Hp}, (∀ b ∈ fp1, H' b = none) → ∀ b ∈ fp1, FpOk X' ([] ++ pinsAt fp s2.heap) H' b := fun hn b hb => ⟨hn b hb, (f6 b hb).2⟩
        refine seg_call (fun p => ?_)
        generalize hF : (Frame.ret _ _ _ _ _ p []) = F
        have hA1 : Aw.over (.compLoop (GE2 elt tg iter ifs tg1 iter1 ifs1 scope pos) 1 (.ref it1) .none X'.env) [F] = X'.A := by
          rw [← hA, ← hF]
          rfl
        have up1 : ∀ {β : Type} {t : Sem β} {Q Q' : β → Shared → Prop} {E' : Value → Shared → Prop} {s : Shared}, wpAny (model X'.prog X'.w) X'.A t Q (fun _ _ => False) s → (∀ x s, Q x s → Q' x s) → wpAny (model X'.prog X'.w) (Aw.over (.compLoop (GE2 elt tg iter ifs tg1 iter1 ifs1 scope pos) 1 (.ref it1) .none X'.env) [F]) t Q' E' s :=
          fun h hQ => by rw [hA1]; exact wpAny_mono h hQ fun _ _ z => False.elim z
        have inner : ∀ (k n' j : Nat) (s₀ s : Shared) (H : Hp), k < m → k + 1 ≤ n' → W1 j k H → Inv X' ([] ++ pinsAt fp s2.heap) (wipe σ3 vs1) H s → tn1 j s.heap → (∀ b ∈ fp1, H b = none) →
            Seg (model X'.prog X'.w) Aw (Ry X' fin) (Yy X' out) n' s₀ (.compLoop (GE2 elt tg iter ifs tg1 iter1 ifs1 scope pos) 1 (.ref it1) .none X'.env)
              ((model X'.prog X'.w).den (.compLoop (GE2 elt tg iter ifs tg1 iter1 ifs1 scope pos) 1 (.ref it1) .none X'.env)) [F] s := by
          intro k
          induction k using Nat.strongRecOn with
          | ind k ih1 =>
            intro n' j s₀ s H hkm hkn w I st hf
            show Seg _ Aw _ _ n' s₀ _ ((compTurn (GE2 elt tg iter ifs tg1 iter1 ifs1 scope pos) 1 (.ref it1) .none X'.env).onRaise _) [F] s
            rw [compTurnG_in, Sem.onRaise_eq_wrap]
            refine seg_bind_wrap (wpAny_standAt ?_)
            rcases turn1 j k H w with ⟨stop, m', hm', w'⟩ | ⟨go, Nx1, hNx1, step1⟩
            · refine seg_bind_wrap (up1 (T1.done X' rfl rfl rfl hc j _ s _ H (fun _ _ => False) I (stat1 hf) st stop) fun r s7 ⟨hr, I7⟩ => ?_)
              subst hr
              obtain ⟨I8, st8, f8⟩ := back1 I7
              subst hF
              refine seg_leaf (.ok .next) ?_
              exact seg_again rfl (ih m' (by omega) n' (i + 1) s₀ s7 H (by omega) w' I8 st8 f8)
            · refine seg_bind_wrap (up1 (T1.item X' rfl rfl rfl hc j _ s _ H (fun _ _ => False) I (stat1 hf) st go) fun r s7 ⟨u1, hr, h7⟩ => ?_)
              subst hr
              refine seg_bind_wrap (up1 h7 fun _ s8 ⟨x1, H8, I8, r8, y8, st8, f8⟩ => ?_)
              have I8' := I8.pinned (stat1 f8) (T1.obj _ _ st8)
              refine seg_bind_wrap (up1 (hxe' (hg1.run _ s8 _ H8 x1 u1 _ I8' r8 (step1 x1 H8 y8))) fun _ s9 ⟨σ9, H9, I9, hw9, q9⟩ => ?_)
              refine seg_bind_wrap (up1 (hxe' (ht1.run _ s9 σ9 H9 _ I9 q9)) fun b s10 ⟨H10, I10, q10⟩ => ?_)
              have out1 : ∀ {s' : Shared} {H' : Hp}, Inv X' (([] ++ pinsAt fp s2.heap) ++ pinsAt fp1 s8.heap) σ9 H' s' → Inv X' ([] ++ pinsAt fp s2.heap) (wipe σ3 vs1) H' s' ∧ tn1 (j + 1) s'.heap ∧ ∀ b ∈ fp1, H' b = none := fun {s' H'} I' => by
                have pin' : ∀ b ∈ fp1, ∀ o, s8.heap.get? b = some o → s'.heap.get? b = some o ∧ H' b = none := fun b hb o e =>
                  let z := I'.pin (b, o) (List.mem_append_right _ (List.mem_append_right _ (mem_pinsAt hb e)))
                  ⟨z.1, z.2.1⟩
                refine ⟨I'.unpinned.weak (by rw [← hw9, wipe_length]) (fun j v e => by rw [← hw9] at e; exact (wipe_some e).1), T1.keep _ _ _ st8 fun b hb o e => (pin' b hb o e).1, fun b hb => ?_⟩
                obtain ⟨o, e, _⟩ := T1.obj _ _ st8 b hb
                exact (pin' b hb o e).2
              cases b with
              | false =>
                simp only [Bool.false_eq_true, if_false] at q10 ⊢
                obtain ⟨k', hk', w'⟩ := hNx1 H10 q10
                obtain ⟨I11, st11, f11⟩ := out1 I10
                exact seg_again rfl (ih1 k' hk' n' (j + 1) s₀ s10 H10 (by omega) (by omega) w' I11 st11 f11)
              | true =>
                simp only [if_true] at q10 ⊢
                have hy : ∀ v, yieldOut X'.env v = yieldValue v := fun v => by simp only [yieldOut, hco, Bool.false_eq_true, if_false]
                simp only [hy]
                rw [Sem.bind_eq_wrap', Sem.bind_eq_wrap', Sem.wrap_wrap, Sem.wrap_wrap]
                refine seg_wrap (up1 (hxe' (he.run _ s10 σ9 H10 _ I10 q10)) fun yv s11 ⟨y, H11, I11, r11, q11⟩ => ?_)
                obtain ⟨n', rfl⟩ : ∃ n'', n' = n'' + 1 := ⟨n' - 1, by omega⟩
                refine seg_at (seg_yield (by rw [← hF]; rfl) rfl (by rw [← hF]; rfl) ⟨_, y, H11, _, Nx1, r11, I11, q11, fun s'' nx hh I'' => ?_⟩)
                obtain ⟨k', hk', w'⟩ := hNx1 H11 nx
                obtain ⟨I12, st12, f12⟩ := out1 I''
                exact seg_again rfl (ih1 k' hk' n' (j + 1) s'' s'' H11 (by omega) (by omega) w' I12 st12 f12)
        have beg := inner k1 n 0 s₀ s6 H6 hk1 (by omega) w1 (I6.weak (wipe_length _ _) (fun j v e => (wipe_some e).1)) st6 (fun b hb => (f6 b hb).1)
        show Seg _ Aw _ _ _ s₀ _ ((compStart (GE2 elt tg iter ifs tg1 iter1 ifs1 scope pos) 1 (.ref it1) .none X'.env).onRaise _) [F] s6
        unfold compStart
        rw [Sem.onRaise_eq_wrap]
        show Seg _ Aw _ _ _ s₀ _ ((ask >>= _).wrap _ _ _ _) [F] s6
        refine seg_bind_wrap (wpAny_askSetting ?_)
        split
        · exact seg_again rfl beg
        · first
            | exact seg_bind_wrap (wpAny_rule (seg_bind_wrap (wpAny_standAt (seg_bind_wrap (T1.self _ 0 s6 _ _ st6 (seg_again rfl beg))))))
            | (refine seg_bind_wrap (wpAny_rule ?_); show Seg _ Aw _ _ _ s₀ _ ((standAt iter1.pos >>= _).wrap _ _ _ _) [F] s6; exact seg_bind_wrap (wpAny_standAt (seg_bind_wrap (T1.self _ 0 s6 _ _ st6 (seg_again rfl beg)))))
end Gx
end
section
set_option Elab.async false
set_option linter.all false
set_option maxRecDepth 100000
set_option maxHeartbeats 4000000
namespace Gx
open PySem PySem.Spec PyProof.Rows L2 GxR GenW

theorem seg_begin2 {X' : Cx} {Aw : Around} {elt tg iter tg1 iter1 : Expr} {ifs ifs1 : List Expr} {scope : Scope} {pos : Pos} {it : Addr} {fp : List Addr} {tn : Nat → Heap → Prop} {J : It} {R : GenEnd} {Y : Protocol} {n : Nat} {s₀ s : Shared}
    (T : Turn X'.prog X'.w X'.K tg J fp it tn) (st : tn 0 s.heap)
    (h : Seg (model X'.prog X'.w) Aw R Y n s₀ (.compLoop (GE2 elt tg iter ifs tg1 iter1 ifs1 scope pos) 0 (.ref it) .none X'.env) ((model X'.prog X'.w).den (.compLoop (GE2 elt tg iter ifs tg1 iter1 ifs1 scope pos) 0 (.ref it) .none X'.env)) [] s) :
    Seg (model X'.prog X'.w) Aw R Y n s₀ (.compStart (GE2 elt tg iter ifs tg1 iter1 ifs1 scope pos) 0 (.ref it) .none X'.env) ((model X'.prog X'.w).den (.compStart (GE2 elt tg iter ifs tg1 iter1 ifs1 scope pos) 0 (.ref it) .none X'.env)) [] s := by
  show Seg _ Aw _ _ _ s₀ _ ((compStart (GE2 elt tg iter ifs tg1 iter1 ifs1 scope pos) 0 (.ref it) .none X'.env).onRaise (leaving X'.env)) [] s
  unfold compStart
  rw [Sem.onRaise_eq_wrap]
  show Seg _ Aw _ _ _ s₀ _ ((ask >>= _).wrap _ _ _ _) [] s
  refine seg_bind_wrap (wpAny_askSetting ?_)
  split
  · exact seg_again rfl h
  · first
      | exact seg_bind_wrap (wpAny_rule (seg_bind_wrap (wpAny_standAt (seg_bind_wrap (T.self _ 0 s _ _ st (seg_again rfl h))))))
      | (refine seg_bind_wrap (wpAny_rule ?_); show Seg _ Aw _ _ _ s₀ _ ((standAt iter.pos >>= _).wrap _ _ _ _) [] s; exact seg_bind_wrap (wpAny_standAt (seg_bind_wrap (T.self _ 0 s _ _ st (seg_again rfl h)))))

theorem eval_GE2 (elt t0 i0 t1 i1 : Expr) (if0 if1 : List Expr) (scope : Scope) (pos : Pos) (env : Env) (hco : scope.isCoroutine = false) :
    eval (GE2 elt t0 i0 if0 t1 i1 if1 scope pos) env = (eval i0 env >>= fun x => standAt i0.pos >>= fun _ => genFold i0 env x >>= fun x => holding [x] (pyIter x) >>= fun it => enterFrame >>= fun _ => closureFor scope env >>= fun cl => genexprCode env pos (env.qual ++ "<genexpr>") scope >>= fun code =>
      builtinsFor env.globals env.builtins >>= fun bi => newFunctionEnv scope env.globals cl [(".0", it)] (env.qual ++ "<genexpr>.") none code none bi >>= fun cenv => newGenerator (.compStart (GE2 elt t0 i0 if0 t1 i1 if1 scope pos) 0 it .none cenv) "<genexpr>" (env.qual ++ "<genexpr>")) := by
  rw [arm_eval_GeneratorExp]
  simp only [hco, Bool.false_eq_true, if_false]
  cases i0 <;> rfl
theorem make_GE2 {M : Model} {A : Around} {E : Value → Shared → Prop} {s : Shared} {env : Env} {elt t0 i0 t1 i1 : Expr} {if0 if1 : List Expr} {scope : Scope} {cl : List (Str × Addr)} {pos : Pos} {Q : Value → Shared → Prop}
    (hco : scope.isCoroutine = false) (hclos : closureFor scope env = pure cl) (hcell : ∀ y ∈ scope.names, y.2 ≠ .cell) (h0 : scope.names.lookup (".0" : Str) = some NameKind.local) (hkind : scope.kind = .function) (hroom : A.depth < recursionLimit)
    (h : wpAny M A (eval i0 env) (fun xv s₁ => wpAny M A (pyIter xv) (fun it s₂ => s₂.heap.NoLimit ∧ wpAny M A (genexprCode env pos (env.qual ++ "<genexpr>") scope) (fun code s₃ => wpAny M A (builtinsFor env.globals env.builtins) (fun bi s₄ =>
      ∀ h', h'.Ns s₄.heap.objs.size (fun y => if y = ".0" then some it else none) → Heap.SameBut s₄.heap.objs.size (s₄.heap.push { cls := .type "frame", data := .dict #[] }) h' → Q (.ref h'.objs.size) { s₄ with gens := s₄.gens.push (.fresh (.compStart (GE2 elt t0 i0 if0 t1 i1 if1 scope pos) 0 it .none (genEnv scope cl s₄.heap.objs.size code bi env))), toks := s₄.toks + 1 + 1 + 1, heap := h'.push { cls := .type "generator", data := .fields #[.int s₄.gens.size 0, .str "<genexpr>" (s₄.toks + 1), .str (env.qual ++ "<genexpr>") (s₄.toks + 1 + 1)] } }) E s₃) E s₂) E s₁) E s)
    (hs : ∀ x, genFold i0 env x = pure x) : wpAny M A (eval (GE2 elt t0 i0 if0 t1 i1 if1 scope pos) env) Q E s := by
  rw [eval_GE2 _ _ _ _ _ _ _ _ _ _ hco, hclos]
  refine wpAny_bind (wpAny_mono h (fun xv a h1 => wpAny_bind (wpAny_standAt (wpAny_bind (wpAny_of_eq (hs xv) (wpAny_bind (wpAny_holding (wpAny_mono h1 (fun it b h2 => wpAny_bind (wpAny_enterFrame h2.1 hroom (wpAny_bind (wpAny_pure (wpAny_bind (wpAny_mono h2.2 (fun code d h3 => wpAny_bind (wpAny_mono h3 (fun bi e h4 => ?_) fun _ _ z => z)) fun _ _ z => z)))))) fun _ _ z => z))))))) fun _ _ z => z)
  have hb : ∀ y ∈ ([((".0" : Str), it)] : List (Str × Value)), scope.names.lookup y.1 = some NameKind.local := fun y hy => by
    have : y = ((".0" : Str), it) := by simpa using hy
    rw [this]; exact h0
  refine wpAny_bind (wpAny_newFunctionEnv hcell hb (fun h' hn hs' => ?_) hkind)
  have q : (fun y : Str => ([((".0" : Str), it)] : List (Str × Value)).reverse.lookup y) = fun y : Str => if y = (".0" : Str) then some it else none := by
    funext y
    by_cases hy : y = (".0" : Str)
    · rw [hy]; simp
    · have : (y == (".0" : Str)) = false := by simpa using hy
      simp [List.lookup, this, hy]
  rw [q] at hn
  simp only [newGenerator, newFields]
  exact wpAny_bind (wpAny_newGen (wpAny_bind (wpAny_mkText (wpAny_bind (wpAny_mkText (wpAny_newObj_type (h4 h' hn hs') (by size_fits)))))))
structure GD2 where
  X : Cx
  Aw : Around
  out : V → Hp → (Hp → Prop) → Prop
  fin : Hp → Prop
  a : Addr
  g : Nat
def GD2.At (D : GD2) (n : Nat) (s : Shared) : Prop :=
  ∃ gs ps σ H, s.gens[D.g]? = some gs ∧ Inv D.X ps σ H s ∧ ∀ s'', s''.heap = s.heap → Inv D.X ps σ H s'' → gs.Goes (model D.X.prog D.X.w) D.Aw (Ry D.X D.fin) (Yy D.X D.out) n (.send .none) s''
def GD2.Pinned (D : GD2) : Prop := ∀ ps σ H s, Inv D.X ps σ H s → s.heap.IsGen D.a D.g
theorem pull2 {D : GD2} {A : Around} {E : Value → Shared → Prop} {Q : Option Value → Shared → Prop} {n : Nat} {s : Shared} (hAw : D.Aw = A.in1) (hh : A.handled = none) (hroom : A.depth < recursionLimit) (hP : D.Pinned)
    (h : D.At n s)
    (hY : ∀ ps σ y v H1 s1 (Nx : Hp → Prop), RelV y v → Inv D.X ps σ H1 s1 → D.out y H1 Nx → (Nx H1 → ∃ n', n' < n ∧ D.At n' s1) → Q (some v) s1)
    (hR : ∀ ps σ H1 s1, Inv D.X ps σ H1 s1 → D.fin H1 → Q none s1) :
    wpAny (model D.X.prog D.X.w) A (pyNext (.ref D.a)) Q E s := by
  obtain ⟨gs, ps, σ, H, hgs, I, sl⟩ := h
  have hlt : D.g < s.gens.size := by
    rcases Nat.lt_or_ge D.g s.gens.size with z | z
    · exact z
    · rw [Array.getElem?_eq_none z] at hgs; cases hgs
  have hbare : ∀ {s1 : Shared} {gs' : GenState}, AllBare s1.gens → gs'.bare = true → AllBare (s1.setGen D.g gs').gens := fun h1 h2 => allBare_setGen h1 h2
  refine wpAny_gsz (n := s.gens.size) (Nat.le_refl _) ?_
  refine wpAny_pyNext_genexpQ (P := fun _ s₀ s => ∃ ps σ H, Inv D.X ps σ H s ∧ D.fin H) (Y := Yy D.X D.out) (n := n) hh I.nolimit hroom (hP _ _ _ _ I) hgs ?_ (fun v s1 gs' hb hv => ?_) (fun s1 hp h' hk' => ?_)
  · rw [← hAw]
    exact sl _ rfl (inv_gens (t' := s.toks) (d' := s.drawn) I (hbare I.bare rfl))
  · obtain ⟨ps1, y, H1, σ1, Nx, ry, I1, ho, kap⟩ := hv
    intro hsz
    have I1' : Inv D.X ps1 σ1 H1 (s1.setGen D.g gs') := inv_gens (t' := s1.toks) (d' := s1.drawn) I1 (hbare I1.bare hb)
    refine hY ps1 σ1 y v H1 _ Nx ry I1' ho fun nx => ?_
    cases n with
    | zero =>
      exact False.elim (kap (s1.setGen D.g gs') nx rfl I1')
    | succ m =>
      refine ⟨m, Nat.lt_succ_self m, gs', ps1, σ1, H1, ?_, I1', fun s3 e3 I3 => ?_⟩
      · refine setGen_at ?_
        have q : (s1.setGen D.g gs').gens.size = s1.gens.size := setGen_size _ _ _
        have hsz' : s.gens.size ≤ (s1.setGen D.g gs').gens.size := hsz
        omega
      · have := kap s3 nx e3 I3
        rw [hAw]
        exact this
  · intro _
    obtain ⟨ps1, σ1, H1, I1, hf⟩ := hp
    have I2 : Inv D.X ps1 σ1 H1 { s1 with heap := h' } := I1.kept (t' := s1.toks) hk'
    exact hR ps1 σ1 H1 _ (inv_gens (t' := s1.toks) (d' := s1.drawn) I2 (hbare I1.bare rfl)) hf
section
variable {D : GD2} {A : Around} {R : Result → Shared → Prop}
theorem all_loop2 (Qb : Bool → Hp → Prop) (hAw : D.Aw = A.in1.in1) (hh : A.handled = none) (hroom : A.depth < recursionLimit) (hP : D.Pinned)
    (ho : ∀ y H Nx, D.out y H Nx → ∃ k, y = .bl k ∧ if k = true then Nx H else Qb false H) (hf : ∀ H, D.fin H → Qb true H)
    (hR : ∀ b ps σ H s', Inv D.X ps σ H s' → Qb b H → R (.ok (.ret (.bool b))) s') :
    ∀ (n : Nat) (s : Shared), D.At n s → codeAny (model D.X.prog D.X.w) A (.builtin "all.loop" ⟨[.ref D.a], []⟩) R s := by
  intro n
  induction n using Nat.strongRecOn with
  | ind n ih =>
    intro s hs
    refine codeAny_builtin F.entry_all_loop ?_
    rw [Around.under_plainId F.plain_all_loop _]
    show wpAny _ A.in1 (pyNext (.ref D.a) >>= _) _ _ s
    refine wpAny_bind (pull2 hAw hh hroom hP hs (fun ps σ y v H1 s1 Nx ry I1 o1 kap => ?_) (fun ps σ H1 s1 I1 f1 => ?_))
    · obtain ⟨k, rfl, o2⟩ := ho _ _ _ o1
      obtain rfl : v = Value.bool k := ry
      refine wpAny_bind (wpAny_holding (wpAny_truthy_bool ?_))
      refine wpAny_bind (wpAny_letGo ?_)
      cases k with
      | true =>
        simp only [Bool.false_eq_true, if_true, if_false, reduceCtorEq] at o2 ⊢
        obtain ⟨n', hn, hs'⟩ := kap o2
        exact wpAny_pure ⟨plainId_quiet F.plain_all_loop _, ih n' hn s1 hs'⟩
      | false =>
        simp only [Bool.false_eq_true, if_true, if_false, reduceCtorEq] at o2 ⊢
        exact wpAny_bind (wpAny_rule (wpAny_pure (hR false ps σ H1 s1 I1 o2)))
    · exact wpAny_bind (wpAny_rule (wpAny_pure (hR true ps σ H1 s1 I1 (hf _ f1))))
theorem any_loop2 (Qb : Bool → Hp → Prop) (hAw : D.Aw = A.in1.in1) (hh : A.handled = none) (hroom : A.depth < recursionLimit) (hP : D.Pinned)
    (ho : ∀ y H Nx, D.out y H Nx → ∃ k, y = .bl k ∧ if k = true then Qb true H else Nx H) (hf : ∀ H, D.fin H → Qb false H)
    (hR : ∀ b ps σ H s', Inv D.X ps σ H s' → Qb b H → R (.ok (.ret (.bool b))) s') :
    ∀ (n : Nat) (s : Shared), D.At n s → codeAny (model D.X.prog D.X.w) A (.builtin "any.loop" ⟨[.ref D.a], []⟩) R s := by
  intro n
  induction n using Nat.strongRecOn with
  | ind n ih =>
    intro s hs
    refine codeAny_builtin F.entry_any_loop ?_
    rw [Around.under_plainId F.plain_any_loop _]
    show wpAny _ A.in1 (pyNext (.ref D.a) >>= _) _ _ s
    refine wpAny_bind (pull2 hAw hh hroom hP hs (fun ps σ y v H1 s1 Nx ry I1 o1 kap => ?_) (fun ps σ H1 s1 I1 f1 => ?_))
    · obtain ⟨k, rfl, o2⟩ := ho _ _ _ o1
      obtain rfl : v = Value.bool k := ry
      refine wpAny_bind (wpAny_holding (wpAny_truthy_bool ?_))
      refine wpAny_bind (wpAny_letGo ?_)
      cases k with
      | false =>
        simp only [Bool.false_eq_true, if_true, if_false, reduceCtorEq] at o2 ⊢
        obtain ⟨n', hn, hs'⟩ := kap o2
        exact wpAny_pure ⟨plainId_quiet F.plain_any_loop _, ih n' hn s1 hs'⟩
      | true =>
        simp only [Bool.false_eq_true, if_true, if_false, reduceCtorEq] at o2 ⊢
        exact wpAny_bind (wpAny_rule (wpAny_pure (hR true ps σ H1 s1 I1 o2)))
    · exact wpAny_bind (wpAny_rule (wpAny_pure (hR false ps σ H1 s1 I1 (hf _ f1))))
end
structure Made2 (X : Cx) (pins : List (Addr × Obj)) (σ : L2.St) (out : V → Hp → (Hp → Prop) → Prop) (fin : Hp → Prop) (X' : Cx) (Aw : Around) (a : Addr) (g n : Nat) (s5 : Shared) : Prop where
  prog : X'.prog = X.prog
  w : X'.w = X.w
  gen : s5.heap.IsGen a g
  pinned : ∀ ps σ H s, Inv X' ps σ H s → s.heap.IsGen a g
  back : ∀ ps σ' H s, Inv X' ps σ' H s → Inv X pins σ H s
  go : (GD2.mk X' Aw out fin a g).At n s5
section
variable {X : Cx} {pins : List (Addr × Obj)} {σ : L2.St} {H : Hp} {s : Shared}
theorem gen_made2 {c P : Addr} {elt tg iter tg1 iter1 : Expr} {ifs ifs1 : List Expr} {scope : Scope} {own : List (Str × Nat)} {gpos : Pos} {wi wi1 : TI} {g g1 : TG} {tt tt1 : TT} {te : TE} {vs1 : List Nat} {k : Nat} {Q' : Value → Shared → Prop} (out : V → Hp → (Hp → Prop) → Prop) (fin : Hp → Prop)
    (hr : Room (k + 1) X.A) (hc : X.calm = true) (hN : X.N.Nodup) (TB : TabB X.base X.mg c P) (hcode : X.env.code = .ref c) (ok : BlkOk X.N X.env.scope scope own) (hnc : ∀ y ∈ scope.names, y.2 ≠ .cell) (hdot : scope.names.lookup (".0" : Str) = some NameKind.local) (hco : scope.isCoroutine = false)
    (hi : PI X tg iter wi)
    (hg : ∀ s H C code fp A' pn, Room k A' → PG (Cxg X s H (gEnv X scope C code) fp A' pn) tg g) (ht : ∀ s H C code fp A' pn, Room k A' → PTs (Cxg X s H (gEnv X scope C code) fp A' pn) ifs tt) (he : ∀ s H C code fp A' pn, Room k A' → PE (Cxg X s H (gEnv X scope C code) fp A' pn) elt te)
    (hi1 : ∀ s H C code fp A' pn, Room k A' → PI (Cxg X s H (gEnv X scope C code) fp A' pn) tg1 iter1 wi1) (hg1 : ∀ s H C code fp A' pn, Room k A' → PG (Cxg X s H (gEnv X scope C code) fp A' pn) tg1 g1) (ht1 : ∀ s H C code fp A' pn, Room k A' → PTs (Cxg X s H (gEnv X scope C code) fp A' pn) ifs1 tt1) (hs1 : ∀ env x, foldedSetIterable iter1 env x = pure x) (hv : ∀ i ∈ vs1, i ∈ own.map (·.2))
    (hs : ∀ v, genFold iter X.env v = pure v) (I : Inv X pins σ H s)
    (h : wi σ H fun J H1 => TabG H1 P ∧ ∀ H2, Tabbed P H1 H2 → ∃ W : Nat → Nat → Hp → Prop, (∃ m, W 0 m H2) ∧ TurnsY J g tt wi1 g1 tt1 te σ (own.map (·.2)) vs1 out fin W)
    (hQ : ∀ X' a g n s5, Made2 X pins σ out fin X' X.A.in1.in1 a g n s5 → Q' (.ref a) s5) :
    wpAny (model X.prog X.w) X.A (eval (GE2 elt tg iter ifs tg1 iter1 ifs1 scope gpos) X.env) Q' X.xe s := by
  have hfree : ∀ y ∈ scope.names, y.2 = .free → ∃ c, X.env.cells.lookup y.1 = some c := fun y hy e => by
    rcases ok.free y hy e with k | k
    · exact I.ok.has _ (.inl k)
    · exact I.ok.has _ (.inr k)
  refine make_GE2 hco (closure_ok hfree) hnc hdot ok.kind (by have := hr.dp; omega) ?_ hs
  refine thn (hi.run pins s σ H _ I h) fun xv s1 hx => thn hx fun itv s2 h2 => ?_
  obtain ⟨it, fp, tn, J, H2, e, I2, T, st2, f2, ⟨⟨ps, hP, ht3⟩, q⟩⟩ := h2
  subst e
  refine ⟨I2.nolimit, ?_⟩
  have hPs : s2.heap.get? P = some { cls := .none, data := .fields ps } := I2.hok P _ hP
  have cd : PySem.W.CodeHd s2.heap c P := TB.code.keeps fun b u e => I2.bk b u e
  have fpP : ∀ b ∈ fp, b ≠ P := fun b hb z => by
    have := (f2 b hb).1
    rw [z, hP] at this
    cases this
  have sz : ∀ b ∈ fp, b < s2.heap.objs.size := fun b hb => by
    obtain ⟨o, e, _⟩ := T.obj _ _ st2 b hb
    exact Heap.lt_size e
  have cont : ∀ (code : Value) (h3 : Heap) (tk : Nat) (ps' : Array Value), Heap.ExtBut P s2.heap h3 → s2.heap.objs.size ≤ h3.objs.size → h3.get? P = some { cls := .none, data := .fields ps' } → (∃ more, ps' = ps ++ more) → TriplesOk ps'.toList →
      wpAny (model X.prog X.w) X.A (builtinsFor X.env.globals X.env.builtins) (fun bi s₄ =>
        ∀ h', h'.Ns s₄.heap.objs.size (fun y => if y = ".0" then some (Value.ref it) else none) → Heap.SameBut s₄.heap.objs.size (s₄.heap.push { cls := .type "frame", data := .dict #[] }) h' →
          Q' (.ref h'.objs.size) { s₄ with
            gens := s₄.gens.push (.fresh (.compStart (GE2 elt tg iter ifs tg1 iter1 ifs1 scope gpos) 0 (.ref it) .none (genEnv scope (cloFrom X.env.cells scope.names []) s₄.heap.objs.size code bi X.env))),
            toks := s₄.toks + 1 + 1 + 1,
            heap := h'.push { cls := .type "generator", data := .fields #[.int s₄.gens.size 0, .str "<genexpr>" (s₄.toks + 1), .str (X.env.qual ++ "<genexpr>") (s₄.toks + 1 + 1)] } }) X.xe { s2 with heap := h3, toks := tk } := by
    intro code h3 tk ps' hx hsz hP3 hmore htr
    obtain ⟨more, rfl⟩ := hmore
    obtain ⟨bm, ob, e1, e2, e3, e4, e5, e6, e7, e8⟩ := TB.bm
    have keep3 : ∀ b u, b ≠ P → s2.heap.get? b = some u → h3.get? b = some u := fun b u hb e => hx b u hb e
    refine wpAny_builtinsFor (m := X.mg) (by rw [I2.ok.glob]; exact (I2.mod.glob.keeps I2.bk).extBut hx TB.gP) e1 e2 (keep3 _ _ e4 (I2.bk _ _ e5)) e6 e7 e8 ?_
    have I4 := inv_tab (more := more) (h' := h3) (g' := s2.gens) (d' := s2.drawn) (t' := tk) I2 hP keep3 hP3 I2.bare
    have hTab : Tabbed P H2 (upd H2 P (.tbl (ps ++ more))) := ⟨⟨_, upd_same, htr⟩, fun b hb => upd_ne hb⟩
    generalize hH4 : upd H2 P (.tbl (ps ++ more)) = H4 at I4 hTab
    generalize hs4 : ({ s2 with heap := h3, gens := s2.gens, drawn := s2.drawn, toks := tk } : Shared) = s4 at I4
    intro h' hn' hs'
    have hh3 : s4.heap = h3 := by rw [← hs4]
    have hsz' : h'.objs.size = s4.heap.objs.size + 1 := by rw [hs'.1, Heap.size_push]
    have keep' : ∀ b o, s4.heap.get? b = some o → h'.get? b = some o := fun b o e => hs'.extBut b o (Nat.ne_of_lt (Heap.lt_size e)) (Heap.get?_push_of_some _ e)
    have f4 : ∀ b ∈ fp, FpOk X pins H4 b ∧ b < s4.heap.objs.size := fun b hb => by
      refine ⟨⟨?_, (f2 b hb).2⟩, ?_⟩
      · rw [← hH4, upd_ne (fpP b hb)]; exact (f2 b hb).1
      · rw [hh3]; exact Nat.lt_of_lt_of_le (sz b hb) hsz
    have st4 : tn 0 s4.heap := T.keep _ _ _ st2 fun b hb o e => by rw [hh3]; exact keep3 b o (fpP b hb) e
    obtain ⟨W, ⟨m0, w0⟩, tw⟩ := q H4 hTab
    generalize hgo : ({ cls := .type "generator", data := .fields #[.int s4.gens.size 0, .str "<genexpr>" (s4.toks + 1), .str (X.env.qual ++ "<genexpr>") (s4.toks + 1 + 1)] } : Obj) = go
    have hgd : ∀ v, go.data ≠ .cell v := fun v z => by rw [← hgo] at z; cases z
    have hgen : ∀ hh : Heap, hh.get? h'.objs.size = some go → hh.IsGen h'.objs.size s4.gens.size := fun hh e => ⟨go, _, _, e, by rw [← hgo], by rw [← hgo], by rw [← hgo]⟩
    generalize hs5 : ({ s4 with gens := s4.gens.push (.fresh (.compStart (GE2 elt tg iter ifs tg1 iter1 ifs1 scope gpos) 0 (.ref it) .none (genEnv scope (cloFrom X.env.cells scope.names []) s4.heap.objs.size code builtinsNs X.env))), toks := s4.toks + 1 + 1 + 1, heap := h'.push go } : Shared) = s5
    have h5 : s5.heap = h'.push go := by rw [← hs5]
    have g5 : s5.gens = s4.gens.push (.fresh (.compStart (GE2 elt tg iter ifs tg1 iter1 ifs1 scope gpos) 0 (.ref it) .none (gEnv X scope s4.heap.objs.size code))) := by rw [← hs5]
    have k5 : ∀ b o, s4.heap.get? b = some o → s5.heap.get? b = some o := fun b o e => by rw [h5]; exact Heap.get?_push_of_some _ (keep' b o e)
    have b5 : AllBare s5.gens := by rw [g5]; exact AllBare.push I4.bare rfl
    have o5 : s5.os = s4.os := by rw [← hs5]
    have n5 : s5.heap.Ns s4.heap.objs.size (fun y => if y = ".0" then some (Value.ref it) else none) := by rw [h5]; exact hn'.push _
    have go5 : s5.heap.get? (s4.heap.objs.size + 1) = some go := by rw [h5, ← hsz']; exact Heap.get?_push_size _ (by rw [← hgo]; rfl)
    have ge5 : s5.heap.get? h'.objs.size = some go := by rw [hsz']; exact go5
    -- the around of its turns
    generalize hA' : X.A.in1.in1.over (.compLoop (GE2 elt tg iter ifs tg1 iter1 ifs1 scope gpos) 0 (.ref it) .none (gEnv X scope s4.heap.objs.size code)) [] = A'
    have frA : A'.frames = some (gEnv X scope s4.heap.objs.size code :: X.stack) := by
      rw [← hA']
      show pushEnvs [gEnv X scope s4.heap.objs.size code] (pushEnvs [] X.A.frames) = _
      rw [I4.ok.frames]
      rfl
    have hdA : A'.handled = none := by
      rw [← hA']
      exact hr.hd
    have rA : Room k A' := by
      rw [← hA']
      refine ⟨hr.hd, ?_, ?_⟩
      · have := hr.dp
        show X.A.depth + 0 + 1 + 3 * k + 5 < _
        omega
      · have := hr.un
        show X.A.units + 1 + 1 + 0 + 3 + 16 * k + 200 < _
        omega
    have mk : ∀ {s6 : Shared}, (∀ b o, s5.heap.get? b = some o → s6.heap.get? b = some o) → s6.gens = s5.gens → s6.os = s5.os →
        Inv (Cxg X s4 H4 (gEnv X scope s4.heap.objs.size code) fp A' [(s4.heap.objs.size + 1, go)]) [] (wipe σ (own.map (·.2))) H4 s6 := fun {s6} hk6 hg6 ho6 =>
      gen_start I4 ok hN hnc f4 frA (fun _ => hdA) (fun b o e => hk6 b o (k5 b o e)) (ho6.trans o5) (by rw [hg6]; exact b5) (Heap.Ns.keeps n5 hk6) (hk6 _ _ go5) hgd
    have sz5 : s5.heap.objs.size = s4.heap.objs.size + 2 := by rw [h5, Heap.size_push, hsz']
    have cellO : ∀ x c, (gEnv X scope s4.heap.objs.size code).cells.lookup x = some c → c < s4.heap.objs.size := fun x c e => by
      have I5 := mk (s6 := s5) (fun _ _ e => e) rfl rfl
      rcases cloFrom_mem (PySem.mem_of_lookup (show (cloFrom X.env.cells scope.names []).lookup x = some c from e)) with hm | ⟨h1, rfl⟩
      · cases hm
      · obtain ⟨c, hc⟩ := hfree _ h1 rfl
        rw [hc]
        obtain ⟨w, z⟩ := I4.cell _ _ hc
        exact z.lt
    refine hQ (Cxg X s4 H4 (gEnv X scope s4.heap.objs.size code) fp A' [(s4.heap.objs.size + 1, go)]) h'.objs.size s4.gens.size (m0 + 1) s5 ⟨rfl, rfl, hgen _ ge5, fun ps σ' H s' I' => ?_, fun ps σ' H s' I' => ?_, ?_⟩
    · have := (I'.pin (s4.heap.objs.size + 1, go) (List.mem_append_left _ (List.mem_singleton.mpr rfl))).1
      refine hgen _ ?_
      rw [hsz']
      exact this
    · exact I4.call' (ch := fp) I'.os I'.base I'.hok I'.bare fun b hb => ⟨(f4 b hb).1.2.2.2.1, (f4 b hb).1.2.1, (f4 b hb).1.2.2.2.2.1, (f4 b hb).1.2.2.2.2.2⟩
    · have I6 := mk (s6 := s5) (fun _ _ e => e) rfl rfl
      have st6 : tn 0 s5.heap := T.keep _ _ _ st4 fun b _ o e => k5 b o e
      have fnone : ∀ b ∈ fp, H4 b = none := fun b hb => (f4 b hb).1.1
      refine ⟨_, [], _, H4, by rw [g5]; exact Array.getElem?_push_size .., I6, fun s7 e7 I7 => ?_⟩
      have st7 : tn 0 s7.heap := by rw [e7]; exact st6
      refine ⟨rfl, seg_begin2 (X' := Cxg X s4 H4 (gEnv X scope s4.heap.objs.size code) fp A' [(s4.heap.objs.size + 1, go)]) T st7 ?_⟩
      refine seg_loop2 (X' := Cxg X s4 H4 (gEnv X scope s4.heap.objs.size code) fp A' [(s4.heap.objs.size + 1, go)]) T hA' (hg s4 H4 _ code fp A' _ rA) (ht s4 H4 _ code fp A' _ rA) (hi1 s4 H4 _ code fp A' _ rA) (hg1 s4 H4 _ code fp A' _ rA) (ht1 s4 H4 _ code fp A' _ rA) (he s4 H4 _ code fp A' _ rA) hs1 hv hc rfl rfl hco
        (fun p hp b hb => ?_) tw m0 (m0 + 1) 0 s7 s7 H4 (Nat.le_refl _) w0 I7 st7 fnone
      have e : p = (s4.heap.objs.size + 1, go) := by simpa using hp
      rw [e]
      exact Nat.ne_of_gt (Nat.lt_succ_of_lt (f4 b hb).2)
  cases hf : codeAmong gpos ps.toList with
  | none =>
    refine wpAny_genexprCodeX hcode (cd.code hPs ht3) (cd.tab hPs) hf fun c' h' tk hx hge hlt hco' _ htab' _ => ?_
    obtain ⟨o1, vs, f1, tf, fl, tg, inF, tx, tt, op, _, _, _, _, _, _, _, _, _, htr, _⟩ := hco'
    exact cont _ h' tk _ hx (Nat.le_trans hge (Nat.le_of_lt hlt)) htab'.2 ⟨_, rfl⟩ htr
  | some cv =>
    refine wpAny_genexprCode_hit hcode (cd.code hPs ht3) hf ?_
    exact cont cv s2.heap s2.toks ps (Heap.ExtBut.refl _ _) (Nat.le_refl _) hPs ⟨#[], by simp⟩ ht3
end

def tGen2 (P : Addr) (wi : TI) (g : TG) (tt : TT) (wi1 : TI) (g1 : TG) (tt1 : TT) (te : TE) (vs vs1 : List Nat) (out : V → Hp → (Hp → Prop) → Prop) (fin : Hp → Prop) : L2.St → Hp → Prop := fun σ H =>
  wi σ H fun J H1 => TabG H1 P ∧ ∀ H2, Tabbed P H1 H2 → ∃ W : Nat → Nat → Hp → Prop, (∃ m, W 0 m H2) ∧ TurnsY J g tt wi1 g1 tt1 te σ vs vs1 out fin W
def outAll2 (Q : VK) : V → Hp → (Hp → Prop) → Prop := fun y H Nx => ∃ k, y = .bl k ∧ if k = true then Nx H else Q (.bl false) H
def outAny2 (Q : VK) : V → Hp → (Hp → Prop) → Prop := fun y H Nx => ∃ k, y = .bl k ∧ if k = true then Q (.bl true) H else Nx H
def tAllG2 (P : Addr) (wi : TI) (g : TG) (tt : TT) (wi1 : TI) (g1 : TG) (tt1 : TT) (te : TE) (vs vs1 : List Nat) : TE := fun σ H Q => tGen2 P wi g tt wi1 g1 tt1 te vs vs1 (outAll2 Q) (fun H => Q (.bl true) H) σ H
def tAnyG2 (P : Addr) (wi : TI) (g : TG) (tt : TT) (wi1 : TI) (g1 : TG) (tt1 : TT) (te : TE) (vs vs1 : List Nat) : TE := fun σ H Q => tGen2 P wi g tt wi1 g1 tt1 te vs vs1 (outAny2 Q) (fun H => Q (.bl false) H) σ H
section
variable {X : Cx} {c P : Addr} {elt tg iter tg1 iter1 : Expr} {ifs ifs1 : List Expr} {scope : Scope} {own : List (Str × Nat)} {gpos p pos : Pos} {wi wi1 : TI} {g g1 : TG} {tt tt1 : TT} {te : TE} {k : Nat} {vs1 : List Nat}
theorem pe_allG2 (hr : Room (k + 1) X.A) (hc : X.calm = true) (hN : X.N.Nodup) (hgl : Gl X "all") (hm : X.mg "all" = none) (TB : TabB X.base X.mg c P) (hcode : X.env.code = .ref c) (ok : BlkOk X.N X.env.scope scope own) (hnc : ∀ y ∈ scope.names, y.2 ≠ .cell) (hdot : scope.names.lookup (".0" : Str) = some NameKind.local)
    (hco : scope.isCoroutine = false) (hi : PI X tg iter wi)
    (hg : ∀ s H C code fp A' pn, Room k A' → PG (Cxg X s H (gEnv X scope C code) fp A' pn) tg g) (ht : ∀ s H C code fp A' pn, Room k A' → PTs (Cxg X s H (gEnv X scope C code) fp A' pn) ifs tt)
    (hi1 : ∀ s H C code fp A' pn, Room k A' → PI (Cxg X s H (gEnv X scope C code) fp A' pn) tg1 iter1 wi1) (hg1 : ∀ s H C code fp A' pn, Room k A' → PG (Cxg X s H (gEnv X scope C code) fp A' pn) tg1 g1) (ht1 : ∀ s H C code fp A' pn, Room k A' → PTs (Cxg X s H (gEnv X scope C code) fp A' pn) ifs1 tt1)
    (he : ∀ s H C code fp A' pn, Room k A' → PE (Cxg X s H (gEnv X scope C code) fp A' pn) elt te) (hv : ∀ i ∈ vs1, i ∈ own.map (·.2)) (hs1 : ∀ env x, foldedSetIterable iter1 env x = pure x := by intro _ _; rfl)
    (hs : ∀ v, genFold iter X.env v = pure v := by intro _; rfl) (hst : starEach [GE2 elt tg iter ifs tg1 iter1 ifs1 scope gpos] X.env = (false, eval (GE2 elt tg iter ifs tg1 iter1 ifs1 scope gpos) X.env) :: starEach [] X.env := by rfl) :
    PE X (.Call (.Name "all" p) [GE2 elt tg iter ifs tg1 iter1 ifs1 scope gpos] [] pos) (tAllG2 P wi g tt wi1 g1 tt1 te (own.map (·.2)) vs1) := by
  refine ⟨fun pins s σ H Q I h => ?_⟩
  refine wpAny_Call_Name_kw (ld_blt I hgl hm (by decide +kernel : bootBuiltins "all" = some (.builtin "all")) ?_)
  refine PyProof.Rows.callWith_builtin1 ?_ hst (by rfl)
  rw [hst]
  show wpAny _ _ (spliced ((false, eval (GE2 elt tg iter ifs tg1 iter1 ifs1 scope gpos) X.env) :: backTo pos (starEach [] X.env))) _ _ s
  refine Calls.spliced_cons (gen_made2 _ _ hr hc hN TB hcode ok hnc hdot hco hi hg ht he hi1 hg1 ht1 hs1 hv hs I h fun X' a gg n s5 M => ?_)
  refine Calls.spliced_nil ?_
  refine call_function_tree F.kind_all F.plain_all F.entry_all (F.args_all1 _) ?_
  unfold Builtin.«all»
  refine wpAny_bind (m := oneArg "all" _) (wpAny_pure ?_)
  refine wpAny_bind (wpAny_pyIter_gen M.gen ?_)
  refine wpAny_pure ⟨plainId_quiet F.plain_all_loop _, ?_⟩
  have L := all_loop2 (D := GD2.mk X' X.A.in1.in1 (outAll2 Q) (fun H => Q (.bl true) H) a gg) (A := X.A) (R := fun r s' => match r with | .ok (.ret v) => EP X pins σ Q v s' | .ok _ => False | .error e => X.xe e s') (fun b H => Q (.bl b) H) rfl hr.hd (by have := hr.dp; omega) M.pinned (fun _ _ _ o => o) (fun _ q => q)
    (fun b ps σ' H s' I' q => ⟨.bl b, H, M.back _ _ _ _ I', rfl, q⟩) n s5 M.go
  have e1 := M.prog
  have e2 := M.w
  rw [e1, e2] at L
  exact L
theorem pe_anyG2 (hr : Room (k + 1) X.A) (hc : X.calm = true) (hN : X.N.Nodup) (hgl : Gl X "any") (hm : X.mg "any" = none) (TB : TabB X.base X.mg c P) (hcode : X.env.code = .ref c) (ok : BlkOk X.N X.env.scope scope own) (hnc : ∀ y ∈ scope.names, y.2 ≠ .cell) (hdot : scope.names.lookup (".0" : Str) = some NameKind.local)
    (hco : scope.isCoroutine = false) (hi : PI X tg iter wi)
    (hg : ∀ s H C code fp A' pn, Room k A' → PG (Cxg X s H (gEnv X scope C code) fp A' pn) tg g) (ht : ∀ s H C code fp A' pn, Room k A' → PTs (Cxg X s H (gEnv X scope C code) fp A' pn) ifs tt)
    (hi1 : ∀ s H C code fp A' pn, Room k A' → PI (Cxg X s H (gEnv X scope C code) fp A' pn) tg1 iter1 wi1) (hg1 : ∀ s H C code fp A' pn, Room k A' → PG (Cxg X s H (gEnv X scope C code) fp A' pn) tg1 g1) (ht1 : ∀ s H C code fp A' pn, Room k A' → PTs (Cxg X s H (gEnv X scope C code) fp A' pn) ifs1 tt1)
    (he : ∀ s H C code fp A' pn, Room k A' → PE (Cxg X s H (gEnv X scope C code) fp A' pn) elt te) (hv : ∀ i ∈ vs1, i ∈ own.map (·.2)) (hs1 : ∀ env x, foldedSetIterable iter1 env x = pure x := by intro _ _; rfl)
    (hs : ∀ v, genFold iter X.env v = pure v := by intro _; rfl) (hst : starEach [GE2 elt tg iter ifs tg1 iter1 ifs1 scope gpos] X.env = (false, eval (GE2 elt tg iter ifs tg1 iter1 ifs1 scope gpos) X.env) :: starEach [] X.env := by rfl) :
    PE X (.Call (.Name "any" p) [GE2 elt tg iter ifs tg1 iter1 ifs1 scope gpos] [] pos) (tAnyG2 P wi g tt wi1 g1 tt1 te (own.map (·.2)) vs1) := by
  refine ⟨fun pins s σ H Q I h => ?_⟩
  refine wpAny_Call_Name_kw (ld_blt I hgl hm boot_any ?_)
  refine PyProof.Rows.callWith_builtin1 ?_ hst (by rfl)
  rw [hst]
  show wpAny _ _ (spliced ((false, eval (GE2 elt tg iter ifs tg1 iter1 ifs1 scope gpos) X.env) :: backTo pos (starEach [] X.env))) _ _ s
  refine Calls.spliced_cons (gen_made2 _ _ hr hc hN TB hcode ok hnc hdot hco hi hg ht he hi1 hg1 ht1 hs1 hv hs I h fun X' a gg n s5 M => ?_)
  refine Calls.spliced_nil ?_
  refine call_function_tree F.kind_any F.plain_any F.entry_any (F.args_any1 _) ?_
  unfold Builtin.«any»
  refine wpAny_bind (m := oneArg "any" _) (wpAny_pure ?_)
  refine wpAny_bind (wpAny_pyIter_gen M.gen ?_)
  refine wpAny_pure ⟨plainId_quiet F.plain_any_loop _, ?_⟩
  have L := any_loop2 (D := GD2.mk X' X.A.in1.in1 (outAny2 Q) (fun H => Q (.bl false) H) a gg) (A := X.A) (R := fun r s' => match r with | .ok (.ret v) => EP X pins σ Q v s' | .ok _ => False | .error e => X.xe e s') (fun b H => Q (.bl b) H) rfl hr.hd (by have := hr.dp; omega) M.pinned (fun _ _ _ o => o) (fun _ q => q)
    (fun b ps σ' H s' I' q => ⟨.bl b, H, M.back _ _ _ _ I', rfl, q⟩) n s5 M.go
  have e1 := M.prog
  have e2 := M.w
  rw [e1, e2] at L
  exact L
end
end Gx
end
section
set_option Elab.async false
set_option linter.all false
set_option maxRecDepth 100000
set_option maxHeartbeats 4000000
namespace Dl
open PySem PySem.Spec PyProof.Rows L2 GxR Gx
/-! ### two for in one generator expression -/
section
variable (vs : List Nat) (t : TgD) (c : FT) (fi1 : FI) (vs1 : List Nat) (t1 : TgD) (c1 : FT) (e : FE) (τ : DS)
def allD2 : List (Bool × D) → Option Bool
  | [] => some true
  | p :: ps => (t p (wD τ vs)).bind fun τ1 => (c τ1).bind fun b => if b = true then (fi1 τ1).bind fun qs => (allD vs1 t1 c1 e τ1 qs).bind fun r => if r = true then allD2 ps else some false else allD2 ps
def anyD2 : List (Bool × D) → Option Bool
  | [] => some false
  | p :: ps => (t p (wD τ vs)).bind fun τ1 => (c τ1).bind fun b => if b = true then (fi1 τ1).bind fun qs => (anyD vs1 t1 c1 e τ1 qs).bind fun r => if r = true then some true else anyD2 ps else anyD2 ps
end
def allF2 (fi : FI) (vs : List Nat) (t : TgD) (c : FT) (fi1 : FI) (vs1 : List Nat) (t1 : TgD) (c1 : FT) (e : FE) : FE := fun τ => (fi τ).bind fun items => (allD2 vs t c fi1 vs1 t1 c1 e τ items).map fun b => (true, .bl b)
def anyF2 (fi : FI) (vs : List Nat) (t : TgD) (c : FT) (fi1 : FI) (vs1 : List Nat) (t1 : TgD) (c1 : FT) (e : FE) : FE := fun τ => (fi τ).bind fun items => (anyD2 vs t c fi1 vs1 t1 c1 e τ items).map fun b => (true, .bl b)
def mOut (t : TgD) (fi1 : FI) (τ0 : DS) : List (Bool × D) → Nat
  | [] => 0
  | p :: ps => 2 + (((t p τ0).bind fi1).elim 0 List.length) + mOut t fi1 τ0 ps
theorem mOut_cons {t : TgD} {fi1 : FI} {τ0 : DS} {p : Bool × D} {ps : List (Bool × D)} : mOut t fi1 τ0 (p :: ps) = 2 + (((t p τ0).bind fi1).elim 0 List.length) + mOut t fi1 τ0 ps := rfl
section
variable {K : PySem.W.Frag} {R H0 : Hp}
theorem gx_ok2 {P : Addr} {wi wi1 : TI} {fi fi1 : FI} {g g1 : TG} {t t1 : TgD} {sl sl1 vs vs1 : List Nat} {tt tt1 : TT} {c c1 : FT} {e : FE} {out : V → Hp → (Hp → Prop) → Prop} {fin : Hp → Prop} (hi : IiOk K R H0 wi fi) (ht : TgOk K R H0 g t sl) (hsl : ∀ j ∈ sl, j ∈ vs) (hc : TtOk K R H0 tt c)
    (hi1 : IiOk K R H0 wi1 fi1) (ht1 : TgOk K R H0 g1 t1 sl1) (hsl1 : ∀ j ∈ sl1, j ∈ vs1) (hc1 : TtOk K R H0 tt1 c1)
    {σ : L2.St} {H F : Hp} {τ : DS} {items : List (Bool × D)} (r : Rel K R H0 τ σ F H) (hT : ∀ F1 H1, Grow F H F1 H1 → TabG H1 P) (e1 : fi τ = some items) (S : List (Bool × D) → Prop) (S1 : DS → List (Bool × D) → List (Bool × D) → Prop) (h0 : S items)
    (hS : ∀ p ps, S (p :: ps) → ∃ τ1 b, t p (wD τ vs) = some τ1 ∧ c τ1 = some b ∧ if b = true then ∃ qs, fi1 τ1 = some qs ∧ S1 τ1 qs ps else S ps)
    (hS1 : ∀ τ1 q qs ps, S1 τ1 (q :: qs) ps → ∃ τ2 b, t1 q (wD τ1 vs1) = some τ2 ∧ c1 τ2 = some b ∧ if b = true then ∃ y, e τ2 = some y ∧ ∀ v F' H' Nx, Grow F H F' H' → Rp K (lv y.1 R F') y.2 v → (S1 τ1 qs ps → Nx H') → out v H' Nx else S1 τ1 qs ps)
    (hE : ∀ τ1 ps, S1 τ1 [] ps → S ps)
    (hF : ∀ F' H', S [] → Grow F H F' H' → fin H') : tGen2 P wi g tt wi1 g1 tt1 (tSE K R H0 e) vs vs1 out fin σ H := by
  refine hi σ H F τ items r e1 _ fun J F1 H1 g1 it => ⟨hT F1 H1 g1, fun H2 hTb => ?_⟩
  have x2 : Ext H1 H2 := Ext.tabbed hTb (hT F1 H1 g1)
  have g2 : Grow F1 H1 F1 H2 := .heap g1.s g1.t x2
  refine ⟨fun i m H => m = mOut t fi1 (wD τ vs) (items.drop i) ∧ i ≤ items.length ∧ S (items.drop i) ∧ ∃ F3, Grow F1 H1 F3 H, ⟨_, rfl, Nat.zero_le _, h0, F1, g2⟩, ?_⟩
  rintro i m H3 ⟨rfl, hi2, hSa, F3, g3⟩
  have r3 : Rel K R H0 τ σ F3 H3 := (r.grow g1).grow g3
  obtain ⟨ig, is⟩ := it i F3 H3 g3.f g3.s g3.t (r.g.f.trans (g1.f.trans g3.f))
  by_cases hlt : i < items.length
  · obtain ⟨p, hp⟩ : ∃ p, items[i]? = some p := ⟨items[i], List.getElem?_eq_getElem hlt⟩
    obtain ⟨go, yl⟩ := ig p hp
    have ed : items.drop i = p :: items.drop (i + 1) := by
      rw [List.drop_eq_getElem_cons hlt]
      rw [List.getElem?_eq_getElem hlt] at hp
      rw [Option.some.inj hp]
    rw [ed] at hSa
    obtain ⟨τ1, b, et1, ec, hb⟩ := hS _ _ hSa
    refine .inr ⟨go, fun H' => S (items.drop (i + 1)) ∧ ∃ F3, Grow F1 H1 F3 H', fun H' ⟨h1, h2⟩ => ⟨_, by rw [ed, mOut_cons]; omega, rfl, hlt, h1, h2⟩, fun x H4 hy => ?_⟩
    obtain ⟨F4, g4, rx⟩ := yl x H4 hy
    have r4 : Rel K R H0 (wD τ vs) (wipe σ vs) F4 H4 := (r3.grow g4).wipe vs
    refine ht x (wipe σ vs) H4 F4 _ p τ1 r4 rx et1 _ fun σ2 r5 hσ hl => ⟨?_, ?_⟩
    · rw [wipe_eq (fun j hj => hσ j fun z => hj (hsl j z)) hl, wipe_wipe]
    refine hc σ2 H4 F4 τ1 b r5 ec _ fun F5 H5 g5 => ?_
    cases b with
    | false =>
      rw [if_neg Bool.false_ne_true] at hb
      exact iteF ⟨hb, F5, (g3.trans g4).trans g5⟩
    | true =>
      rw [if_pos rfl] at hb
      obtain ⟨qs, eq, hq⟩ := hb
      have r6 := r5.grow g5
      refine iteT (hi1 σ2 H5 F5 τ1 qs r6 eq _ fun J1 F6 H6 g6 it1 => ?_)
      have gg6 := ((g3.trans g4).trans g5).trans g6
      have em : mOut t fi1 (wD τ vs) (p :: items.drop (i + 1)) = 2 + qs.length + mOut t fi1 (wD τ vs) (items.drop (i + 1)) := by
        show 2 + (((t p (wD τ vs)).bind fi1).elim 0 List.length) + _ = _
        rw [et1, Option.bind_some, eq]; rfl
      refine ⟨fun j k H => k = 1 + (qs.length - j) + mOut t fi1 (wD τ vs) (items.drop (i + 1)) ∧ j ≤ qs.length ∧ S1 τ1 (qs.drop j) (items.drop (i + 1)) ∧ ∃ F7, Grow F6 H6 F7 H, ⟨_, ?_, rfl, Nat.zero_le _, hq, F6, Grow.heap g6.s g6.t Ext.refl⟩, ?_⟩
      · rw [ed, em]; omega
      rintro j k H7 ⟨rfl, hj2, hSj, F7, g7⟩
      obtain ⟨ig1, is1⟩ := it1 j F7 H7 g7.f g7.s g7.t (r6.g.f.trans (g6.f.trans g7.f))
      by_cases hlj : j < qs.length
      · obtain ⟨q, hq1⟩ : ∃ q, qs[j]? = some q := ⟨qs[j], List.getElem?_eq_getElem hlj⟩
        obtain ⟨go1, yl1⟩ := ig1 q hq1
        have ed1 : qs.drop j = q :: qs.drop (j + 1) := by
          rw [List.drop_eq_getElem_cons hlj]
          rw [List.getElem?_eq_getElem hlj] at hq1
          rw [Option.some.inj hq1]
        rw [ed1] at hSj
        obtain ⟨τ2, b1, et2, ec2, hb1⟩ := hS1 _ _ _ _ hSj
        refine .inr ⟨go1, fun H' => S1 τ1 (qs.drop (j + 1)) (items.drop (i + 1)) ∧ ∃ F7, Grow F6 H6 F7 H', fun H' ⟨h1, h2⟩ => ⟨_, by omega, rfl, hlj, h1, h2⟩, fun x1 H8 hy1 => ?_⟩
        obtain ⟨F8, g8, rx1⟩ := yl1 x1 H8 hy1
        have r8 : Rel K R H0 (wD τ1 vs1) (wipe σ2 vs1) F8 H8 := (((r6.grow g6).grow g7).grow g8).wipe vs1
        refine ht1 x1 (wipe σ2 vs1) H8 F8 _ q τ2 r8 rx1 et2 _ fun σ3 r9 hσ1 hl1 => ⟨?_, ?_⟩
        · rw [wipe_eq (fun j hj => hσ1 j fun z => hj (hsl1 j z)) hl1, wipe_wipe]
        refine hc1 σ3 H8 F8 τ2 b1 r9 ec2 _ fun F9 H9 g9 => ?_
        cases b1 with
        | false =>
          rw [if_neg Bool.false_ne_true] at hb1
          exact iteF ⟨hb1, F9, (g7.trans g8).trans g9⟩
        | true =>
          rw [if_pos rfl] at hb1
          obtain ⟨y, ey, hout⟩ := hb1
          refine iteT ⟨F9, τ2, y.1, y.2, r9.grow g9, ey, fun v F10 H10 g10 rv => ?_⟩
          have gg := ((g7.trans g8).trans g9).trans g10
          exact hout v F10 H10 _ (g1.trans (gg6.trans gg)) rv fun hS' => ⟨hS', F10, gg⟩
      · have e3 : j = qs.length := by omega
        subst e3
        rw [List.drop_length] at hSj
        exact .inl ⟨is1 (Nat.le_refl _), _, by omega, rfl, hlt, hE _ _ hSj, F7, gg6.trans g7⟩
  · have e3 : i = items.length := by omega
    subst e3
    rw [List.drop_length] at hSa
    exact .inl ⟨is (Nat.le_refl _), hF F3 H3 hSa (g1.trans g3)⟩
end
section
variable {R H0 : Hp} {X : Cx} {c P : Addr} {elt tg iter tg1 iter1 : Expr} {ifs ifs1 : List Expr} {scope : Scope} {own own1 : List (Str × Nat)} {gpos p pos : Pos} {wi wi1 : TI} {fi fi1 : FI} {g g1 : TG} {t t1 : TgD} {sl sl1 : List Nat} {tt tt1 : TT} {cd cd1 : FT} {e : FE} {k : Nat} {cs : List (Addr × Addr)}
theorem se_anyG2 (hT : Tabs cs H0) (hP : (c, P) ∈ cs) (hr : Room (k + 1) X.A) (hc : X.calm = true) (hN : X.N.Nodup) (hgl : Gl X "any") (hm : X.mg "any" = none) (TB : TabB X.base X.mg c P) (hcode : X.env.code = .ref c) (ok : BlkOk X.N X.env.scope scope own) (hnc : ∀ y ∈ scope.names, y.2 ≠ .cell) (hdot : scope.names.lookup (".0" : Str) = some NameKind.local)
    (hco : scope.isCoroutine = false) (hi : PI X tg iter wi) (hii : IiOk X.K R H0 wi fi)
    (hg : ∀ s H C code fp A' pn, Room k A' → PG (Cxg X s H (gEnv X scope C code) fp A' pn) tg g) (hgt : TgOk X.K R H0 g t sl) (hsl : ∀ j ∈ sl, j ∈ own.map (·.2)) (ht : ∀ s H C code fp A' pn, Room k A' → PTs (Cxg X s H (gEnv X scope C code) fp A' pn) ifs tt) (htt : TtOk X.K R H0 tt cd)
    (hi1 : ∀ s H C code fp A' pn, Room k A' → PI (Cxg X s H (gEnv X scope C code) fp A' pn) tg1 iter1 wi1) (hii1 : IiOk X.K R H0 wi1 fi1)
    (hg1 : ∀ s H C code fp A' pn, Room k A' → PG (Cxg X s H (gEnv X scope C code) fp A' pn) tg1 g1) (hgt1 : TgOk X.K R H0 g1 t1 sl1) (hsl1 : ∀ j ∈ sl1, j ∈ own1.map (·.2)) (ht1 : ∀ s H C code fp A' pn, Room k A' → PTs (Cxg X s H (gEnv X scope C code) fp A' pn) ifs1 tt1) (htt1 : TtOk X.K R H0 tt1 cd1)
    (he : ∀ s H C code fp A' pn, Room k A' → SE R H0 (Cxg X s H (gEnv X scope C code) fp A' pn) elt e) (hv : ∀ i ∈ own1.map (·.2), i ∈ own.map (·.2)) (hs1 : ∀ env x, foldedSetIterable iter1 env x = pure x := by intro _ _; rfl)
    (hs : ∀ v, genFold iter X.env v = pure v := by intro _; rfl) (hst : starEach [GE2 elt tg iter ifs tg1 iter1 ifs1 scope gpos] X.env = (false, eval (GE2 elt tg iter ifs tg1 iter1 ifs1 scope gpos) X.env) :: starEach [] X.env := by rfl) :
    SE R H0 X (.Call (.Name "any" p) [GE2 elt tg iter ifs tg1 iter1 ifs1 scope gpos] [] pos) (anyF2 fi (own.map (·.2)) t cd fi1 (own1.map (·.2)) t1 cd1 e) := PEmono (pe_anyG2 (te := tSE X.K R H0 e) hr hc hN hgl hm TB hcode ok hnc hdot hco hi hg ht hi1 hg1 ht1 he hv hs1 hs hst) fun σ H Q ⟨F, τ, nw, d, r, q, kk⟩ => by
  obtain ⟨items, e1, q⟩ := bindO q
  obtain ⟨b, e2, q⟩ := mapO q
  cases q
  refine gx_ok2 (e := e) hii hgt hsl htt hii1 hgt1 hsl1 htt1 r (fun F1 H1 g1 => Tabs.ext (r.grow g1).g.h hT (c, P) hP) e1 (fun l => anyD2 (own.map (·.2)) t cd fi1 (own1.map (·.2)) t1 cd1 e τ l = some b) (fun τ1 qs ps => ((anyD (own1.map (·.2)) t1 cd1 e τ1 qs).bind fun r => if r = true then some true else anyD2 (own.map (·.2)) t cd fi1 (own1.map (·.2)) t1 cd1 e τ ps) = some b) e2 (fun p ps hS => ?_) (fun τ1 q qs ps hS => ?_) (fun τ1 ps hS => hS) fun F' H' hS g' => ?_
  · obtain ⟨τ1, h1, hS⟩ := bindO (show (t p (wD τ (own.map (·.2)))).bind _ = _ from hS)
    obtain ⟨b1, h2, hS⟩ := bindO hS
    refine ⟨τ1, b1, h1, h2, ?_⟩
    cases b1 with
    | false => rw [if_neg Bool.false_ne_true] at hS; exact iteF hS
    | true =>
      rw [if_pos rfl] at hS
      obtain ⟨qs, h3, hS⟩ := bindO hS
      exact iteT ⟨qs, h3, hS⟩
  · obtain ⟨rr, hS, hK⟩ := bindO hS
    obtain ⟨τ2, h1, hS⟩ := bindO (show (t1 q (wD τ1 (own1.map (·.2)))).bind _ = _ from hS)
    obtain ⟨b1, h2, hS⟩ := bindO hS
    refine ⟨τ2, b1, h1, h2, ?_⟩
    cases b1 with
    | false =>
      rw [if_neg Bool.false_ne_true] at hS
      refine iteF ?_
      show Option.bind _ _ = _
      rw [hS]; exact hK
    | true =>
      rw [if_pos rfl] at hS
      obtain ⟨⟨ny, y⟩, h3, hS⟩ := bindO hS
      refine iteT ⟨(ny, y), h3, fun v F' H' Nx g' rv hn => ?_⟩
      match y, hS, rv with
      | .bl false, hS, rv => exact ⟨false, rv, iteF (hn (by show Option.bind _ _ = _; rw [show anyD (own1.map (·.2)) t1 cd1 e τ1 qs = some rr from hS]; exact hK))⟩
      | .bl true, hS, rv =>
        cases hS
        rw [if_pos rfl] at hK
        cases hK
        exact ⟨true, rv, iteT (kk _ F' H' g' rfl)⟩
  · cases hS
    exact kk _ F' H' g' rfl
theorem se_allG2 (hT : Tabs cs H0) (hP : (c, P) ∈ cs) (hr : Room (k + 1) X.A) (hc : X.calm = true) (hN : X.N.Nodup) (hgl : Gl X "all") (hm : X.mg "all" = none) (TB : TabB X.base X.mg c P) (hcode : X.env.code = .ref c) (ok : BlkOk X.N X.env.scope scope own) (hnc : ∀ y ∈ scope.names, y.2 ≠ .cell) (hdot : scope.names.lookup (".0" : Str) = some NameKind.local)
    (hco : scope.isCoroutine = false) (hi : PI X tg iter wi) (hii : IiOk X.K R H0 wi fi)
    (hg : ∀ s H C code fp A' pn, Room k A' → PG (Cxg X s H (gEnv X scope C code) fp A' pn) tg g) (hgt : TgOk X.K R H0 g t sl) (hsl : ∀ j ∈ sl, j ∈ own.map (·.2)) (ht : ∀ s H C code fp A' pn, Room k A' → PTs (Cxg X s H (gEnv X scope C code) fp A' pn) ifs tt) (htt : TtOk X.K R H0 tt cd)
    (hi1 : ∀ s H C code fp A' pn, Room k A' → PI (Cxg X s H (gEnv X scope C code) fp A' pn) tg1 iter1 wi1) (hii1 : IiOk X.K R H0 wi1 fi1)
    (hg1 : ∀ s H C code fp A' pn, Room k A' → PG (Cxg X s H (gEnv X scope C code) fp A' pn) tg1 g1) (hgt1 : TgOk X.K R H0 g1 t1 sl1) (hsl1 : ∀ j ∈ sl1, j ∈ own1.map (·.2)) (ht1 : ∀ s H C code fp A' pn, Room k A' → PTs (Cxg X s H (gEnv X scope C code) fp A' pn) ifs1 tt1) (htt1 : TtOk X.K R H0 tt1 cd1)
    (he : ∀ s H C code fp A' pn, Room k A' → SE R H0 (Cxg X s H (gEnv X scope C code) fp A' pn) elt e) (hv : ∀ i ∈ own1.map (·.2), i ∈ own.map (·.2)) (hs1 : ∀ env x, foldedSetIterable iter1 env x = pure x := by intro _ _; rfl)
    (hs : ∀ v, genFold iter X.env v = pure v := by intro _; rfl) (hst : starEach [GE2 elt tg iter ifs tg1 iter1 ifs1 scope gpos] X.env = (false, eval (GE2 elt tg iter ifs tg1 iter1 ifs1 scope gpos) X.env) :: starEach [] X.env := by rfl) :
    SE R H0 X (.Call (.Name "all" p) [GE2 elt tg iter ifs tg1 iter1 ifs1 scope gpos] [] pos) (allF2 fi (own.map (·.2)) t cd fi1 (own1.map (·.2)) t1 cd1 e) := PEmono (pe_allG2 (te := tSE X.K R H0 e) hr hc hN hgl hm TB hcode ok hnc hdot hco hi hg ht hi1 hg1 ht1 he hv hs1 hs hst) fun σ H Q ⟨F, τ, nw, d, r, q, kk⟩ => by
  obtain ⟨items, e1, q⟩ := bindO q
  obtain ⟨b, e2, q⟩ := mapO q
  cases q
  refine gx_ok2 (e := e) hii hgt hsl htt hii1 hgt1 hsl1 htt1 r (fun F1 H1 g1 => Tabs.ext (r.grow g1).g.h hT (c, P) hP) e1 (fun l => allD2 (own.map (·.2)) t cd fi1 (own1.map (·.2)) t1 cd1 e τ l = some b) (fun τ1 qs ps => ((allD (own1.map (·.2)) t1 cd1 e τ1 qs).bind fun r => if r = true then allD2 (own.map (·.2)) t cd fi1 (own1.map (·.2)) t1 cd1 e τ ps else some false) = some b) e2 (fun p ps hS => ?_) (fun τ1 q qs ps hS => ?_) (fun τ1 ps hS => hS) fun F' H' hS g' => ?_
  · obtain ⟨τ1, h1, hS⟩ := bindO (show (t p (wD τ (own.map (·.2)))).bind _ = _ from hS)
    obtain ⟨b1, h2, hS⟩ := bindO hS
    refine ⟨τ1, b1, h1, h2, ?_⟩
    cases b1 with
    | false => rw [if_neg Bool.false_ne_true] at hS; exact iteF hS
    | true =>
      rw [if_pos rfl] at hS
      obtain ⟨qs, h3, hS⟩ := bindO hS
      exact iteT ⟨qs, h3, hS⟩
  · obtain ⟨rr, hS, hK⟩ := bindO hS
    obtain ⟨τ2, h1, hS⟩ := bindO (show (t1 q (wD τ1 (own1.map (·.2)))).bind _ = _ from hS)
    obtain ⟨b1, h2, hS⟩ := bindO hS
    refine ⟨τ2, b1, h1, h2, ?_⟩
    cases b1 with
    | false =>
      rw [if_neg Bool.false_ne_true] at hS
      refine iteF ?_
      show Option.bind _ _ = _
      rw [hS]; exact hK
    | true =>
      rw [if_pos rfl] at hS
      obtain ⟨⟨ny, y⟩, h3, hS⟩ := bindO hS
      refine iteT ⟨(ny, y), h3, fun v F' H' Nx g' rv hn => ?_⟩
      match y, hS, rv with
      | .bl true, hS, rv => exact ⟨true, rv, iteT (hn (by show Option.bind _ _ = _; rw [show allD (own1.map (·.2)) t1 cd1 e τ1 qs = some rr from hS]; exact hK))⟩
      | .bl false, hS, rv =>
        cases hS
        rw [if_neg Bool.false_ne_true] at hK
        cases hK
        exact ⟨false, rv, iteF (kk _ F' H' g' rfl)⟩
  · cases hS
    exact kk _ F' H' g' rfl
end
end Dl
end
section
set_option Elab.async false
set_option linter.all false
set_option maxRecDepth 100000
set_option maxHeartbeats 4000000
namespace Dl
open PySem PySem.Spec PyProof.Rows L2 GxR Gx
/-! ### while, -=, turned lists, sums, tuples of lists -/
def whileD (c : FT) (gb : FS) : Nat → DS → Option Out
  | 0, _ => none
  | n + 1, τ => (c τ).bind fun b => if b = true then (gb τ).bind fun o => match o with
    | .nx τ2 => whileD c gb n τ2
    | .ct τ2 => whileD c gb n τ2
    | .bk τ2 => some (.nx τ2)
    | .rt nw d => some (.rt nw d)
    else some (.nx τ)
def whileF (c : FT) (gb : FS) : FS := fun τ => whileD c gb lim τ
section
variable {R H0 : Hp} {X : Cx} {a b c e : Expr} {es : List Expr} {pos p : Pos} {n : Nat}
theorem ss_while {body : List Stmt} {f : FT} {gb : FS} (hp : PassesOwn (model X.prog X.w) X.A X.env X.xe) (hc : ST R H0 X c f) (hb : SSs R H0 X body gb) : SS R H0 X (.While c body [] pos) (whileF f gb) := PSmono (ps_while hp hc hb) fun D σ H ⟨F, τ, o, r, q, k⟩ => by
  refine ⟨fun m σ H => ∃ F2 τ2, Sm F F2 ∧ Rel X.K R H0 τ2 σ F2 H ∧ whileD f gb m τ2 = some o, ⟨lim, F, τ, .refl, r, q⟩, ?_⟩
  rintro m σ2 H2 ⟨F2, τ2, s2, r2, e2⟩
  cases m with
  | zero => cases e2
  | succ m =>
    obtain ⟨x, e3, e2⟩ := bindO (show (f τ2).bind _ = _ from e2)
    refine ⟨F2, τ2, x, r2, e3, fun F3 H3 g3 => ?_⟩
    have k3 : OutK X.K R H0 D F3 o := k.mono (s2.trans g3.f)
    cases x with
    | false =>
      rw [if_neg Bool.false_ne_true] at e2
      cases e2
      exact iteF (k3 σ2 F3 H3 .refl (r2.grow g3))
    | true =>
      rw [if_pos rfl] at e2
      obtain ⟨ob, e4, e2⟩ := bindO e2
      refine iteT ⟨fun σ' H' => ∃ F' τ', Sm F F' ∧ Rel X.K R H0 τ' σ' F' H' ∧ whileD f gb m τ' = some o, fun σ' H' h => ⟨m, Nat.lt_succ_self m, h⟩, F3, τ2, ob, r2.grow g3, e4, ?_⟩
      have s3 := s2.trans g3.f
      cases ob with
      | nx τ4 => exact fun σ' F' H' s r' => ⟨F', τ4, s3.trans s, r', e2⟩
      | ct τ4 => exact fun σ' F' H' s r' => ⟨F', τ4, s3.trans s, r', e2⟩
      | bk τ4 => cases e2; exact k3
      | rt nw d => cases e2; exact k3
def ausF (i : Nat) (f : FB) : FS := fun τ => match cellD τ[i]?, f τ with
  | some (_, .int x), some (.int y) => some (.nx (τ.set i (some (.d true (.int (x - y))))))
  | _, _ => none
theorem ss_aus (i : Nat) {x : Str} {f : FB} {pos' : Pos} (hN : X.N.Nodup) (he : SB R H0 X e f) (hi : X.N[i]? = some x := by rfl) (hx : Loc X.env.scope x := by first | exact Or.inl rfl | exact Or.inr rfl) (hf : X.fn x = true ∨ X.env.scope.names.lookup x = some .local := by first | exact .inl rfl | exact .inr rfl | assumption) :
    SS R H0 X (.AugAssign (.Name x pos') .Sub e pos) (ausF i f) := PSmono (ps_aug hN hi hx he ip_sub hf) fun D σ H ⟨F, τ, o, r, q, k⟩ => by
  unfold ausF at q
  split at q
  · rename_i nw x y h1 h2
    cases q
    obtain ⟨G, rg⟩ := r
    obtain ⟨v, hv, cv⟩ := rg.cell i _ (cellD_some h1)
    refine ⟨v, hv, F, τ, _, ⟨G, rg⟩, h2, fun u F' H' g1 ru => ⟨x, y, cv, ru, k _ F' H' g1.f ?_⟩⟩
    exact Rel.store (c := .d true (.int (x - y))) ⟨G, rg⟩ g1.pend rfl
  · cases q
theorem RpL.rev {K : PySem.W.Frag} {H : Hp} : ∀ {ds : List D} {xs : List V}, RpL K H ds xs → RpL K H ds.reverse xs.reverse
  | [], _, h => by
    have h : _ = [] := h
    rw [h]; rfl
  | d :: ds, _, ⟨y, r, e, h1, h2⟩ => by
    subst e
    rw [List.reverse_cons, List.reverse_cons]
    exact RpL.app (RpL.rev h2) (RpL.one h1)
def revC : (Bool × D) → Option C
  | (n, .lst ds) => some (.own (n || allScal ds) ds.reverse)
  | _ => none
theorem sc_rev {f : FE} {k : Nat} {p1 p2 p3 : Pos} (h : SE R H0 X a f) : SC R H0 X (.Subscript a (.Slice none none (some (.UnaryOp .USub (.Constant (.int 1) k p1) p2)) p3) pos) (un1 f revC) := PEmono (pe_revL h) fun σ H Q ⟨F, τ, c, r, q, k⟩ => by
  obtain ⟨⟨m, x⟩, e1, q⟩ := un1_some q
  refine ⟨F, τ, m, x, r, e1, fun v F1 H1 g1 r1 => ?_⟩
  cases x <;> first | (cases q; done) | skip
  cases q
  obtain ⟨p1, xs, rfl, hx, q1⟩ := r1
  exact ⟨p1, xs, rfl, .inl (.inl ((lv_sub.trans g1.s) _ _ hx)), fun p hp => k _ _ _ _ (pend_new g1 hp fun _ z => nomatch z) ⟨p, xs.reverse, rfl, sing_same, RpL.rev (lvL_scal q1)⟩⟩
def unint : List D → Option (List Int)
  | [] => some []
  | .int b :: ds => (unint ds).map (b :: ·)
  | _ => none
theorem unint_some {K : PySem.W.Frag} {H : Hp} : ∀ {ds : List D} {bs : List Int} {xs : List V}, unint ds = some bs → RpL K H ds xs → xs = bs.map V.int
  | [], _, _, e, r => by cases e; exact r
  | .int b :: ds, _, _, e, ⟨y, t, rfl, r1, r2⟩ => by
    obtain ⟨bs, e1, rfl⟩ := mapO (show (unint ds).map (b :: ·) = some _ from e)
    rw [unint_some e1 r2, show y = V.int b from r1]
    rfl
def sumL : D → Option (Bool × D)
  | .lst ds => (unint ds).map fun bs => (true, .int bs.sum)
  | _ => none
theorem se_sumL {f : FB} (hc : X.calm = true) (hg : Gl X "sum") (hm : X.mg "sum" = none) (h : SB R H0 X a f) (he : starEach [a] X.env = (false, eval a X.env) :: starEach [] X.env := by rfl) : SE R H0 X (.Call (.Name "sum" p) [a] [] pos) (un1 f sumL) :=
  PEmono (pe_callB (cr_sum hc) hg hm (by decide +kernel) (pa_cons h pa_nil he) (by decide) (by decide) he (by rfl)) fun σ H Q ⟨F, τ, nw, d, r, q, k⟩ => by
  obtain ⟨x, e1, q⟩ := un1_some q
  match x, e1, q with
  | .lst ds, e1, q =>
    obtain ⟨bs, e2, q⟩ := mapO (show (unint ds).map (fun bs => (true, D.int bs.sum)) = some (nw, d) from q)
    cases q
    refine ⟨F, τ, _, r, e1, fun v F' H' g' rv => ?_⟩
    obtain ⟨pa, xs, rfl, hx, rx⟩ := rv
    exact ⟨pa, bs, rfl, .inl (.inl (by rw [← unint_some e2 rx]; exact hx)), k _ F' H' g' rfl⟩
def tupL : (Bool × D) → Option (Bool × D)
  | (n, .lst ds) => some (n || allScal ds, .tup ds)
  | _ => none
theorem se_tupL {f : FE} (hg : Gl X "tuple") (hm : X.mg "tuple" = none) (h : SE R H0 X a f) (he : starEach [a] X.env = (false, eval a X.env) :: starEach [] X.env := by rfl) : SE R H0 X (.Call (.Name "tuple" p) [a] [] pos) (un1 f tupL) := PEmono (pe_tupleOf hg hm h he) fun σ H Q ⟨F, τ, nw, d, r, q, k⟩ => by
  obtain ⟨⟨m, x⟩, e1, q⟩ := un1_some q
  refine ⟨F, τ, m, x, r, e1, fun v F1 H1 g1 r1 => ?_⟩
  cases x <;> first | (cases q; done) | skip
  cases q
  obtain ⟨p1, xs, rfl, hx, q1⟩ := r1
  refine .inl ⟨p1, xs, rfl, .inl (.inl ((lv_sub.trans g1.s) _ _ hx)), fun p hp => ?_⟩
  have r2 := r.grow g1
  have g2 : Grow F1 H1 (upd F1 p (.tup xs)) (upd H1 p (.tup xs)) := .new r2.s r2.t hp fun _ z => nomatch z
  exact k _ _ _ (g1.trans g2) ⟨p, xs, rfl, lv_new upd_same (r2.rn hp), RpL.sm (lv_mono g2.f) (lvL_scal q1)⟩
end
end Dl
end
section
set_option Elab.async false
set_option linter.all false
set_option maxRecDepth 100000
set_option maxHeartbeats 4000000
namespace Dl
open PySem PySem.Spec PyProof.Rows L2 GxR Gx
/-! ### instances: fields -/
def lookF {α : Type} : List Str → List α → Str → Option α
  | f :: fs, x :: xs, g => if g = f then some x else lookF fs xs g
  | _, _, _ => none
theorem lookup_zip {α : Type} {g : Str} : ∀ {fs : List Str} {xs : List α}, (fs.zip xs).lookup g = lookF fs xs g
  | [], _ => rfl
  | _ :: _, [] => rfl
  | f :: fs, x :: xs => by
    show List.lookup g ((f, x) :: fs.zip xs) = if g = f then some x else lookF fs xs g
    by_cases h : g = f
    · subst h; simp [List.lookup]
    · have e : (g == f) = false := by simpa using h
      rw [if_neg h]
      simp [List.lookup, e, lookup_zip]
theorem RpL.lookF {K : PySem.W.Frag} {H : Hp} {g : Str} {d : D} : ∀ {fs : List Str} {ds : List D} {xs : List V}, RpL K H ds xs → lookF fs ds g = some d → ∃ v, Dl.lookF fs xs g = some v ∧ Rp K H d v
  | [], _, _, _, h => by cases h
  | _ :: _, [], _, _, h => by cases h
  | f :: fs, d' :: ds, _, ⟨y, r, e, h1, h2⟩, h => by
    subst e
    have h : (if g = f then some d' else Dl.lookF fs ds g) = some d := h
    show ∃ v, (if g = f then some y else Dl.lookF fs r g) = some v ∧ _
    by_cases e : g = f
    · rw [if_pos e] at h ⊢
      cases h
      exact ⟨y, rfl, h1⟩
    · rw [if_neg e] at h ⊢
      exact RpL.lookF h2 h
def fldD (cs : List Addr) (name : Str) : D → Option D
  | .ins C fs ds => if cs.contains C then lookF fs ds name else none
  | _ => none
def fldF (cs : List Addr) (name : Str) (f : FE) : FE := fun τ => (f τ).bind fun p => (fldD cs name p.2).map fun d => (p.1 || scal d, d)
def fldB (cs : List Addr) (name : Str) (f : FB) : FB := fun τ => (f τ).bind (fldD cs name)
section
variable {R H0 : Hp} {X : Cx} {e : Expr} {es : List Expr} {pos p : Pos} {n : Nat}
theorem se_fld {f : FE} {cs : List Addr} {name : Str} (hcs : ∀ C ∈ cs, Cls X.K C ∧ NoAttr X.K C name) (h : SE R H0 X e f) (hb : attributeBase e name X.env (eval e X.env) = eval e X.env := by rfl) : SE R H0 X (.Attribute e name pos) (fldF cs name f) := PEmono (pe_fld h hb) fun σ H Q ⟨F, τ, nw, d, r, q, k⟩ => by
  obtain ⟨⟨m, x⟩, e1, q⟩ := bindO q
  obtain ⟨d', e2, q⟩ := mapO q
  cases q
  refine ⟨F, τ, m, x, r, e1, fun v F1 H1 g1 r1 => ?_⟩
  match x, e2, r1 with
  | .ins C fs ds, e2, r1 =>
    obtain ⟨a, dx, xs, ev, ha, hl, rx⟩ := r1
    subst ev
    have e2 : (if cs.contains C then lookF fs ds name else none) = some _ := e2
    split at e2
    · rename_i hC
      obtain ⟨c1, c2⟩ := hcs C (by simpa using hC)
      obtain ⟨v, e3, rv⟩ := rx.lookF e2
      exact ⟨a, C, dx, _, v, rfl, (lv_sub.trans g1.s) _ _ ha, c1, c2, by rw [lookup_zip]; exact e3, k v F1 H1 g1 (lv_scal rv)⟩
    · cases e2
theorem sb_fld {f : FB} {cs : List Addr} {name : Str} (hcs : ∀ C ∈ cs, Cls X.K C ∧ NoAttr X.K C name) (h : SB R H0 X e f) (hb : attributeBase e name X.env (eval e X.env) = eval e X.env := by rfl) : SB R H0 X (.Attribute e name pos) (fldB cs name f) := PEmono (pe_fld h hb) fun σ H Q ⟨F, τ, d, r, q, k⟩ => by
  obtain ⟨x, e1, e2⟩ := bindO q
  refine ⟨F, τ, x, r, e1, fun v F1 H1 g1 r1 => ?_⟩
  match x, e2, r1 with
  | .ins C fs ds, e2, r1 =>
    obtain ⟨a, dx, xs, ev, ha, hl, rx⟩ := r1
    subst ev
    have e2 : (if cs.contains C then lookF fs ds name else none) = some d := e2
    split at e2
    · rename_i hC
      obtain ⟨c1, c2⟩ := hcs C (by simpa using hC)
      obtain ⟨v, e3, rv⟩ := rx.lookF e2
      exact ⟨a, C, dx, _, v, rfl, ha, c1, c2, by rw [lookup_zip]; exact e3, k v F1 H1 g1 rv⟩
    · cases e2
end
/-! ### an __init__: self.f = e, .. -/
def evalI : List (Str × FE) → DS → Option (List D)
  | [], _ => some []
  | p :: gs, τ => (p.2 τ).bind fun x => if x.1 = true then (evalI gs τ).map (x.2 :: ·) else none
def JI (K : PySem.W.Frag) (R H1 : Hp) (C x : Addr) (τ : DS) (σ : L2.St) (fs : List Str) (ds : List D) (F H : Hp) : Prop :=
  RelG K R H1 (fun _ => emp) τ σ F H ∧ σ[0]? = some (some (.ref x)) ∧ ∃ dx xs, H x = some (.ins C dx (fs.zip xs)) ∧ F x = none ∧ H1 x = none ∧ fs.length = xs.length ∧ RpL K (lv true R F) ds xs
def tIs (K : PySem.W.Frag) (R H1 : Hp) (C : Addr) (gs : List (Str × FE)) : TS := fun D σ H => ∃ x τ fs ds F ds', JI K R H1 C x τ σ fs ds F H ∧ (fs ++ gs.map (·.1)).Nodup ∧ fs.length + gs.length < 1000 ∧ evalI gs τ = some ds' ∧
  ∀ F' H', JI K R H1 C x τ σ (fs ++ gs.map (·.1)) (ds ++ ds') F' H' → D.nx σ H'
theorem putF_zip {f : Str} {v : V} : ∀ {fs : List Str} {xs : List V}, f ∉ fs → fs.length = xs.length → putF f v (fs.zip xs) = (fs ++ [f]).zip (xs ++ [v])
  | [], [], _, _ => rfl
  | g :: fs, x :: xs, h, hl => by
    have hl : fs.length = xs.length := by simpa using hl
    rw [List.mem_cons, not_or] at h
    show (if g = f then (g, v) :: fs.zip xs else (g, x) :: putF f v (fs.zip xs)) = (g, x) :: (fs ++ [f]).zip (xs ++ [v])
    rw [if_neg fun z => h.1 z.symm, putF_zip h.2 hl]
section
variable {R H1 : Hp} {X : Cx}
theorem is_nil {C : Addr} : PSs X [] (tIs X.K R H1 C []) := PSsmono pss_nil fun D σ H ⟨x, τ, fs, ds, F, ds', J, _, _, e, k⟩ => by
  cases e
  exact k F H (by rw [List.map_nil, List.append_nil, List.append_nil]; exact J)
theorem is_cons {C : Addr} {s f : Str} {e : Expr} {rest : List Stmt} {fe : FE} {gs : List (Str × FE)} {p p' pos : Pos} (c : Cls X.K C) (na : NoAttr X.K C f) (h : SE R H1 X e fe) (hr : PSs X rest (tIs X.K R H1 C gs))
    (hs : swapsWith e (some (.Attribute (.Name s p) f p')) pos.line X.env = pure false := by rfl) (hN : X.N[0]? = some s := by rfl) (hv : Vis X.env.scope s := by first | exact Or.inl rfl | exact Or.inr (Or.inl rfl) | exact Or.inr (Or.inr rfl)) (hd : (s == ("__debug__" : Str)) = false := by decide) (hcd : (s == ("__classdict__" : Str)) = false := by decide) :
    PSs X (.Assign [.Attribute (.Name s p) f p'] e pos :: rest) (tIs X.K R H1 C ((f, fe) :: gs)) := PSsmono (pss_cons (ps_fld (pe_var hN hv hd hcd) h hs) hr) fun D σ H ⟨x, τ, fs, ds, F, ds', J, nd, hlt, ev, k⟩ => by
  obtain ⟨rg, h0, dx, xs, hx, hF, h1, hl, rx⟩ := J
  obtain ⟨⟨m, d⟩, e1, ev⟩ := bindO (show (fe τ).bind _ = some ds' from ev)
  split at ev
  · rename_i hm
    have hm : m = true := hm
    subst hm
    obtain ⟨ds2, e2, rfl⟩ := mapO ev
    have hnf : f ∉ fs := fun hf => by
      have := List.nodup_append.mp nd
      exact this.2.2 f hf f (by simp) rfl
    refine ⟨F, τ, true, d, ⟨_, rg⟩, e1, fun v F' H' g rv => ?_⟩
    have hx' : H' x = some (.ins C dx (fs.zip xs)) := g.h.at hx fun _ z => nomatch z
    have hF' : F' x = none := by
      cases q : F' x with
      | none => rfl
      | some o =>
        rcases g.n x (by rw [q]; exact fun z => nomatch z) with z | z
        · exact absurd hF z
        · rw [hx] at z; cases z
    refine ⟨.ref x, h0, x, C, dx, _, rfl, hx', c, na, ?_, ?_⟩
    · rw [List.length_zip]
      rw [List.length_cons] at hlt
      omega
    · rw [putF_zip hnf hl]
      have rg2 := rg.grow g
      refine ⟨x, τ, fs ++ [f], ds ++ [d], F', ds2, ⟨⟨⟨rg2.g.f, fun b o eb => ?_, fun b o eb => ?_, rg2.g.n, rg2.g.t⟩, fun i => Reg.emp, rg2.dis, rg2.len, rg2.cell⟩, h0, dx, xs ++ [v], upd_same, hF', h1, by rw [List.length_append, List.length_append, hl]; rfl, RpL.app (RpL.sm (lv_mono g.f) rx) (RpL.one rv)⟩, by rw [List.append_assoc]; exact nd, by rw [List.length_append]; rw [List.length_cons] at hlt; show fs.length + 1 + gs.length < 1000; omega, e2, fun F2 H2 J2 => k F2 H2 (by rw [List.append_assoc, List.append_assoc] at J2; exact J2)⟩
      · have hb : b ≠ x := fun z => by rw [z, h1] at eb; cases eb
        rw [upd_ne hb]
        exact rg2.g.h b o eb
      · have hb : b ≠ x := fun z => by rw [z, hF'] at eb; cases eb
        rw [upd_ne hb]
        exact rg2.g.s b o eb
  · cases ev
end
/-- what an __init__ promises -/
def sInit (K : PySem.W.Frag) (cs : List (Addr × Addr)) (C : Addr) (fs : List Str) (np : Nat) (φs : List D → Option (List D)) : Sp := fun vs H Q E => ∃ (x dx : Addr) (us : List V) (H1 R : Hp) (ds ds' : List D), vs = .ref x :: us ∧ H = upd (upd H1 dx (.own x)) x (.ins C dx []) ∧ H1 x = none ∧ H1 dx = none ∧ dx ≠ x ∧
  us.length = np ∧ Tabs cs H1 ∧ Sm R H1 ∧ NoTbl R ∧ RpL K R ds us ∧ φs ds = some ds' ∧ ∀ F' H' xs dx', Grow R H1 F' H' → H' x = some (.ins C dx' (fs.zip xs)) → F' x = none → fs.length = xs.length → RpL K (lv true R F') ds' xs → Q .non H'
def Oki (P : Program) (w : World) (K : PySem.W.Frag) (mg : Str → Option Value) (base : Heap) (CX : CXT) (cs : List (Addr × Addr)) (k : Nat) (C : Addr) (fs : List Str) (np : Nat) (φs : List D → Option (List D)) : Prop :=
  ∃ (f : Addr) (fd : FuncData) (ps : List Str), Mk K C f ∧ Binds K fd ps [] ∧ FnOk P w K mg base CX k f fd ps (sInit K cs C fs np φs)
def iniD (n : Nat) (gs : List (Str × FE)) (ds : List D) : Option (List D) := evalI gs (none :: startD n ds)
section
variable {P : Program} {w : World} {K : PySem.W.Frag} {mg : Str → Option Value} {base : Heap} {CX : CXT} {cs : List (Addr × Addr)} {k : Nat} {nm qual s0 : Str} {st : Stmt} {N ps : List Str} {C f : Addr} {fd : FuncData}
theorem init_ok {gs : List (Str × FE)} (F : FunD K nm qual (L2.defArgs st) (L2.defBody st) (L2.defScope st) [] [] f fd) (M : Mk K C f) (S : FnScope (s0 :: N) (s0 :: ps) (L2.defScope st)) (hnd : (gs.map (·.1)).Nodup) (hln : gs.length < 1000)
    (hb : ∀ (kV doc pm : Value) (an : Option Addr) (cdv ct : Value) (us : List Value), us.length = (s0 :: ps).length → bindArgs (PySem.W.fnOf nm qual (L2.defArgs st) (L2.defBody st) (L2.defScope st) .none kV doc pm an cdv ct) ⟨us, []⟩ = pure ((s0 :: ps).zip us))
    (hbody : ∀ (cdv : Value) (A : Around) (outer : List Env) (s : Shared) (H : Hp) (E : XK) (R H1 : Hp), Room k (A.deeper (envOfC qual (L2.defScope st) s.heap.objs.size f cdv)) → Sm R H1 → Tabs cs H1 →
      PSs (cxOf CX P w K mg base (s0 :: N) qual (L2.defScope st) f cdv A outer s H E).nox (L2.defBody st) (tIs K R H1 C gs)) : Oki P w K mg base CX cs (k + 1) C (gs.map (·.1)) ps.length (iniD N.length gs) := by
  refine ⟨f, fd, s0 :: ps, M, F.bindsN hb, F.ok S (fun vs H Q E h => ?_) fun cdv A outer s H vs Q E hr h => ?_⟩
  · obtain ⟨x, dx, us, H1, R, ds, ds', rfl, _, _, _, _, hl, _⟩ := h
    rw [List.length_cons, List.length_cons, hl]
  · obtain ⟨x, dx, us, H1, R, ds, ds', rfl, rfl, hx, hdx, hne, hl, hT, sR, tR, rr, ev, fin⟩ := h
    refine ⟨_, (hbody cdv A outer s _ E R H1 hr sR hT).nox, ?_⟩
    have r0 := start_rel (K := K) (N := N) sR tR rr
    obtain ⟨G0, rg0⟩ := r0
    have hx1 : ∀ b o, H1 b = some o → (upd (upd H1 dx (.own x)) x (.ins C dx [])) b = some o := fun b o e => by
      have h1 : b ≠ x := fun z => by rw [z, hx] at e; cases e
      have h2 : b ≠ dx := fun z => by rw [z, hdx] at e; cases e
      rw [upd_ne h1, upd_ne h2]; exact e
    have el : L2.start (s0 :: N) (V.ref x :: us) = some (V.ref x) :: L2.start N us := by
      unfold L2.start
      rw [List.map_cons, List.length_cons, List.length_cons, Nat.add_sub_add_right]
      rfl
    refine ⟨x, none :: startD N.length ds, [], [], R, ds', ⟨⟨⟨.refl, fun b o e => .inl (hx1 b o e), fun b o e => hx1 b o (sR b o e), fun b hb => .inl hb, tR⟩, fun i => Reg.emp, fun i j b _ h => absurd rfl h, ?_, fun i c e => ?_⟩, ?_, dx, [], upd_same, sR.none hx, hx, rfl, rfl⟩, ?_, ?_, ev, fun F' H' J => ?_⟩
    · rw [el, List.length_cons, List.length_cons, rg0.len]
    · cases i with
      | zero => cases e
      | succ i =>
        rw [List.getElem?_cons_succ] at e
        rw [el, List.getElem?_cons_succ]
        have hc : ∃ d, c = .d (scal d) d := by
          unfold startD at e
          by_cases hi : i < ds.length
          · rw [List.getElem?_append_left (by rw [List.length_map]; exact hi), List.getElem?_map] at e
            obtain ⟨d, _, hc⟩ := mapO e
            cases hc
            exact ⟨d, rfl⟩
          · rw [List.getElem?_append_right (by rw [List.length_map]; omega), List.getElem?_replicate] at e
            split at e <;> cases e
        obtain ⟨v, h1, h2⟩ := rg0.cell i c e
        obtain ⟨d, rfl⟩ := hc
        exact ⟨v, h1, h2⟩
    · rw [el]; rfl
    · simpa using hnd
    · simpa using hln
    · obtain ⟨rg, _, dx', xs, hx', hF', _, hl', rx⟩ := J
      exact fin F' H' xs dx' rg.g hx' hF' hl' rx
end
def makeF (C : Addr) (fs : List Str) (φs : List D → Option (List D)) (g : FA) : FC := fun τ => (g τ).bind fun p => (φs p.2).map fun ds => .dp (.ins C fs ds)
section
variable {R H0 : Hp} {X : Cx} {e : Expr} {es : List Expr} {pos p : Pos} {n : Nat} {CX : CXT} {k : Nat} {cs : List (Addr × Addr)} {np : Nat}
theorem sc_make {g : FA} {C : Addr} {x : Str} {fs : List Str} {φs : List D → Option (List D)} (O : Oki X.prog X.w X.K X.mg X.base CX cs k C fs np φs) (hT : Tabs cs H0) (hx : NoE CX) (hr : Room n X.A) (hkn : k + 1 ≤ n) (hm : X.mg x = some (.ref C)) (h : SA R H0 X (e :: es) g) (hlen : ∀ τ p, g τ = some p → p.2.length = np) (hg : Gl X x := by rfl)
    (hdb : (x == ("__debug__" : Str)) = false := by decide) (he : starEach (e :: es) X.env = (false, eval e X.env) :: starEach es X.env := by rfl) (hpl : (backTo pos (starEach es X.env)).any (·.1) = false := by rfl) :
    SC R H0 X (.Call (.Name x p) (e :: es) [] pos) (makeF C fs φs g) := by
  obtain ⟨f, fd, ps, M, hb, F⟩ := O
  refine PEmono (pe_make M F (hr.mono hkn) hg hm hb .nil (pass_of hx) h hdb he hpl) fun σ H Q ⟨F1, τ, c, r, q, kk⟩ => ?_
  obtain ⟨⟨m, ds⟩, e1, q⟩ := bindO q
  obtain ⟨ds', e2, q⟩ := mapO q
  cases q
  refine ⟨F1, τ, m, ds, r, e1, fun vs F2 H2 g1 r1 => fun y dx hy hdx hne => ?_⟩
  have r2 := r.grow g1
  have sR : Sm (lv m R F2) H2 := lv_sub.trans g1.s
  have tR : NoTbl (lv m R F2) := fun b ps e => g1.t b ps (lv_sub b _ e)
  refine ⟨y, dx, vs, H2, lv m R F2, ds, ds', by rw [List.append_nil], rfl, hy, hdx, hne, by rw [← r1.length]; exact hlen τ _ e1, Tabs.ext r2.g.h hT, sR, tR, r1, e2, fun F' H' xs dx' g2 hy' hF hl rx => ⟨rfl, ?_⟩⟩
  have hnew : ∀ {b : Addr}, lv true (lv m R F2) F' b ≠ none → H2 b = none := fun {b} hb => by
    have hn : lv m R F2 b = none := by
      cases z : lv m R F2 b with
      | none => rfl
      | some u =>
        refine absurd ?_ hb
        unfold lv
        rw [if_pos (by simp only [Bool.true_and]; unfold lv at z; rw [z]; rfl)]
    rcases g2.n b (fun z => hb (by
      cases w : lv true (lv m R F2) F' b with
      | none => rfl
      | some u => have := lv_sub b _ w; rw [z] at this; cases this)) with q | q
    · exact absurd hn q
    · exact q
  have hly : lv true (lv m R F2) F' y = none := by
    cases w : lv true (lv m R F2) F' y with
    | none => rfl
    | some u => have := lv_sub y _ w; rw [hF] at this; cases this
  refine kk (.ref y) F2 H' (upd (lv true (lv m R F2) F') y (.ins C dx' (fs.zip xs))) ⟨g1.trans (.heap g1.s g1.t g2.h), fun b o e => ?_, fun b hb => ?_, fun b ps e => ?_⟩ ⟨y, dx', xs, rfl, upd_same, hl, RpL.sm (fun b o e => ?_) rx⟩
  · by_cases hb : b = y
    · subst hb; rw [upd_same] at e; cases e; exact hy'
    · rw [upd_ne hb] at e; exact g2.s b o (lv_sub b o e)
  · by_cases hb2 : b = y
    · subst hb2; exact ⟨g1.s.none hy, g1.h.none hy⟩
    · rw [upd_ne hb2] at hb; exact ⟨g1.s.none (hnew hb), g1.h.none (hnew hb)⟩
  · by_cases hb : b = y
    · subst hb; rw [upd_same] at e; cases e
    · rw [upd_ne hb] at e; exact g2.t b ps (lv_sub b _ e)
  · have hb : b ≠ y := fun z => by rw [z, hly] at e; cases e
    rw [upd_ne hb]; exact e
end
end Dl
end
section
set_option Elab.async false
set_option linter.all false
set_option maxRecDepth 100000
set_option maxHeartbeats 4000000
namespace Dl
open PySem PySem.Spec PyProof.Rows L2 GxR Gx
/-! ### methods, own classes -/
def Okm (P : Program) (w : World) (K : PySem.W.Frag) (mg : Str → Option Value) (base : Heap) (CX : CXT) (cs : List (Addr × Addr)) (k : Nat) (C : Addr) (m : Str) (np : Nat) (φ : Phi) : Prop :=
  ∃ (f : Addr) (fd : FuncData) (ps : List Str), Meth K C m f ∧ Binds K fd ps [] ∧ FnOk P w K mg base CX k f fd ps (spD K cs np φ)
section
variable {P : Program} {w : World} {K : PySem.W.Frag} {mg : Str → Option Value} {base : Heap} {CX : CXT} {cs : List (Addr × Addr)} {k : Nat} {nm qual : Str} {st : Stmt} {N ps : List Str} {C f : Addr} {fd : FuncData} {g : FS}
theorem fnM (F : FunD K nm qual (L2.defArgs st) (L2.defBody st) (L2.defScope st) [] [] f fd) (M : Meth K C nm f) (S : FnScope N ps (L2.defScope st))
    (hb : ∀ (kV doc pm : Value) (an : Option Addr) (cdv ct : Value) (us : List Value), us.length = ps.length → bindArgs (PySem.W.fnOf nm qual (L2.defArgs st) (L2.defBody st) (L2.defScope st) .none kV doc pm an cdv ct) ⟨us, []⟩ = pure (ps.zip us))
    (hbody : ∀ (cdv : Value) (A : Around) (outer : List Env) (s : Shared) (H : Hp) (E : XK) (R : Hp), Room k (A.deeper (envOfC qual (L2.defScope st) s.heap.objs.size f cdv)) → Sm R H → Tabs cs H →
      SSs R H (cxOf CX P w K mg base N qual (L2.defScope st) f cdv A outer s H E).nox (L2.defBody st) g) : Okm P w K mg base CX cs (k + 1) C nm ps.length (phi N.length g) := by
  refine ⟨f, fd, ps, M, F.bindsN hb, F.ok S (fun vs H Q E h => h.1) fun cdv A outer s H vs Q E hr ⟨hl, hT, R, ds, r, sR, tR, rr, e, ok⟩ => ?_⟩
  refine ⟨_, (hbody cdv A outer s H E R hr sR hT).nox, R, startD N.length ds, ?_⟩
  unfold phi at e
  cases q : g (startD N.length ds) with
  | none => rw [q] at e; cases e
  | some o =>
    rw [q] at e
    refine ⟨o, start_rel sR tR rr, rfl, ?_⟩
    cases o with
    | rt nw d => cases e; exact ok
    | nx τ => cases e; exact fun σ' F' H' s r' => ok .non F' H' r'.g rfl
    | bk τ => cases e
    | ct τ => cases e
end
def isIns (C : Addr) (m : Str) : D → Bool
  | .ins C' fs _ => decide (C' = C) && !fs.contains m
  | _ => false
def methC (C : Addr) (m : Str) (φ : Phi) (fo : FE) (g : FA) : FC := fun τ => (fo τ).bind fun p => if isIns C m p.2 = true then callC φ (consA fo g) τ else none
section
variable {R H0 : Hp} {X : Cx} {o e a b : Expr} {es : List Expr} {pos p apos : Pos} {n : Nat} {CX : CXT} {k : Nat} {cs : List (Addr × Addr)} {np : Nat} {φ : Phi}
theorem lookF_none {α : Type} {m : Str} : ∀ {fs : List Str} {xs : List α}, fs.contains m = false → lookF fs xs m = none
  | [], _, _ => rfl
  | _ :: _, [], _ => rfl
  | f :: fs, x :: xs, h => by
    rw [List.contains_cons, Bool.or_eq_false_iff] at h
    have : m ≠ f := fun z => by have := h.1; rw [z] at this; simp at this
    show (if m = f then some x else lookF fs xs m) = none
    rw [if_neg this]
    exact lookF_none h.2
theorem sc_meth {C : Addr} {m : Str} {fo : FE} {g : FA} (O : Okm X.prog X.w X.K X.mg X.base CX cs k C m (np + 1) φ) (cl : Cls X.K C) (hT : Tabs cs H0) (hx : NoE CX) (hr : Room n X.A) (hkn : k ≤ n) (ho : SE R H0 X o fo) (h : SA R H0 X (e :: es) g) (hlen : ∀ τ p, g τ = some p → p.2.length = np)
    (hst : starEach (e :: es) X.env = (false, eval e X.env) :: starEach es X.env := by rfl) (hpl : (backTo pos (starEach es X.env)).any (·.1) = false := by rfl) {pl : Sem Bool}
    (ht : eval (.Call (.Attribute o m apos) (e :: es) [] pos) X.env = (eval o X.env >>= fun ov => standAt apos.atName >>= fun _ => holding [ov] (getMethod ov m pl) >>= fun z => callWith pos z.1 z.2 (backTo pos (starEach (e :: es) X.env)) (backToKw pos (keywordEach [] X.env))) := by rfl) :
    SC R H0 X (.Call (.Attribute o m apos) (e :: es) [] pos) (methC C m φ fo g) := by
  obtain ⟨f, fd, ps, M, hb, F⟩ := O
  refine PEmono (pe_meth ho cl M F (hr.mono hkn) hb .nil (pass_of hx) h hst hpl ht) fun σ H Q ⟨F1, τ, c, r, q, kk⟩ => ?_
  obtain ⟨⟨m0, d0⟩, e0, q1⟩ := bindO q
  split at q1
  · rename_i hi
    obtain ⟨⟨mm, dd⟩, e3, q2⟩ := bindO q1
    obtain ⟨res, e2, q3⟩ := bindO q2
    obtain ⟨x1, e1, e3⟩ := bindO (show (fo τ).bind _ = _ from e3)
    rw [e0] at e1
    cases e1
    obtain ⟨⟨m1, ds⟩, e1, e3⟩ := bindO e3
    cases e3
    refine ⟨F1, τ, m0, d0, r, e0, fun v F2 H2 g1 r1 => ?_⟩
    match d0, hi, r1, e2, q3 with
    | .ins C' fs dz, hi, r1, e2, q3 =>
      obtain ⟨ad, dx, xs, ev, ha, hl, rx⟩ := id r1
      subst ev
      unfold isIns at hi
      rw [Bool.and_eq_true, decide_eq_true_eq, Bool.not_eq_true'] at hi
      obtain ⟨rfl, hf⟩ := hi
      refine ⟨ad, dx, _, rfl, (lv_sub.trans g1.s) _ _ ha, by rw [lookup_zip]; exact lookF_none hf, F2, τ, m1, ds, r.grow g1, e1, fun vs F3 H3 g2 r2 => ?_⟩
      show spD X.K cs (np + 1) φ (V.ref ad :: (vs ++ [])) H3 Q E0
      rw [List.append_nil]
      have r3 : RpL X.K (lv (m0 && m1) R F3) (.ins C' fs dz :: ds) (V.ref ad :: vs) := ⟨_, _, rfl, Rp.sm ((lv_mono g2.f).trans lv_and) r1, RpL.sm lv_and' r2⟩
      refine call_core (ds := .ins C' fs dz :: ds) (m := m0 && m1) hT ?_ r (g1.trans g2) r3 e2 q3 kk
      rw [List.length_cons, ← r2.length, hlen τ _ e1]
  · cases q1
def isBl : D → D → Option Bool
  | .bl a, .bl b => some (decide (a = b))
  | _, _ => none
def notBl : D → D → Option Bool
  | .bl a, .bl b => some (!decide (a = b))
  | _, _ => none
theorem c_isBl {f g : FB} (ha : SB R H0 X a f) (hb : SB R H0 X b g) : ST R H0 X (.Compare a [.Is] [b] pos) (bi f g isBl) ∧ SE R H0 X (.Compare a [.Is] [b] pos) (blE (bi f g isBl)) :=
  cmp_of op_isBl (nomark _) (fun x y z e F H v u Q _ r1 r2 q => by
    match x, y, e, r1, r2 with
    | .bl x, .bl y, e, r1, r2 => cases e; exact ⟨x, y, r1, r2, q⟩) ha hb
theorem c_notBl {f g : FB} (ha : SB R H0 X a f) (hb : SB R H0 X b g) : ST R H0 X (.Compare a [.IsNot] [b] pos) (bi f g notBl) ∧ SE R H0 X (.Compare a [.IsNot] [b] pos) (blE (bi f g notBl)) :=
  cmp_of op_notBl (nomark _) (fun x y z e F H v u Q _ r1 r2 q => by
    match x, y, e, r1, r2 with
    | .bl x, .bl y, e, r1, r2 => cases e; exact ⟨x, y, r1, r2, q⟩) ha hb
theorem lookup_memA {C : Addr} {b : Bool} : ∀ {tb : List (Addr × Bool)}, tb.lookup C = some b → (C, b) ∈ tb
  | (D, x) :: tb, h => by
    by_cases e : C = D
    · subst e
      simp [List.lookup] at h
      subst h
      exact List.mem_cons_self ..
    · have e2 : (C == D) = false := by simpa using e
      simp [List.lookup, e2] at h
      exact List.mem_cons_of_mem _ (lookup_memA h)
/-- isinstance(x, C): x an instance of one of the classes of the table -/
structure IsF (K : PySem.W.Frag) (C : Addr) : Prop where
  cl : Cls K C
  ha : PySem.W.findIn K (.ref C) "__class__" = some (some (.builtin "object.__class__"))
  hn : PySem.W.specialIn K (.builtin "object.__class__") "__get__" = some (some (.builtin "getset_descriptor.__get__"))
  htk : PySem.W.takesIn K (.builtin "object.__class__") = some true
  hm : PySem.W.mroIn K C (.type "object") = some true
def isC (tb : List (Addr × Bool)) : D → Option (Bool × D)
  | .ins C _ _ => (tb.lookup C).map fun b => (true, .bl b)
  | _ => none
theorem se_isC {f : FB} {x : Str} {C : Addr} {p2 : Pos} {tb : List (Addr × Bool)} (hg : Gl X "isinstance") (hm : X.mg "isinstance" = none) (h : SB R H0 X a f) (hg2 : Gl X x) (hm2 : X.mg x = some (.ref C)) (htb : ∀ q ∈ tb, IsF X.K q.1 ∧ PySem.W.kitOne X.K (.ref q.1) (.ref C) = some q.2) (hd : (x == ("__debug__" : Str)) = false := by decide)
    (he : starEach [a, .Name x p2] X.env = (false, eval a X.env) :: starEach [.Name x p2] X.env := by rfl) : SE R H0 X (.Call (.Name "isinstance" p) [a, .Name x p2] [] pos) (un1 f (isC tb)) :=
  PEmono (pe_callB call_isi hg hm (by decide +kernel) (pa_cons h (pa_cons (pe_glob (v := .ref C) hg2 hm2 rfl hd) pa_nil (by rfl)) he) (by decide) (by decide) he (by rfl)) fun σ H Q ⟨F, τ, nw, d, r, q, k⟩ => by
  obtain ⟨y, e1, q⟩ := un1_some q
  refine ⟨F, τ, y, r, e1, fun v F1 H1 g1 r1 => ?_⟩
  match y, q, r1 with
  | .ins C' fs ds, q, r1 =>
    obtain ⟨ad, dx, xs, ev, ha, hl, rx⟩ := r1
    subst ev
    obtain ⟨b, e2, q⟩ := mapO (show (tb.lookup C').map _ = some (nw, d) from q)
    cases q
    obtain ⟨i, kt⟩ := htb (C', b) (lookup_memA e2)
    exact ⟨.ref ad, .ref C, .ref C', .ref C, b, rfl, .own _, .base (.ins ha i.cl i.ha i.hn i.htk i.hm), kt, k _ F1 H1 g1 rfl⟩
end
end Dl
namespace Dl
open PySem PySem.Spec PyProof.Rows L2 GxR Gx
/-! ### facts, defs within classes, a def that calls itself -/
def isfB (K : PySem.W.Frag) (C : Addr) : Bool := decide (PySem.W.findIn K (.ref C) "__class__" = some (some (.builtin "object.__class__"))) && (decide (PySem.W.specialIn K (.builtin "object.__class__") "__get__" = some (some (.builtin "getset_descriptor.__get__"))) &&
  (decide (PySem.W.takesIn K (.builtin "object.__class__") = some true) && decide (PySem.W.mroIn K C (.type "object") = some true)))
theorem isfB_ok {K : PySem.W.Frag} {C : Addr} (c : Cls K C) (h : isfB K C = true) : IsF K C := by
  unfold isfB at h
  simp only [Bool.and_eq_true, decide_eq_true_eq] at h
  exact ⟨c, h.1, h.2.1, h.2.2.1, h.2.2.2⟩
def kitB (K : PySem.W.Frag) (C D : Addr) (b : Bool) : Bool := decide (PySem.W.kitOne K (.ref C) (.ref D) = some b)
theorem kitB_ok {K : PySem.W.Frag} {C D : Addr} {b : Bool} (h : kitB K C D b = true) : PySem.W.kitOne K (.ref C) (.ref D) = some b := of_decide_eq_true h
def inS (s : Stmt) (j : Nat) : Stmt := match s with
  | .ClassDef _ _ _ body _ _ _ _ _ _ _ => body.getD j (.Pass ⟨0, 0, 0, 0⟩)
  | _ => .Pass ⟨0, 0, 0, 0⟩
end Dl
end
section
set_option Elab.async false
set_option linter.all false
set_option maxRecDepth 100000
set_option maxHeartbeats 4000000
namespace Dl
open PySem PySem.Spec PyProof.Rows L2 GxR Gx
/-! ### tuples that are walked -/
def itemsT : (Bool × D) → Option (List (Bool × D))
  | (n, .tup ds) => some (flag n ds)
  | _ => none
theorem sqt_tup {K : PySem.W.Frag} {H : Hp} {a : Addr} {xs : List V} (h : H a = some (.tup xs)) : SqT K H a xs := .inl (.inl h)
section
variable {K : PySem.W.Frag} {R H0 : Hp}
theorem ii_tup {f : FE} : IiOk K R H0 (iTup K (tSE K R H0 f)) (un1 f itemsT) := fun σ H F τ items r e Rk hk => by
  obtain ⟨⟨n, x⟩, e1, e2⟩ := un1_some e
  match x, e2 with
  | .tup ds, e2 =>
    have e2 : some (flag n ds) = some items := e2
    cases e2
    refine ⟨F, τ, n, .tup ds, r, e1, fun v F1 H1 g1 r1 => ?_⟩
    obtain ⟨a, xs, rfl, hx, q1⟩ := r1
    have hx1 : F1 a = some (.tup xs) := lv_sub _ _ hx
    refine ⟨a, rfl, ⟨xs, sqt_tup (g1.s _ _ hx1)⟩, hk _ F1 H1 g1 fun i F' H' s1 s2 t2 sR => ⟨fun p hp => ?_, fun hl => ?_⟩⟩
    · obtain ⟨d, hd, rfl⟩ := flag_get hp
      obtain ⟨y, hy, ry⟩ := q1.get hd
      have hH : SqT K H' a xs := sqt_tup (s2 _ _ (s1 _ _ hx1))
      refine ⟨⟨xs, y, hH, hy⟩, fun x H'' yl => ?_⟩
      obtain ⟨rfl, yl⟩ := yl
      have := yl xs hH
      rw [hy] at this
      cases this
      exact ⟨F', .refl s2 t2, lv_scal (Rp.sm (lv_mono s1) ry)⟩
    · refine ⟨xs, sqt_tup (s2 _ _ (s1 _ _ hx1)), ?_⟩
      unfold flag at hl
      rw [List.length_map] at hl
      rw [← q1.length]; exact hl
end
end Dl
end
section
set_option Elab.async false
set_option linter.all false
set_option maxRecDepth 100000
set_option maxHeartbeats 4000000

namespace K06
open PySem PySem.Spec PyProof.Rows L2 GxR Gx Dl

def topS (i : Nat) : Stmt := PySem.Challenge.pw_patchlay_k06_whole_made.main.body.getD i (.Pass ⟨0, 0, 0, 0⟩)
section
variable {P : Program} {w : World} {K : PySem.W.Frag} {mg : Str → Option Value} {base : Heap} {CX : CXT} {cs : List (Addr × Addr)} {c Pt : Addr} {CA : Str → Addr}
abbrev s_end_of : Stmt := topS 5
theorem sc_end_of : FnScope ["piece"] ["piece"] (L2.defScope s_end_of) := ⟨rfl, rfl, rfl, by decide +kernel, rfl, by decide +kernel, by decide +kernel⟩
def g_end_of : FS :=
  (retF (mp (bi (xvE 0 (fun _ => some (true, D.int 0))) (un1 (bi (vB 0) (mp (fun _ => some (true, D.int 1)) (·.2)) itemB) lenD) addC) frz))
def φ_end_of : Phi := phi 1 g_end_of
theorem ok_end_of (hx : NoE CX) (Df : Def K mg c "end_of" s_end_of ["piece"]) (m_len : mg "len" = none) : Okd P w K mg base CX cs 2 "end_of" 1 φ_end_of :=
  have sc := sc_end_of
  fnD (k := 1) Df sc fun f A outer s H E R hr sR hT => (sss_one (ss_ret (se_sc (sc_add (se_ixv 0 se_int) (se_len (by rfl) m_len (sb_ix (sb_var 0) (sb_se se_int)))) sR)))
abbrev s_first_missing : Stmt := topS 6
theorem sc_first_missing : FnScope ["page", "piece", "place", "takes", "_", "at", "line"] ["page", "piece"] (L2.defScope s_first_missing) := ⟨rfl, rfl, rfl, by decide +kernel, rfl, by decide +kernel, by decide +kernel⟩
def tg_first_missing_1 : TgD :=
  (tupT (consT (nameT 5) (consT (nameT 6) nilT)))
def lb_first_missing_1 : FS :=
  (ifF (orF (bi (mp (mp (bi (vE 2) (vE 5) addC) frz) (·.2)) (mp (un1 (vB 0) lenD) (·.2)) (cI ge2)) (bi (bi (vB 0) (mp (mp (bi (vE 2) (vE 5) addC) frz) (·.2)) itemB) (vB 6) neD)) (retF (vE 5)) nxF)
def g_first_missing : FS :=
  (seqF (unpF (vE 1) (orT (tupT (consT (nameT 2) (consT (nameT 3) (consT (nameT 4) nilT)))) (unlT (consT (nameT 2) (consT (nameT 3) (consT (nameT 4) nilT))))))
  (seqF (ifF (bi (vB 2) (mp (un1 (vB 0) lenD) (·.2)) (cI gt2)) (retF (fun _ => some (true, D.int 0))) nxF)
  (seqF (forF (un1 (consA (vE 3) nilA) enumF) tg_first_missing_1 lb_first_missing_1)
  (retF (fun _ => some (true, D.non))))))
def φ_first_missing : Phi := phi 7 g_first_missing
theorem ok_first_missing (hx : NoE CX) (Df : Def K mg c "first_missing" s_first_missing ["page", "piece"]) (m_enumerate : mg "enumerate" = none) (m_len : mg "len" = none) : Okd P w K mg base CX cs 2 "first_missing" 2 φ_first_missing :=
  have sc := sc_first_missing
  fnD (k := 1) Df sc fun f A outer s H E R hr sR hT => (sss_cons (ss_unpack (se_var 1) (pg_or (pg_tup (n := 3) rfl (pgs_cons (pg_name (i := 2) sc.nd rfl (by first | exact Or.inl rfl | exact Or.inr rfl)) (pgs_cons (pg_name (i := 3) sc.nd rfl (by first | exact Or.inl rfl | exact Or.inr rfl)) (pgs_cons (pg_name (i := 4) sc.nd rfl (by first | exact Or.inl rfl | exact Or.inr rfl)) pgs_nil)))) (pg_unl (n := 3) rfl (pgs_cons (pg_name (i := 2) sc.nd rfl (by first | exact Or.inl rfl | exact Or.inr rfl)) (pgs_cons (pg_name (i := 3) sc.nd rfl (by first | exact Or.inl rfl | exact Or.inr rfl)) (pgs_cons (pg_name (i := 4) sc.nd rfl (by first | exact Or.inl rfl | exact Or.inr rfl)) pgs_nil))))) (tg_or (tg_tup (tgs_cons (tg_name 2) (tgs_cons (tg_name 3) (tgs_cons (tg_name 4) tgs_nil))) (ar_cons (ar_cons (ar_cons ar_nil)))) (tg_unl (tgs_cons (tg_name 2) (tgs_cons (tg_name 3) (tgs_cons (tg_name 4) tgs_nil))) (ar_cons (ar_cons (ar_cons ar_nil))))))
  (sss_cons (ss_if (c_gt (sb_var 2) (sb_se (se_len (by rfl) m_len (sb_var 0)))).1
  (sss_one (ss_ret se_int))
  sss_nil)
  (sss_cons (ss_for PassesOwn.never rfl (pi_enum (by rfl) m_enumerate (sa_cons (se_var 3) sa_nil)) ii_enum (pg_tup (n := 2) rfl (pgs_cons (pg_name (i := 5) sc.nd rfl (by first | exact Or.inl rfl | exact Or.inr rfl)) (pgs_cons (pg_name (i := 6) sc.nd rfl (by first | exact Or.inl rfl | exact Or.inr rfl)) pgs_nil))) (tg_tup (tgs_cons (tg_name 5) (tgs_cons (tg_name 6) tgs_nil)) (ar_cons (ar_cons ar_nil)))
  (sss_one (ss_if (st_w (sw_or (c_ge (sb_se (se_sc (sc_add (se_var 2) (se_var 5)) sR)) (sb_se (se_len (by rfl) m_len (sb_var 0)))).1 (sw_or1 (c_ne hr (sb_ix (sb_var 0) (sb_se (se_sc (sc_add (se_var 2) (se_var 5)) sR))) (sb_var 6)).1)))
  (sss_one (ss_ret (se_var 5)))
  sss_nil)))
  (sss_one (ss_ret se_non)))))
abbrev s_first_unfit : Stmt := topS 7
theorem sc_first_unfit : FnScope ["page", "change", "at", "piece", "line"] ["page", "change"] (L2.defScope s_first_unfit) := ⟨rfl, rfl, rfl, by decide +kernel, rfl, by decide +kernel, by decide +kernel⟩
def tg_first_unfit_1 : TgD :=
  (tupT (consT (nameT 2) (consT (nameT 3) nilT)))
def lb_first_unfit_1 : FS :=
  (seqF (setF 4 (callC φ_first_missing (consA (vE 0) (consA (vE 3) nilA))))
  (ifF (bi (vB 4) (mp (fun _ => some (true, D.non)) (·.2)) notN) (fzF [4] (retF (un1 (consA (vE 2) (consA (vE 4) nilA)) tupD))) nxF))
def g_first_unfit : FS :=
  (seqF (forF (un1 (consA (vE 1) nilA) enumF) tg_first_unfit_1 lb_first_unfit_1)
  (retF (fun _ => some (true, D.non))))
def φ_first_unfit : Phi := phi 5 g_first_unfit
theorem ok_first_unfit (hx : NoE CX) (Df : Def K mg c "first_unfit" s_first_unfit ["page", "change"]) (O_first_missing : Okd P w K mg base CX cs 2 "first_missing" 2 φ_first_missing) (m_enumerate : mg "enumerate" = none) : Okd P w K mg base CX cs 3 "first_unfit" 2 φ_first_unfit :=
  have sc := sc_first_unfit
  fnD (k := 2) Df sc fun f A outer s H E R hr sR hT => (sss_cons (ss_for PassesOwn.never rfl (pi_enum (by rfl) m_enumerate (sa_cons (se_var 1) sa_nil)) ii_enum (pg_tup (n := 2) rfl (pgs_cons (pg_name (i := 2) sc.nd rfl (by first | exact Or.inl rfl | exact Or.inr rfl)) (pgs_cons (pg_name (i := 3) sc.nd rfl (by first | exact Or.inl rfl | exact Or.inr rfl)) pgs_nil))) (tg_tup (tgs_cons (tg_name 2) (tgs_cons (tg_name 3) tgs_nil)) (ar_cons (ar_cons ar_nil)))
  (sss_cons (ss_set 4 sc.nd (sc_fn O_first_missing hT hx hr (by decide) (sa_cons (se_var 0) (sa_cons (se_var 3) sa_nil)) (len_consA (len_consA (fun _ _ h => len_nilA h)))))
  (sss_one (ss_if (c_notN (sb_var 4) (sb_se se_non)).1
  (sss_one (ss_fz [4] sR (ss_ret (se_tup (sa_cons (se_var 2) (sa_cons (se_var 4) sa_nil))))))
  sss_nil))))
  (sss_one (ss_ret se_non)))
abbrev s_replaced : Stmt := topS 8
theorem sc_replaced : FnScope ["page", "change", "told", "at", "place", "takes", "puts"] ["page", "change"] (L2.defScope s_replaced) := ⟨rfl, rfl, rfl, by decide +kernel, rfl, by decide +kernel, by decide +kernel⟩
def tg_replaced_1 : TgD :=
  (tupT (consT (nameT 4) (consT (nameT 5) (consT (nameT 6) nilT))))
def lb_replaced_1 : FS :=
  (seqF (ownF 2 (consA (mp (slF (vE 0) (un1 (vB 3) intO) (un1 (vB 4) intO) cutC) frz) nilA) extOp)
  (seqF (ownF 2 (consA (vE 6) nilA) extOp)
  (setF 3 (bi (vE 4) (un1 (vB 5) lenD) addC))))
def g_replaced : FS :=
  (seqF (setF 2 (un1 nilA ownC))
  (seqF (setF 3 (mp (fun _ => some (true, D.int 0)) dC))
  (seqF (forF (un1 (vE 1) itemsE) tg_replaced_1 lb_replaced_1)
  (seqF (ownF 2 (consA (mp (slF (vE 0) (un1 (vB 3) intO) (fun _ => some none) cutC) frz) nilA) extOp)
  (fzF [2] (retF (vE 2)))))))
def φ_replaced : Phi := phi 7 g_replaced
theorem ok_replaced (hx : NoE CX) (Df : Def K mg c "replaced" s_replaced ["page", "change"]) (m_len : mg "len" = none) : Okd P w K mg base CX cs 2 "replaced" 2 φ_replaced :=
  have sc := sc_replaced
  fnD (k := 1) Df sc fun f A outer s H E R hr sR hT => (sss_cons (ss_set 2 sc.nd (sc_lst sa_nil))
  (sss_cons (ss_set 3 sc.nd (sc_se se_int))
  (sss_cons (ss_for PassesOwn.never rfl (pi_list (se_var 1)) ii_list (pg_tup (n := 3) rfl (pgs_cons (pg_name (i := 4) sc.nd rfl (by first | exact Or.inl rfl | exact Or.inr rfl)) (pgs_cons (pg_name (i := 5) sc.nd rfl (by first | exact Or.inl rfl | exact Or.inr rfl)) (pgs_cons (pg_name (i := 6) sc.nd rfl (by first | exact Or.inl rfl | exact Or.inr rfl)) pgs_nil)))) (tg_tup (tgs_cons (tg_name 4) (tgs_cons (tg_name 5) (tgs_cons (tg_name 6) tgs_nil))) (ar_cons (ar_cons (ar_cons ar_nil))))
  (sss_cons (ss_extend 2 (sa_cons (se_sc (sc_slice (se_var 0) (so_some (sb_var 3)) (so_some (sb_var 4))) sR) sa_nil))
  (sss_cons (ss_extend 2 (sa_cons (se_var 6) sa_nil))
  (sss_one (ss_set 3 sc.nd (sc_add (se_var 4) (se_len (by rfl) m_len (sb_var 5))))))))
  (sss_cons (ss_extend 2 (sa_cons (se_sc (sc_slice (se_var 0) (so_some (sb_var 3)) so_none) sR) sa_nil))
  (sss_one (ss_fz [2] sR (ss_ret (se_var 2))))))))
abbrev s_is_number : Stmt := topS 11
theorem sc_is_number : FnScope ["value"] ["value"] (L2.defScope s_is_number) := ⟨rfl, rfl, rfl, by decide +kernel, rfl, by decide +kernel, by decide +kernel⟩
def g_is_number : FS :=
  (retF (andE (un1 (vB 0) (isiE .int)) (un1 (mp (un1 (vB 0) (isiE .bool)) (·.2)) notD)))
def φ_is_number : Phi := phi 1 g_is_number
theorem ok_is_number (hx : NoE CX) (Df : Def K mg c "is_number" s_is_number ["value"]) (m_bool : mg "bool" = none) (m_int : mg "int" = none) (m_isinstance : mg "isinstance" = none) : Okd P w K mg base CX cs 2 "is_number" 1 φ_is_number :=
  have sc := sc_is_number
  fnD (k := 1) Df sc fun f A outer s H E R hr sR hT => (sss_one (ss_ret (se_andV (se_isi .int (by rfl) m_isinstance (sb_var 0) (by rfl) m_int (by decide +kernel)) (se_one (se_not (sb_se (se_isi .bool (by rfl) m_isinstance (sb_var 0) (by rfl) m_bool (by decide +kernel))))))))
abbrev s_is_line : Stmt := topS 12
theorem sc_is_line : FnScope ["value"] ["value"] (L2.defScope s_is_line) := ⟨rfl, rfl, rfl, by decide +kernel, rfl, by decide +kernel, by decide +kernel⟩
def g_is_line : FS :=
  (retF (andE (un1 (vB 0) (isiE .str)) (andE (un1 (vB 0) asciiD) (un1 (vB 0) printD))))
def φ_is_line : Phi := phi 1 g_is_line
theorem ok_is_line (hx : NoE CX) (Df : Def K mg c "is_line" s_is_line ["value"]) (m_isinstance : mg "isinstance" = none) (m_str : mg "str" = none) : Okd P w K mg base CX cs 2 "is_line" 1 φ_is_line :=
  have sc := sc_is_line
  fnD (k := 1) Df sc fun f A outer s H E R hr sR hT => (sss_one (ss_ret (se_andV (se_isi .str (by rfl) m_isinstance (sb_var 0) (by rfl) m_str (by decide +kernel)) (se_andV (se_isascii (sb_var 0)) (se_one (se_isprint (sb_var 0)))))))
abbrev s_are_lines : Stmt := topS 13
theorem sc_are_lines : FnScope ["value", "line"] ["value"] (L2.defScope s_are_lines) := ⟨rfl, rfl, rfl, by decide +kernel, rfl, by decide +kernel, by decide +kernel⟩
def tg_are_lines_1 : TgD :=
  (nameT 1)
def el_are_lines_1 : FE :=
  (mp (callC φ_is_line (consA (vE 1) nilA)) frz)
def g_are_lines : FS :=
  (retF (andE (un1 (vB 0) (isiE .list)) (allF (un1 (vE 0) itemsE) ([("line", 1)].map (·.2)) tg_are_lines_1 (fun _ => some true) el_are_lines_1)))
def φ_are_lines : Phi := phi 2 g_are_lines
theorem ok_are_lines (hx : NoE CX) (Df : Def K mg c "are_lines" s_are_lines ["value"]) (O_is_line : Okd P w K mg base CX cs 2 "is_line" 1 φ_is_line) (m_all : mg "all" = none) (m_isinstance : mg "isinstance" = none) (m_list : mg "list" = none) (hP : (c, Pt) ∈ cs) (TB : TabB base mg c Pt) : Okd P w K mg base CX cs 4 "are_lines" 1 φ_are_lines :=
  have sc := sc_are_lines
  fnD (k := 3) Df sc fun f A outer s H E R hr sR hT => (sss_one (ss_ret (se_andV (se_isi .list (by rfl) m_isinstance (sb_var 0) (by rfl) m_list (by decide +kernel)) (se_one (se_allG (own := [("line", 1)]) (k := 2) hT hP hr rfl sc.nd (by rfl) m_all TB (by rfl) (blkOk_by (by rfl)) (by decide +kernel) (by decide +kernel) rfl (pi_list (se_var 0)) ii_list (fun _ _ _ _ _ _ _ hr1 => (pg_name (i := 1) sc.nd rfl (by first | exact Or.inl rfl | exact Or.inr rfl))) (tg_name 1) (by decide) (fun _ _ _ _ _ _ _ hr1 => pts_nil) tt_yes (fun _ _ _ _ _ _ _ hr1 => (se_sc (sc_fn O_is_line hT hx hr1 (by decide) (sa_cons (se_var 1) sa_nil) (len_consA (fun _ _ h => len_nilA h))) sR)))))))
abbrev s_is_page : Stmt := topS 14
theorem sc_is_page : FnScope ["value"] ["value"] (L2.defScope s_is_page) := ⟨rfl, rfl, rfl, by decide +kernel, rfl, by decide +kernel, by decide +kernel⟩
def g_is_page : FS :=
  (retF (andE (mp (callC φ_are_lines (consA (vE 0) nilA)) frz) (blE (bi (mp (un1 (vB 0) lenD) (·.2)) (mp (fun _ => some (true, D.int 2000)) (·.2)) (cI le2)))))
def φ_is_page : Phi := phi 1 g_is_page
theorem ok_is_page (hx : NoE CX) (Df : Def K mg c "is_page" s_is_page ["value"]) (O_are_lines : Okd P w K mg base CX cs 4 "are_lines" 1 φ_are_lines) (m_len : mg "len" = none) {t_MOST_PAGE_LINES : Tok} (g_MOST_PAGE_LINES : mg "MOST_PAGE_LINES" = some (.int 2000 t_MOST_PAGE_LINES)) : Okd P w K mg base CX cs 5 "is_page" 1 φ_is_page :=
  have sc := sc_is_page
  fnD (k := 4) Df sc fun f A outer s H E R hr sR hT => (sss_one (ss_ret (se_andV (se_sc (sc_fn O_are_lines hT hx hr (by decide) (sa_cons (se_var 0) sa_nil) (len_consA (fun _ _ h => len_nilA h))) sR) (se_one (c_le (sb_se (se_len (by rfl) m_len (sb_var 0))) (sb_se (se_gint (i := 2000) (by rfl) g_MOST_PAGE_LINES))).2))))
abbrev s_is_piece : Stmt := topS 15
theorem sc_is_piece : FnScope ["value", "place", "takes", "puts"] ["value"] (L2.defScope s_is_piece) := ⟨rfl, rfl, rfl, by decide +kernel, rfl, by decide +kernel, by decide +kernel⟩
def g_is_piece : FS :=
  (seqF (ifF (orF (mp (un1 (mp (un1 (vB 0) (isiE .tuple)) (·.2)) boolD) (!·)) (bi (mp (un1 (vB 0) lenD) (·.2)) (mp (fun _ => some (true, D.int 3)) (·.2)) neD)) (retF (fun _ => some (true, D.bl false))) nxF)
  (seqF (unpF (vE 0) (orT (tupT (consT (nameT 1) (consT (nameT 2) (consT (nameT 3) nilT)))) (unlT (consT (nameT 1) (consT (nameT 2) (consT (nameT 3) nilT))))))
  (seqF (ifF (orF (mp (un1 (mp (mp (callC φ_is_number (consA (vE 1) nilA)) frz) (·.2)) boolD) (!·)) (bi (vB 1) (mp (fun _ => some (true, D.int 0)) (·.2)) (cI lt2))) (retF (fun _ => some (true, D.bl false))) nxF)
  (retF (andE (mp (callC φ_are_lines (consA (vE 2) nilA)) frz) (andE (mp (callC φ_are_lines (consA (vE 3) nilA)) frz) (blE (bi (mp (mp (bi (un1 (vB 2) lenD) (un1 (vB 3) lenD) addC) frz) (·.2)) (mp (fun _ => some (true, D.int 0)) (·.2)) (cI gt2)))))))))
def φ_is_piece : Phi := phi 4 g_is_piece
theorem ok_is_piece (hx : NoE CX) (Df : Def K mg c "is_piece" s_is_piece ["value"]) (O_is_number : Okd P w K mg base CX cs 2 "is_number" 1 φ_is_number) (O_are_lines : Okd P w K mg base CX cs 4 "are_lines" 1 φ_are_lines) (m_isinstance : mg "isinstance" = none) (m_len : mg "len" = none) (m_tuple : mg "tuple" = none) : Okd P w K mg base CX cs 5 "is_piece" 1 φ_is_piece :=
  have sc := sc_is_piece
  fnD (k := 4) Df sc fun f A outer s H E R hr sR hT => (sss_cons (ss_if (st_w (sw_or (st_not (st_val (sb_se (se_isi .tuple (by rfl) m_isinstance (sb_var 0) (by rfl) m_tuple (by decide +kernel))))) (sw_or1 (c_ne hr (sb_se (se_len (by rfl) m_len (sb_var 0))) (sb_se se_int)).1)))
  (sss_one (ss_ret se_bl))
  sss_nil)
  (sss_cons (ss_unpack (se_var 0) (pg_or (pg_tup (n := 3) rfl (pgs_cons (pg_name (i := 1) sc.nd rfl (by first | exact Or.inl rfl | exact Or.inr rfl)) (pgs_cons (pg_name (i := 2) sc.nd rfl (by first | exact Or.inl rfl | exact Or.inr rfl)) (pgs_cons (pg_name (i := 3) sc.nd rfl (by first | exact Or.inl rfl | exact Or.inr rfl)) pgs_nil)))) (pg_unl (n := 3) rfl (pgs_cons (pg_name (i := 1) sc.nd rfl (by first | exact Or.inl rfl | exact Or.inr rfl)) (pgs_cons (pg_name (i := 2) sc.nd rfl (by first | exact Or.inl rfl | exact Or.inr rfl)) (pgs_cons (pg_name (i := 3) sc.nd rfl (by first | exact Or.inl rfl | exact Or.inr rfl)) pgs_nil))))) (tg_or (tg_tup (tgs_cons (tg_name 1) (tgs_cons (tg_name 2) (tgs_cons (tg_name 3) tgs_nil))) (ar_cons (ar_cons (ar_cons ar_nil)))) (tg_unl (tgs_cons (tg_name 1) (tgs_cons (tg_name 2) (tgs_cons (tg_name 3) tgs_nil))) (ar_cons (ar_cons (ar_cons ar_nil))))))
  (sss_cons (ss_if (st_w (sw_or (st_not (st_val (sb_se (se_sc (sc_fn O_is_number hT hx hr (by decide) (sa_cons (se_var 1) sa_nil) (len_consA (fun _ _ h => len_nilA h))) sR)))) (sw_or1 (c_lt (sb_var 1) (sb_se se_int)).1)))
  (sss_one (ss_ret se_bl))
  sss_nil)
  (sss_one (ss_ret (se_andV (se_sc (sc_fn O_are_lines hT hx hr (by decide) (sa_cons (se_var 2) sa_nil) (len_consA (fun _ _ h => len_nilA h))) sR) (se_andV (se_sc (sc_fn O_are_lines hT hx hr (by decide) (sa_cons (se_var 3) sa_nil) (len_consA (fun _ _ h => len_nilA h))) sR) (se_one (c_gt (sb_se (se_sc (sc_add (se_len (by rfl) m_len (sb_var 2)) (se_len (by rfl) m_len (sb_var 3))) sR)) (sb_se se_int)).2))))))))
abbrev s_are_apart : Stmt := topS 16
theorem sc_are_apart : FnScope ["pieces", "ahead", "piece"] ["pieces"] (L2.defScope s_are_apart) := ⟨rfl, rfl, rfl, by decide +kernel, rfl, by decide +kernel, by decide +kernel⟩
def tg_are_apart_1 : TgD :=
  (tupT (consT (nameT 1) (consT (nameT 2) nilT)))
def lb_are_apart_1 : FS :=
  (ifF (bi (bi (vB 2) (mp (fun _ => some (true, D.int 0)) (·.2)) itemB) (mp (mp (callC φ_end_of (consA (vE 1) nilA)) frz) (·.2)) (cI le2)) (retF (fun _ => some (true, D.bl false))) nxF)
def g_are_apart : FS :=
  (seqF (forF (un1 (consA (vE 0) (consA (mp (slF (vE 0) (un1 (mp (fun _ => some (true, D.int 1)) (·.2)) intO) (fun _ => some none) cutC) frz) nilA)) zipF) tg_are_apart_1 lb_are_apart_1)
  (retF (fun _ => some (true, D.bl true))))
def φ_are_apart : Phi := phi 3 g_are_apart
theorem ok_are_apart (hx : NoE CX) (Df : Def K mg c "are_apart" s_are_apart ["pieces"]) (O_end_of : Okd P w K mg base CX cs 2 "end_of" 1 φ_end_of) (m_zip : mg "zip" = none) : Okd P w K mg base CX cs 3 "are_apart" 1 φ_are_apart :=
  have sc := sc_are_apart
  fnD (k := 2) Df sc fun f A outer s H E R hr sR hT => (sss_cons (ss_for PassesOwn.never rfl (pi_zip (by rfl) m_zip (sa_cons (se_var 0) (sa_cons (se_sc (sc_slice (se_var 0) (so_some (sb_se se_int)) so_none) sR) sa_nil))) ii_zip (pg_tup (n := 2) rfl (pgs_cons (pg_name (i := 1) sc.nd rfl (by first | exact Or.inl rfl | exact Or.inr rfl)) (pgs_cons (pg_name (i := 2) sc.nd rfl (by first | exact Or.inl rfl | exact Or.inr rfl)) pgs_nil))) (tg_tup (tgs_cons (tg_name 1) (tgs_cons (tg_name 2) tgs_nil)) (ar_cons (ar_cons ar_nil)))
  (sss_one (ss_if (c_le (sb_ix (sb_var 2) (sb_se se_int)) (sb_se (se_sc (sc_fn O_end_of hT hx hr (by decide) (sa_cons (se_var 1) sa_nil) (len_consA (fun _ _ h => len_nilA h))) sR))).1
  (sss_one (ss_ret se_bl))
  sss_nil)))
  (sss_one (ss_ret se_bl)))
abbrev s_is_told_change : Stmt := topS 17
theorem sc_is_told_change : FnScope ["value", "piece"] ["value"] (L2.defScope s_is_told_change) := ⟨rfl, rfl, rfl, by decide +kernel, rfl, by decide +kernel, by decide +kernel⟩
def tg_is_told_change_1 : TgD :=
  (nameT 1)
def el_is_told_change_1 : FE :=
  (mp (callC φ_is_piece (consA (vE 1) nilA)) frz)
def g_is_told_change : FS :=
  (retF (andE (un1 (vB 0) (isiE .list)) (andE (allF (un1 (vE 0) itemsE) ([("piece", 1)].map (·.2)) tg_is_told_change_1 (fun _ => some true) el_is_told_change_1) (mp (callC φ_are_apart (consA (vE 0) nilA)) frz))))
def φ_is_told_change : Phi := phi 2 g_is_told_change
theorem ok_is_told_change (hx : NoE CX) (Df : Def K mg c "is_told_change" s_is_told_change ["value"]) (O_is_piece : Okd P w K mg base CX cs 5 "is_piece" 1 φ_is_piece) (O_are_apart : Okd P w K mg base CX cs 3 "are_apart" 1 φ_are_apart) (m_all : mg "all" = none) (m_isinstance : mg "isinstance" = none) (m_list : mg "list" = none) (hP : (c, Pt) ∈ cs) (TB : TabB base mg c Pt) : Okd P w K mg base CX cs 7 "is_told_change" 1 φ_is_told_change :=
  have sc := sc_is_told_change
  fnD (k := 6) Df sc fun f A outer s H E R hr sR hT => (sss_one (ss_ret (se_andV (se_isi .list (by rfl) m_isinstance (sb_var 0) (by rfl) m_list (by decide +kernel)) (se_andV (se_allG (own := [("piece", 1)]) (k := 5) hT hP hr rfl sc.nd (by rfl) m_all TB (by rfl) (blkOk_by (by rfl)) (by decide +kernel) (by decide +kernel) rfl (pi_list (se_var 0)) ii_list (fun _ _ _ _ _ _ _ hr1 => (pg_name (i := 1) sc.nd rfl (by first | exact Or.inl rfl | exact Or.inr rfl))) (tg_name 1) (by decide) (fun _ _ _ _ _ _ _ hr1 => pts_nil) tt_yes (fun _ _ _ _ _ _ _ hr1 => (se_sc (sc_fn O_is_piece hT hx hr1 (by decide) (sa_cons (se_var 1) sa_nil) (len_consA (fun _ _ h => len_nilA h))) sR))) (se_one (se_sc (sc_fn O_are_apart hT hx hr (by decide) (sa_cons (se_var 0) sa_nil) (len_consA (fun _ _ h => len_nilA h))) sR))))))
abbrev s_check_page : Stmt := topS 18
theorem sc_check_page : FnScope ["value"] ["value"] (L2.defScope s_check_page) := ⟨rfl, rfl, rfl, by decide +kernel, rfl, by decide +kernel, by decide +kernel⟩
def g_check_page : FS :=
  (ifF (mp (un1 (mp (mp (callC φ_is_page (consA (vE 0) nilA)) frz) (·.2)) boolD) (!·)) noF nxF)
def φ_check_page : Phi := phi 1 g_check_page
theorem ok_check_page (hx : NoE CX) (Df : Def K mg c "check_page" s_check_page ["value"]) (O_is_page : Okd P w K mg base CX cs 5 "is_page" 1 φ_is_page) : Okd P w K mg base CX cs 6 "check_page" 1 φ_check_page :=
  have sc := sc_check_page
  fnD (k := 5) Df sc fun f A outer s H E R hr sR hT => (sss_one (ss_if (st_not (st_val (sb_se (se_sc (sc_fn O_is_page hT hx hr (by decide) (sa_cons (se_var 0) sa_nil) (len_consA (fun _ _ h => len_nilA h))) sR))))
  (sss_one ss_never)
  sss_nil))
abbrev s__copied : Stmt := topS 22
theorem sc__copied : FnScope ["value", "part"] ["value"] (L2.defScope s__copied) := ⟨rfl, rfl, rfl, by decide +kernel, rfl, by decide +kernel, by decide +kernel⟩
def tg__copied_1 : TgD :=
  (nameT 1)
def el__copied_1 (φr : Phi) : FE :=
  (mp (callC φr (consA (vE 1) nilA)) frz)
def tg__copied_2 : TgD :=
  (nameT 1)
def el__copied_2 (φr : Phi) : FE :=
  (mp (callC φr (consA (vE 1) nilA)) frz)
def g__copied (φr : Phi) : FS :=
  (seqF (ifF (un1 (mp (un1 (vB 0) (isiE .list)) (·.2)) boolD) (retF (mp (lcF (un1 (vE 0) itemsE) ([("part", 1)].map (·.2)) tg__copied_1 (fun _ => some true) (el__copied_1 φr)) frz)) nxF)
  (seqF (ifF (un1 (mp (un1 (vB 0) (isiE .tuple)) (·.2)) boolD) (retF (un1 (mp (lcF (un1 (vE 0) itemsT) ([("part", 1)].map (·.2)) tg__copied_2 (fun _ => some true) (el__copied_2 φr)) frz) tupL)) nxF)
  (retF (vE 0))))
def φn__copied : Nat → Phi
  | 0 => fun _ => none
  | n + 1 => phi 2 (g__copied (φn__copied n))
def φ__copied : Phi := φn__copied 5
theorem okn__copied (hx : NoE CX) (Df : Def K mg c "_copied" s__copied ["value"]) (m_isinstance : mg "isinstance" = none) (m_list : mg "list" = none) (m_tuple : mg "tuple" = none) : ∀ n : Nat, Okd P w K mg base CX cs (n + 1) "_copied" 1 (φn__copied n)
  | 0 =>
    have sc := sc__copied
    fnD (k := 0) Df sc fun f A outer s H E R hr sR hT => sss_cons ss_never (sss_cons ss_never (sss_one ss_never))
  | n + 1 =>
    have sc := sc__copied
    fnD (k := n + 1) Df sc fun f A outer s H E R hr sR hT => (sss_cons (ss_if (st_val (sb_se (se_isi .list (by rfl) m_isinstance (sb_var 0) (by rfl) m_list (by decide +kernel))))
  (sss_one (ss_ret (se_sc (sc_lc (own := [("part", 1)]) rfl sc.nd (pi_list (se_var 0)) ii_list (blkOk_by (by rfl)) (fun _ _ _ _ _ => (pg_name (i := 1) sc.nd rfl (by first | exact Or.inl rfl | exact Or.inr rfl))) (tg_name 1) (by decide) (fun _ _ _ _ _ => pts_nil) tt_yes (fun _ _ _ _ _ => (se_sc (sc_fn (okn__copied hx Df m_isinstance m_list m_tuple n) hT hx hr (Nat.le_refl _) (sa_cons (se_var 1) sa_nil) (len_consA (fun _ _ h => len_nilA h))) sR))) sR)))
  sss_nil)
  (sss_cons (ss_if (st_val (sb_se (se_isi .tuple (by rfl) m_isinstance (sb_var 0) (by rfl) m_tuple (by decide +kernel))))
  (sss_one (ss_ret (se_tupL (by rfl) m_tuple (se_sc (sc_lc (own := [("part", 1)]) rfl sc.nd (pi_tup (se_var 0)) ii_tup (blkOk_by (by rfl)) (fun _ _ _ _ _ => (pg_name (i := 1) sc.nd rfl (by first | exact Or.inl rfl | exact Or.inr rfl))) (tg_name 1) (by decide) (fun _ _ _ _ _ => pts_nil) tt_yes (fun _ _ _ _ _ => (se_sc (sc_fn (okn__copied hx Df m_isinstance m_list m_tuple n) hT hx hr (Nat.le_refl _) (sa_cons (se_var 1) sa_nil) (len_consA (fun _ _ h => len_nilA h))) sR))) sR))))
  sss_nil)
  (sss_one (ss_ret (se_var 0)))))
theorem ok__copied (hx : NoE CX) (Df : Def K mg c "_copied" s__copied ["value"]) (m_isinstance : mg "isinstance" = none) (m_list : mg "list" = none) (m_tuple : mg "tuple" = none) : Okd P w K mg base CX cs 6 "_copied" 1 φ__copied := okn__copied hx Df m_isinstance m_list m_tuple 5
abbrev s__leads : Stmt := topS 23
theorem sc__leads : FnScope ["change", "old", "new"] ["change", "old", "new"] (L2.defScope s__leads) := ⟨rfl, rfl, rfl, by decide +kernel, rfl, by decide +kernel, by decide +kernel⟩
def g__leads : FS :=
  (retF (andE (mp (callC φ_is_told_change (consA (vE 0) nilA)) frz) (andE (blE (bi (mp (mp (callC φ_first_unfit (consA (vE 1) (consA (vE 0) nilA))) frz) (·.2)) (mp (fun _ => some (true, D.non)) (·.2)) isN)) (blE (bi (mp (mp (callC φ_replaced (consA (vE 1) (consA (vE 0) nilA))) frz) (·.2)) (vB 2) eqD)))))
def φ__leads : Phi := phi 3 g__leads
theorem ok__leads (hx : NoE CX) (Df : Def K mg c "_leads" s__leads ["change", "old", "new"]) (O_is_told_change : Okd P w K mg base CX cs 7 "is_told_change" 1 φ_is_told_change) (O_first_unfit : Okd P w K mg base CX cs 3 "first_unfit" 2 φ_first_unfit) (O_replaced : Okd P w K mg base CX cs 2 "replaced" 2 φ_replaced) : Okd P w K mg base CX cs 8 "_leads" 3 φ__leads :=
  have sc := sc__leads
  fnD (k := 7) Df sc fun f A outer s H E R hr sR hT => (sss_one (ss_ret (se_andV (se_sc (sc_fn O_is_told_change hT hx hr (by decide) (sa_cons (se_var 0) sa_nil) (len_consA (fun _ _ h => len_nilA h))) sR) (se_andV (c_isN (sb_se (se_sc (sc_fn O_first_unfit hT hx hr (by decide) (sa_cons (se_var 1) (sa_cons (se_var 0) sa_nil)) (len_consA (len_consA (fun _ _ h => len_nilA h)))) sR)) (sb_se se_non)).2 (se_one (c_eq hr (sb_se (se_sc (sc_fn O_replaced hT hx hr (by decide) (sa_cons (se_var 1) (sa_cons (se_var 0) sa_nil)) (len_consA (len_consA (fun _ _ h => len_nilA h)))) sR)) (sb_var 2)).2)))))
abbrev s__lines_in : Stmt := topS 24
theorem sc__lines_in : FnScope ["change", "_", "takes", "puts"] ["change"] (L2.defScope s__lines_in) := ⟨rfl, rfl, rfl, by decide +kernel, rfl, by decide +kernel, by decide +kernel⟩
def tg__lines_in_1 : TgD :=
  (tupT (consT (nameT 1) (consT (nameT 2) (consT (nameT 3) nilT))))
def el__lines_in_1 : FE :=
  (mp (bi (un1 (vB 2) lenD) (un1 (vB 3) lenD) addC) frz)
def g__lines_in : FS :=
  (retF (sumF (un1 (vE 0) itemsE) ([("_", 1), ("takes", 2), ("puts", 3)].map (·.2)) tg__lines_in_1 (fun _ => some true) el__lines_in_1))
def φ__lines_in : Phi := phi 4 g__lines_in
theorem ok__lines_in (hx : NoE CX) (Df : Def K mg c "_lines_in" s__lines_in ["change"]) (m_len : mg "len" = none) (m_sum : mg "sum" = none) (hP : (c, Pt) ∈ cs) (TB : TabB base mg c Pt) : Okd P w K mg base CX cs 3 "_lines_in" 1 φ__lines_in :=
  have sc := sc__lines_in
  fnD (k := 2) Df sc fun f A outer s H E R hr sR hT => (sss_one (ss_ret (se_sumG (own := [("_", 1), ("takes", 2), ("puts", 3)]) (k := 1) hT hP hr rfl sc.nd (by rfl) m_sum TB (by rfl) (blkOk_by (by rfl)) (by decide +kernel) (by decide +kernel) rfl (pi_list (se_var 0)) ii_list (fun _ _ _ _ _ _ _ hr1 => (pg_tup (n := 3) rfl (pgs_cons (pg_name (i := 1) sc.nd rfl (by first | exact Or.inl rfl | exact Or.inr rfl)) (pgs_cons (pg_name (i := 2) sc.nd rfl (by first | exact Or.inl rfl | exact Or.inr rfl)) (pgs_cons (pg_name (i := 3) sc.nd rfl (by first | exact Or.inl rfl | exact Or.inr rfl)) pgs_nil))))) (tg_tup (tgs_cons (tg_name 1) (tgs_cons (tg_name 2) (tgs_cons (tg_name 3) tgs_nil))) (ar_cons (ar_cons (ar_cons ar_nil)))) (by decide) (fun _ _ _ _ _ _ _ hr1 => pts_nil) tt_yes (fun _ _ _ _ _ _ _ hr1 => (se_sc (sc_add (se_len (by rfl) m_len (sb_var 2)) (se_len (by rfl) m_len (sb_var 3))) sR)))))
abbrev s__is_table : Stmt := topS 25
theorem sc__is_table : FnScope ["value", "rows", "columns", "row"] ["value", "rows", "columns"] (L2.defScope s__is_table) := ⟨rfl, rfl, rfl, by decide +kernel, rfl, by decide +kernel, by decide +kernel⟩
def tg__is_table_1 : TgD :=
  (nameT 3)
def el__is_table_1 : FE :=
  (andE (un1 (vB 3) (isiE .list)) (blE (bi (mp (un1 (vB 3) lenD) (·.2)) (vB 2) eqD)))
def g__is_table : FS :=
  (seqF (ifF (orF (mp (un1 (mp (un1 (vB 0) (isiE .list)) (·.2)) boolD) (!·)) (bi (mp (un1 (vB 0) lenD) (·.2)) (vB 1) neD)) (retF (fun _ => some (true, D.bl false))) nxF)
  (retF (allF (un1 (vE 0) itemsE) ([("row", 3)].map (·.2)) tg__is_table_1 (fun _ => some true) el__is_table_1)))
def φ__is_table : Phi := phi 4 g__is_table
theorem ok__is_table (hx : NoE CX) (Df : Def K mg c "_is_table" s__is_table ["value", "rows", "columns"]) (m_all : mg "all" = none) (m_isinstance : mg "isinstance" = none) (m_len : mg "len" = none) (m_list : mg "list" = none) (hP : (c, Pt) ∈ cs) (TB : TabB base mg c Pt) : Okd P w K mg base CX cs 3 "_is_table" 3 φ__is_table :=
  have sc := sc__is_table
  fnD (k := 2) Df sc fun f A outer s H E R hr sR hT => (sss_cons (ss_if (st_w (sw_or (st_not (st_val (sb_se (se_isi .list (by rfl) m_isinstance (sb_var 0) (by rfl) m_list (by decide +kernel))))) (sw_or1 (c_ne hr (sb_se (se_len (by rfl) m_len (sb_var 0))) (sb_var 1)).1)))
  (sss_one (ss_ret se_bl))
  sss_nil)
  (sss_one (ss_ret (se_allG (own := [("row", 3)]) (k := 1) hT hP hr rfl sc.nd (by rfl) m_all TB (by rfl) (blkOk_by (by rfl)) (by decide +kernel) (by decide +kernel) rfl (pi_list (se_var 0)) ii_list (fun _ _ _ _ _ _ _ hr1 => (pg_name (i := 3) sc.nd rfl (by first | exact Or.inl rfl | exact Or.inr rfl))) (tg_name 3) (by decide) (fun _ _ _ _ _ _ _ hr1 => pts_nil) tt_yes (fun _ _ _ _ _ _ _ hr1 => (se_andV (se_isi .list (by rfl) m_isinstance (sb_var 3) (by rfl) m_list (by decide +kernel)) (se_one (c_eq hr1 (sb_se (se_len (by rfl) m_len (sb_var 3))) (sb_var 2)).2)))))))
abbrev s__is_height_table : Stmt := topS 26
theorem sc__is_height_table : FnScope ["heights", "old", "new", "row", "height"] ["heights", "old", "new"] (L2.defScope s__is_height_table) := ⟨rfl, rfl, rfl, by decide +kernel, rfl, by decide +kernel, by decide +kernel⟩
def tg__is_height_table_1 : TgD :=
  (nameT 3)
def tg__is_height_table_2 : TgD :=
  (nameT 4)
def el__is_height_table_1 : FE :=
  (mp (callC φ_is_number (consA (vE 4) nilA)) frz)
def g__is_height_table : FS :=
  (seqF (ifF (mp (un1 (mp (mp (callC φ__is_table (consA (vE 0) (consA (mp (bi (un1 (vB 1) lenD) (fun _ => some (true, D.int 1)) addC) frz) (consA (mp (bi (un1 (vB 2) lenD) (fun _ => some (true, D.int 1)) addC) frz) nilA)))) frz) (·.2)) boolD) (!·)) (retF (fun _ => some (true, D.bl false))) nxF)
  (retF (allF2 (un1 (vE 0) itemsE) ([("row", 3), ("height", 4)].map (·.2)) tg__is_height_table_1 (fun _ => some true) (un1 (vE 3) itemsE) ([("height", 4)].map (·.2)) tg__is_height_table_2 (fun _ => some true) el__is_height_table_1)))
def φ__is_height_table : Phi := phi 5 g__is_height_table
theorem ok__is_height_table (hx : NoE CX) (Df : Def K mg c "_is_height_table" s__is_height_table ["heights", "old", "new"]) (O__is_table : Okd P w K mg base CX cs 3 "_is_table" 3 φ__is_table) (O_is_number : Okd P w K mg base CX cs 2 "is_number" 1 φ_is_number) (m_all : mg "all" = none) (m_len : mg "len" = none) (hP : (c, Pt) ∈ cs) (TB : TabB base mg c Pt) : Okd P w K mg base CX cs 4 "_is_height_table" 3 φ__is_height_table :=
  have sc := sc__is_height_table
  fnD (k := 3) Df sc fun f A outer s H E R hr sR hT => (sss_cons (ss_if (st_not (st_val (sb_se (se_sc (sc_fn O__is_table hT hx hr (by decide) (sa_cons (se_var 0) (sa_cons (se_sc (sc_add (se_len (by rfl) m_len (sb_var 1)) se_int) sR) (sa_cons (se_sc (sc_add (se_len (by rfl) m_len (sb_var 2)) se_int) sR) sa_nil))) (len_consA (len_consA (len_consA (fun _ _ h => len_nilA h))))) sR))))
  (sss_one (ss_ret se_bl))
  sss_nil)
  (sss_one (ss_ret (se_allG2 (own := [("row", 3), ("height", 4)]) (own1 := [("height", 4)]) (k := 2) hT hP hr rfl sc.nd (by rfl) m_all TB (by rfl) (blkOk_by (by rfl)) (by decide +kernel) (by decide +kernel) rfl (pi_list (se_var 0)) ii_list (fun _ _ _ _ _ _ _ hr1 => (pg_name (i := 3) sc.nd rfl (by first | exact Or.inl rfl | exact Or.inr rfl))) (tg_name 3) (by decide) (fun _ _ _ _ _ _ _ hr1 => pts_nil) tt_yes (fun _ _ _ _ _ _ _ hr1 => (pi_list (se_var 3))) ii_list (fun _ _ _ _ _ _ _ hr1 => (pg_name (i := 4) sc.nd rfl (by first | exact Or.inl rfl | exact Or.inr rfl))) (tg_name 4) (by decide) (fun _ _ _ _ _ _ _ hr1 => pts_nil) tt_yes (fun _ _ _ _ _ _ _ hr1 => (se_sc (sc_fn O_is_number hT hx hr1 (by decide) (sa_cons (se_var 4) sa_nil) (len_consA (fun _ _ h => len_nilA h))) sR)) (by decide)))))
abbrev s__rises_by_one : Stmt := topS 28
theorem sc__rises_by_one : FnScope ["row", "lower", "height"] ["row"] (L2.defScope s__rises_by_one) := ⟨rfl, rfl, rfl, by decide +kernel, rfl, by decide +kernel, by decide +kernel⟩
def tg__rises_by_one_1 : TgD :=
  (tupT (consT (nameT 1) (consT (nameT 2) nilT)))
def lb__rises_by_one_1 : FS :=
  (ifF (bi (vB 2) (mp (mp (bi (vE 1) (fun _ => some (true, D.int 1)) addC) frz) (·.2)) (cI gt2)) (retF (fun _ => some (true, D.bl false))) nxF)
def g__rises_by_one : FS :=
  (seqF (forF (un1 (consA (vE 0) (consA (mp (slF (vE 0) (un1 (mp (fun _ => some (true, D.int 1)) (·.2)) intO) (fun _ => some none) cutC) frz) nilA)) zipF) tg__rises_by_one_1 lb__rises_by_one_1)
  (retF (fun _ => some (true, D.bl true))))
def φ__rises_by_one : Phi := phi 3 g__rises_by_one
theorem ok__rises_by_one (hx : NoE CX) (Df : Def K mg c "_rises_by_one" s__rises_by_one ["row"]) (m_zip : mg "zip" = none) : Okd P w K mg base CX cs 2 "_rises_by_one" 1 φ__rises_by_one :=
  have sc := sc__rises_by_one
  fnD (k := 1) Df sc fun f A outer s H E R hr sR hT => (sss_cons (ss_for PassesOwn.never rfl (pi_zip (by rfl) m_zip (sa_cons (se_var 0) (sa_cons (se_sc (sc_slice (se_var 0) (so_some (sb_se se_int)) so_none) sR) sa_nil))) ii_zip (pg_tup (n := 2) rfl (pgs_cons (pg_name (i := 1) sc.nd rfl (by first | exact Or.inl rfl | exact Or.inr rfl)) (pgs_cons (pg_name (i := 2) sc.nd rfl (by first | exact Or.inl rfl | exact Or.inr rfl)) pgs_nil))) (tg_tup (tgs_cons (tg_name 1) (tgs_cons (tg_name 2) tgs_nil)) (ar_cons (ar_cons ar_nil)))
  (sss_one (ss_if (c_gt (sb_var 2) (sb_se (se_sc (sc_add (se_var 1) se_int) sR))).1
  (sss_one (ss_ret se_bl))
  sss_nil)))
  (sss_one (ss_ret se_bl)))
abbrev s__row_follows : Stmt := topS 29
theorem sc__row_follows : FnScope ["row", "below", "line", "new", "height", "lower", "at", "other"] ["row", "below", "line", "new"] (L2.defScope s__row_follows) := ⟨rfl, rfl, rfl, by decide +kernel, rfl, by decide +kernel, by decide +kernel⟩
def tg__row_follows_1 : TgD :=
  (tupT (consT (nameT 4) (consT (nameT 5) nilT)))
def lb__row_follows_1 : FS :=
  (ifF (bi (vB 4) (mp (mp (bi (vE 5) (fun _ => some (true, D.int 1)) addC) frz) (·.2)) (cI gt2)) (retF (fun _ => some (true, D.bl false))) nxF)
def tg__row_follows_2 : TgD :=
  (tupT (consT (nameT 6) (consT (nameT 7) nilT)))
def lb__row_follows_2 : FS :=
  (ifF (andF (bi (vB 7) (vB 2) eqD) (bi (bi (vB 1) (mp (mp (bi (vE 6) (fun _ => some (true, D.int 1)) addC) frz) (·.2)) itemB) (bi (vB 0) (vB 6) itemB) (cI gt2))) (retF (fun _ => some (true, D.bl false))) nxF)
def g__row_follows : FS :=
  (seqF (forF (un1 (consA (vE 1) (consA (vE 0) nilA)) zipF) tg__row_follows_1 lb__row_follows_1)
  (seqF (forF (un1 (consA (vE 3) nilA) enumF) tg__row_follows_2 lb__row_follows_2)
  (retF (fun _ => some (true, D.bl true)))))
def φ__row_follows : Phi := phi 8 g__row_follows
theorem ok__row_follows (hx : NoE CX) (Df : Def K mg c "_row_follows" s__row_follows ["row", "below", "line", "new"]) (m_enumerate : mg "enumerate" = none) (m_zip : mg "zip" = none) : Okd P w K mg base CX cs 2 "_row_follows" 4 φ__row_follows :=
  have sc := sc__row_follows
  fnD (k := 1) Df sc fun f A outer s H E R hr sR hT => (sss_cons (ss_for PassesOwn.never rfl (pi_zip (by rfl) m_zip (sa_cons (se_var 1) (sa_cons (se_var 0) sa_nil))) ii_zip (pg_tup (n := 2) rfl (pgs_cons (pg_name (i := 4) sc.nd rfl (by first | exact Or.inl rfl | exact Or.inr rfl)) (pgs_cons (pg_name (i := 5) sc.nd rfl (by first | exact Or.inl rfl | exact Or.inr rfl)) pgs_nil))) (tg_tup (tgs_cons (tg_name 4) (tgs_cons (tg_name 5) tgs_nil)) (ar_cons (ar_cons ar_nil)))
  (sss_one (ss_if (c_gt (sb_var 4) (sb_se (se_sc (sc_add (se_var 5) se_int) sR))).1
  (sss_one (ss_ret se_bl))
  sss_nil)))
  (sss_cons (ss_for PassesOwn.never rfl (pi_enum (by rfl) m_enumerate (sa_cons (se_var 3) sa_nil)) ii_enum (pg_tup (n := 2) rfl (pgs_cons (pg_name (i := 6) sc.nd rfl (by first | exact Or.inl rfl | exact Or.inr rfl)) (pgs_cons (pg_name (i := 7) sc.nd rfl (by first | exact Or.inl rfl | exact Or.inr rfl)) pgs_nil))) (tg_tup (tgs_cons (tg_name 6) (tgs_cons (tg_name 7) tgs_nil)) (ar_cons (ar_cons ar_nil)))
  (sss_one (ss_if (st_w (sw_and (c_eq hr (sb_var 7) (sb_var 2)).1 (sw_and1 (c_gt (sb_ix (sb_var 1) (sb_se (se_sc (sc_add (se_var 6) se_int) sR))) (sb_ix (sb_var 0) (sb_var 6))).1)))
  (sss_one (ss_ret se_bl))
  sss_nil)))
  (sss_one (ss_ret se_bl))))
abbrev s__are_no_steps_too_high : Stmt := topS 27
theorem sc__are_no_steps_too_high : FnScope ["heights", "old", "new", "at", "line", "row"] ["heights", "old", "new"] (L2.defScope s__are_no_steps_too_high) := ⟨rfl, rfl, rfl, by decide +kernel, rfl, by decide +kernel, by decide +kernel⟩
def tg__are_no_steps_too_high_1 : TgD :=
  (nameT 5)
def el__are_no_steps_too_high_1 : FE :=
  (mp (callC φ__rises_by_one (consA (vE 5) nilA)) frz)
def tg__are_no_steps_too_high_2 : TgD :=
  (tupT (consT (nameT 3) (consT (nameT 4) nilT)))
def lb__are_no_steps_too_high_1 : FS :=
  (ifF (mp (un1 (mp (mp (callC φ__row_follows (consA (xvE 0 (vE 3)) (consA (xvE 0 (mp (bi (vE 3) (fun _ => some (true, D.int 1)) addC) frz)) (consA (vE 4) (consA (vE 2) nilA))))) frz) (·.2)) boolD) (!·)) (retF (fun _ => some (true, D.bl false))) nxF)
def g__are_no_steps_too_high : FS :=
  (seqF (ifF (mp (un1 (mp (allF (un1 (vE 0) itemsE) ([("row", 5)].map (·.2)) tg__are_no_steps_too_high_1 (fun _ => some true) el__are_no_steps_too_high_1) (·.2)) boolD) (!·)) (retF (fun _ => some (true, D.bl false))) nxF)
  (seqF (forF (un1 (consA (vE 1) nilA) enumF) tg__are_no_steps_too_high_2 lb__are_no_steps_too_high_1)
  (retF (fun _ => some (true, D.bl true)))))
def φ__are_no_steps_too_high : Phi := phi 6 g__are_no_steps_too_high
theorem ok__are_no_steps_too_high (hx : NoE CX) (Df : Def K mg c "_are_no_steps_too_high" s__are_no_steps_too_high ["heights", "old", "new"]) (O__rises_by_one : Okd P w K mg base CX cs 2 "_rises_by_one" 1 φ__rises_by_one) (O__row_follows : Okd P w K mg base CX cs 2 "_row_follows" 4 φ__row_follows) (m_all : mg "all" = none) (m_enumerate : mg "enumerate" = none) (hP : (c, Pt) ∈ cs) (TB : TabB base mg c Pt) : Okd P w K mg base CX cs 4 "_are_no_steps_too_high" 3 φ__are_no_steps_too_high :=
  have sc := sc__are_no_steps_too_high
  fnD (k := 3) Df sc fun f A outer s H E R hr sR hT => (sss_cons (ss_if (st_not (st_val (sb_se (se_allG (own := [("row", 5)]) (k := 2) hT hP hr rfl sc.nd (by rfl) m_all TB (by rfl) (blkOk_by (by rfl)) (by decide +kernel) (by decide +kernel) rfl (pi_list (se_var 0)) ii_list (fun _ _ _ _ _ _ _ hr1 => (pg_name (i := 5) sc.nd rfl (by first | exact Or.inl rfl | exact Or.inr rfl))) (tg_name 5) (by decide) (fun _ _ _ _ _ _ _ hr1 => pts_nil) tt_yes (fun _ _ _ _ _ _ _ hr1 => (se_sc (sc_fn O__rises_by_one hT hx hr1 (by decide) (sa_cons (se_var 5) sa_nil) (len_consA (fun _ _ h => len_nilA h))) sR))))))
  (sss_one (ss_ret se_bl))
  sss_nil)
  (sss_cons (ss_for PassesOwn.never rfl (pi_enum (by rfl) m_enumerate (sa_cons (se_var 1) sa_nil)) ii_enum (pg_tup (n := 2) rfl (pgs_cons (pg_name (i := 3) sc.nd rfl (by first | exact Or.inl rfl | exact Or.inr rfl)) (pgs_cons (pg_name (i := 4) sc.nd rfl (by first | exact Or.inl rfl | exact Or.inr rfl)) pgs_nil))) (tg_tup (tgs_cons (tg_name 3) (tgs_cons (tg_name 4) tgs_nil)) (ar_cons (ar_cons ar_nil)))
  (sss_one (ss_if (st_not (st_val (sb_se (se_sc (sc_fn O__row_follows hT hx hr (by decide) (sa_cons (se_ixv 0 (se_var 3)) (sa_cons (se_ixv 0 (se_sc (sc_add (se_var 3) se_int) sR)) (sa_cons (se_var 4) (sa_cons (se_var 2) sa_nil)))) (len_consA (len_consA (len_consA (len_consA (fun _ _ h => len_nilA h)))))) sR))))
  (sss_one (ss_ret se_bl))
  sss_nil)))
  (sss_one (ss_ret se_bl))))
abbrev s__next_row : Stmt := topS 34
theorem sc__next_row : FnScope ["row", "line", "new", "told", "at", "other"] ["row", "line", "new"] (L2.defScope s__next_row) := ⟨rfl, rfl, rfl, by decide +kernel, rfl, by decide +kernel, by decide +kernel⟩
def tg__next_row_1 : TgD :=
  (tupT (consT (nameT 4) (consT (nameT 5) nilT)))
def lb__next_row_1 : FS :=
  (ifF (bi (vB 1) (vB 5) eqD) (ownF 3 (consA (xvE 0 (vE 4)) nilA) appOp) (ownF 3 (consA (mp (bi (un1 (consA (xvE 0 (mp (bi (vE 4) (fun _ => some (true, D.int 1)) addC) frz)) (consA (xvE 3 (vE 4)) nilA)) minD) (fun _ => some (true, D.int 1)) addC) frz) nilA) appOp))
def g__next_row : FS :=
  (seqF (setF 3 (un1 (consA (mp (bi (xvE 0 (fun _ => some (true, D.int 0))) (fun _ => some (true, D.int 1)) addC) frz) nilA) ownC))
  (seqF (forF (un1 (consA (vE 2) nilA) enumF) tg__next_row_1 lb__next_row_1)
  (fzF [3] (retF (vE 3)))))
def φ__next_row : Phi := phi 6 g__next_row
theorem ok__next_row (hx : NoE CX) (Df : Def K mg c "_next_row" s__next_row ["row", "line", "new"]) (m_enumerate : mg "enumerate" = none) (m_min : mg "min" = none) : Okd P w K mg base CX cs 2 "_next_row" 3 φ__next_row :=
  have sc := sc__next_row
  fnD (k := 1) Df sc fun f A outer s H E R hr sR hT => (sss_cons (ss_set 3 sc.nd (sc_lst (sa_cons (se_sc (sc_add (se_ixv 0 se_int) se_int) sR) sa_nil)))
  (sss_cons (ss_for PassesOwn.never rfl (pi_enum (by rfl) m_enumerate (sa_cons (se_var 2) sa_nil)) ii_enum (pg_tup (n := 2) rfl (pgs_cons (pg_name (i := 4) sc.nd rfl (by first | exact Or.inl rfl | exact Or.inr rfl)) (pgs_cons (pg_name (i := 5) sc.nd rfl (by first | exact Or.inl rfl | exact Or.inr rfl)) pgs_nil))) (tg_tup (tgs_cons (tg_name 4) (tgs_cons (tg_name 5) tgs_nil)) (ar_cons (ar_cons ar_nil)))
  (sss_one (ss_if (c_eq hr (sb_var 1) (sb_var 5)).1
  (sss_one (ss_append 3 (sa_cons (se_ixv 0 (se_var 4)) sa_nil)))
  (sss_one (ss_append 3 (sa_cons (se_sc (sc_add (se_min2 rfl (by rfl) m_min (sa_cons (se_ixv 0 (se_sc (sc_add (se_var 4) se_int) sR)) (sa_cons (se_ixv 3 (se_var 4)) sa_nil))) se_int) sR) sa_nil))))))
  (sss_one (ss_fz [3] sR (ss_ret (se_var 3))))))
abbrev s__fewest_lines : Stmt := topS 33
theorem sc__fewest_lines : FnScope ["old", "new", "heights", "line"] ["old", "new"] (L2.defScope s__fewest_lines) := ⟨rfl, rfl, rfl, by decide +kernel, rfl, by decide +kernel, by decide +kernel⟩
def tg__fewest_lines_1 : TgD :=
  (nameT 3)
def lb__fewest_lines_1 : FS :=
  (ownF 2 (consA (mp (callC φ__next_row (consA (xvE 2 (un1 (mp (fun _ => some (true, D.int 1)) (·.2)) negD)) (consA (vE 3) (consA (vE 1) nilA)))) frz) nilA) appOp)
def g__fewest_lines : FS :=
  (seqF (setF 2 (un1 (consA (mp (un1 (mp (mp (bi (un1 (vB 1) lenD) (fun _ => some (true, D.int 1)) addC) frz) (·.2)) lrgD) frz) nilA) ownC))
  (seqF (forF (un1 (vE 0) itemsE) tg__fewest_lines_1 lb__fewest_lines_1)
  (fzF [2] (retF (vE 2)))))
def φ__fewest_lines : Phi := phi 4 g__fewest_lines
theorem ok__fewest_lines (hx : NoE CX) (Df : Def K mg c "_fewest_lines" s__fewest_lines ["old", "new"]) (O__next_row : Okd P w K mg base CX cs 2 "_next_row" 3 φ__next_row) (m_len : mg "len" = none) (m_list : mg "list" = none) (m_range : mg "range" = none) : Okd P w K mg base CX cs 3 "_fewest_lines" 2 φ__fewest_lines :=
  have sc := sc__fewest_lines
  fnD (k := 2) Df sc fun f A outer s H E R hr sR hT => (sss_cons (ss_set 2 sc.nd (sc_lst (sa_cons (se_sc (sc_listRg rfl (by rfl) m_list (by rfl) m_range (sb_se (se_sc (sc_add (se_len (by rfl) m_len (sb_var 1)) se_int) sR))) sR) sa_nil)))
  (sss_cons (ss_for PassesOwn.never rfl (pi_list (se_var 0)) ii_list (pg_name (i := 3) sc.nd rfl (by first | exact Or.inl rfl | exact Or.inr rfl)) (tg_name 3)
  (sss_one (ss_append 2 (sa_cons (se_sc (sc_fn O__next_row hT hx hr (by decide) (sa_cons (se_ixv 2 (se_neg (sb_se se_int))) (sa_cons (se_var 3) (sa_cons (se_var 1) sa_nil))) (len_consA (len_consA (len_consA (fun _ _ h => len_nilA h))))) sR) sa_nil))))
  (sss_one (ss_fz [2] sR (ss_ret (se_var 2))))))
abbrev s__lines_kept : Stmt := topS 35
theorem sc__lines_kept : FnScope ["heights", "old", "new", "kept", "i", "j"] ["heights", "old", "new"] (L2.defScope s__lines_kept) := ⟨rfl, rfl, rfl, by decide +kernel, rfl, by decide +kernel, by decide +kernel⟩
def if__lines_kept_1 : FT :=
  (andF (bi (vB 4) (mp (fun _ => some (true, D.int 0)) (·.2)) (cI gt2)) (bi (vB 5) (mp (fun _ => some (true, D.int 0)) (·.2)) (cI gt2)))
def lb__lines_kept_1 : FS :=
  (ifF (bi (bi (vB 1) (mp (subF (vB 4) (mp (fun _ => some (true, D.int 1)) (·.2))) (·.2)) itemB) (bi (vB 2) (mp (subF (vB 5) (mp (fun _ => some (true, D.int 1)) (·.2))) (·.2)) itemB) eqD) (seqF (ausF 4 (mp (fun _ => some (true, D.int 1)) (·.2)))
  (seqF (ausF 5 (mp (fun _ => some (true, D.int 1)) (·.2)))
  (fzF [4, 5] (ownF 3 (consA (un1 (consA (vE 4) (consA (vE 5) nilA)) tupD) nilA) appOp)))) (ifF (bi (bi (bi (vB 0) (mp (subF (vB 4) (mp (fun _ => some (true, D.int 1)) (·.2))) (·.2)) itemB) (vB 5) itemB) (bi (bi (vB 0) (vB 4) itemB) (vB 5) itemB) (cI lt2)) (ausF 4 (mp (fun _ => some (true, D.int 1)) (·.2))) (ausF 5 (mp (fun _ => some (true, D.int 1)) (·.2)))))
def g__lines_kept : FS :=
  (seqF (setF 3 (un1 nilA ownC))
  (seqF (setF 4 (mp (un1 (vB 1) lenD) dC))
  (seqF (setF 5 (mp (un1 (vB 2) lenD) dC))
  (seqF (whileF if__lines_kept_1 lb__lines_kept_1)
  (fzF [3] (retF (mp (un1 (vE 3) revC) frz)))))))
def φ__lines_kept : Phi := phi 6 g__lines_kept
theorem ok__lines_kept (hx : NoE CX) (Df : Def K mg c "_lines_kept" s__lines_kept ["heights", "old", "new"]) (m_len : mg "len" = none) : Okd P w K mg base CX cs 2 "_lines_kept" 3 φ__lines_kept :=
  have sc := sc__lines_kept
  fnD (k := 1) Df sc fun f A outer s H E R hr sR hT => (sss_cons (ss_set 3 sc.nd (sc_lst sa_nil))
  (sss_cons (ss_set 4 sc.nd (sc_se (se_len (by rfl) m_len (sb_var 1))))
  (sss_cons (ss_set 5 sc.nd (sc_se (se_len (by rfl) m_len (sb_var 2))))
  (sss_cons (ss_while PassesOwn.never (st_w (sw_and (c_gt (sb_var 4) (sb_se se_int)).1 (sw_and1 (c_gt (sb_var 5) (sb_se se_int)).1)))
  (sss_one (ss_if (c_eq hr (sb_ix (sb_var 1) (sb_se (se_sub (sb_var 4) (sb_se se_int)))) (sb_ix (sb_var 2) (sb_se (se_sub (sb_var 5) (sb_se se_int))))).1
  (sss_cons (ss_aus 4 sc.nd (sb_se se_int))
  (sss_cons (ss_aus 5 sc.nd (sb_se se_int))
  (sss_one (ss_fz [4, 5] sR (ss_append 3 (sa_cons (se_tup (sa_cons (se_var 4) (sa_cons (se_var 5) sa_nil))) sa_nil))))))
  (sss_one (ss_if (c_lt (sb_ix (sb_ix (sb_var 0) (sb_se (se_sub (sb_var 4) (sb_se se_int)))) (sb_var 5)) (sb_ix (sb_ix (sb_var 0) (sb_var 4)) (sb_var 5))).1
  (sss_one (ss_aus 4 sc.nd (sb_se se_int)))
  (sss_one (ss_aus 5 sc.nd (sb_se se_int))))))))
  (sss_one (ss_fz [3] sR (ss_ret (se_sc (sc_rev (se_var 3)) sR))))))))
abbrev s__change_between : Stmt := topS 36
theorem sc__change_between : FnScope ["kept", "old", "new", "change", "place", "put", "i", "j"] ["kept", "old", "new"] (L2.defScope s__change_between) := ⟨rfl, rfl, rfl, by decide +kernel, rfl, by decide +kernel, by decide +kernel⟩
def tg__change_between_1 : TgD :=
  (tupT (consT (nameT 6) (consT (nameT 7) nilT)))
def lb__change_between_1 : FS :=
  (seqF (ifF (orF (bi (vB 6) (vB 4) (cI gt2)) (bi (vB 7) (vB 5) (cI gt2))) (fzF [4] (ownF 3 (consA (un1 (consA (vE 4) (consA (mp (slF (vE 1) (un1 (vB 4) intO) (un1 (vB 6) intO) cutC) frz) (consA (mp (slF (vE 2) (un1 (vB 5) intO) (un1 (vB 7) intO) cutC) frz) nilA))) tupD) nilA) appOp)) nxF)
  (seqF (setF 4 (bi (vE 6) (fun _ => some (true, D.int 1)) addC))
  (setF 5 (bi (vE 7) (fun _ => some (true, D.int 1)) addC))))
def g__change_between : FS :=
  (seqF (setF 3 (un1 nilA ownC))
  (seqF (setF 4 (mp (fun _ => some (true, D.int 0)) dC))
  (seqF (setF 5 (mp (fun _ => some (true, D.int 0)) dC))
  (seqF (forF (un1 (mp (bi (vE 0) (mp (un1 (consA (un1 (consA (un1 (vB 1) lenD) (consA (un1 (vB 2) lenD) nilA)) tupD) nilA) ownC) frz) addC) frz) itemsE) tg__change_between_1 lb__change_between_1)
  (fzF [3] (retF (vE 3)))))))
def φ__change_between : Phi := phi 8 g__change_between
theorem ok__change_between (hx : NoE CX) (Df : Def K mg c "_change_between" s__change_between ["kept", "old", "new"]) (m_len : mg "len" = none) : Okd P w K mg base CX cs 2 "_change_between" 3 φ__change_between :=
  have sc := sc__change_between
  fnD (k := 1) Df sc fun f A outer s H E R hr sR hT => (sss_cons (ss_set 3 sc.nd (sc_lst sa_nil))
  (sss_cons (ss_set 4 sc.nd (sc_se se_int))
  (sss_cons (ss_set 5 sc.nd (sc_se se_int))
  (sss_cons (ss_for PassesOwn.never rfl (pi_list (se_sc (sc_add (se_var 0) (se_sc (sc_lst (sa_cons (se_tup (sa_cons (se_len (by rfl) m_len (sb_var 1)) (sa_cons (se_len (by rfl) m_len (sb_var 2)) sa_nil))) sa_nil)) sR)) sR)) ii_list (pg_tup (n := 2) rfl (pgs_cons (pg_name (i := 6) sc.nd rfl (by first | exact Or.inl rfl | exact Or.inr rfl)) (pgs_cons (pg_name (i := 7) sc.nd rfl (by first | exact Or.inl rfl | exact Or.inr rfl)) pgs_nil))) (tg_tup (tgs_cons (tg_name 6) (tgs_cons (tg_name 7) tgs_nil)) (ar_cons (ar_cons ar_nil)))
  (sss_cons (ss_if (st_w (sw_or (c_gt (sb_var 6) (sb_var 4)).1 (sw_or1 (c_gt (sb_var 7) (sb_var 5)).1)))
  (sss_one (ss_fz [4] sR (ss_append 3 (sa_cons (se_tup (sa_cons (se_var 4) (sa_cons (se_sc (sc_slice (se_var 1) (so_some (sb_var 4)) (so_some (sb_var 6))) sR) (sa_cons (se_sc (sc_slice (se_var 2) (so_some (sb_var 5)) (so_some (sb_var 7))) sR) sa_nil)))) sa_nil))))
  sss_nil)
  (sss_cons (ss_set 4 sc.nd (sc_add (se_var 6) se_int))
  (sss_one (ss_set 5 sc.nd (sc_add (se_var 7) se_int))))))
  (sss_one (ss_fz [3] sR (ss_ret (se_var 3))))))))
abbrev s__law_cell_at : Stmt := topS 38
theorem sc__law_cell_at : FnScope ["_law_script", "_law_k"] ["_law_script", "_law_k"] (L2.defScope s__law_cell_at) := ⟨rfl, rfl, rfl, by decide +kernel, rfl, by decide +kernel, by decide +kernel⟩
def g__law_cell_at : FS :=
  (seqF (ifF (bi (vB 1) (mp (un1 (vB 0) lenD) (·.2)) (cI lt2)) (retF (xvE 0 (vE 1))) nxF)
  (seqF (ifF (bi (vB 0) (mp (mp (un1 nilA ownC) frz) (·.2)) eqD) (retF (mp (bi (vE 1) (fun _ => some (true, D.int 48271)) mulC) frz)) nxF)
  (retF (modF (mp (mp (bi (mp (bi (xvE 0 (modF (vB 1) (mp (un1 (vB 0) lenD) (·.2)))) (vE 1) addC) frz) (fun _ => some (true, D.int 48271)) mulC) frz) (·.2)) (mp (fun _ => some (true, D.int 2147483647)) (·.2))))))
def φ__law_cell_at : Phi := phi 2 g__law_cell_at
theorem ok__law_cell_at (hx : NoE CX) (Df : Def K mg c "_law_cell_at" s__law_cell_at ["_law_script", "_law_k"]) (m_len : mg "len" = none) : Okd P w K mg base CX cs 2 "_law_cell_at" 2 φ__law_cell_at :=
  have sc := sc__law_cell_at
  fnD (k := 1) Df sc fun f A outer s H E R hr sR hT => (sss_cons (ss_if (c_lt (sb_var 1) (sb_se (se_len (by rfl) m_len (sb_var 0)))).1
  (sss_one (ss_ret (se_ixv 0 (se_var 1))))
  sss_nil)
  (sss_cons (ss_if (c_eq hr (sb_var 0) (sb_se (se_sc (sc_lst sa_nil) sR))).1
  (sss_one (ss_ret (se_sc (sc_mul (se_var 1) se_int) sR)))
  sss_nil)
  (sss_one (ss_ret (se_mod (sb_se (se_sc (sc_mul (se_sc (sc_add (se_ixv 0 (se_mod (sb_var 1) (sb_se (se_len (by rfl) m_len (sb_var 0))))) (se_var 1)) sR) se_int) sR)) (sb_se se_int))))))
abbrev s__law_numbers : Stmt := topS 39
theorem sc__law_numbers : FnScope ["_law_cell", "_law_bounds", "_law_left", "_law_found", "_law_bound"] ["_law_cell", "_law_bounds"] (L2.defScope s__law_numbers) := ⟨rfl, rfl, rfl, by decide +kernel, rfl, by decide +kernel, by decide +kernel⟩
def tg__law_numbers_1 : TgD :=
  (nameT 4)
def lb__law_numbers_1 : FS :=
  (seqF (ownF 3 (consA (modF (vB 2) (vB 4)) nilA) appOp)
  (setF 2 (mp (fdivF (vB 2) (vB 4)) dC)))
def g__law_numbers : FS :=
  (seqF (setF 2 (mp (vE 0) dC))
  (seqF (ifF (bi (vB 0) (mp (powF (mp (fun _ => some (true, D.int 10)) (·.2)) (mp (fun _ => some (true, D.int 18)) (·.2))) (·.2)) (cI lt2)) (setF 2 (mp (fdivF (mp (powF (mp (mp (bi (mp (bi (modF (vB 0) (mp (fun _ => some (true, D.int 2147483647)) (·.2))) (fun _ => some (true, D.int 48271)) mulC) frz) (fun _ => some (true, D.int 12345)) addC) frz) (·.2)) (mp (fun _ => some (true, D.int 5)) (·.2))) (·.2)) (mp (fun _ => some (true, D.int 1013)) (·.2))) dC)) nxF)
  (seqF (setF 3 (un1 nilA ownC))
  (seqF (forF (un1 (vE 1) itemsE) tg__law_numbers_1 lb__law_numbers_1)
  (fzF [3] (retF (vE 3)))))))
def φ__law_numbers : Phi := phi 5 g__law_numbers
theorem ok__law_numbers (hx : NoE CX) (Df : Def K mg c "_law_numbers" s__law_numbers ["_law_cell", "_law_bounds"]) : Okd P w K mg base CX cs 2 "_law_numbers" 2 φ__law_numbers :=
  have sc := sc__law_numbers
  fnD (k := 1) Df sc fun f A outer s H E R hr sR hT => (sss_cons (ss_set 2 sc.nd (sc_se (se_var 0)))
  (sss_cons (ss_if (c_lt (sb_var 0) (sb_se (se_pow (sb_se se_int) (sb_se se_int)))).1
  (sss_one (ss_set 2 sc.nd (sc_se (se_fdiv (sb_se (se_pow (sb_se (se_sc (sc_add (se_sc (sc_mul (se_mod (sb_var 0) (sb_se se_int)) se_int) sR) se_int) sR)) (sb_se se_int))) (sb_se se_int)))))
  sss_nil)
  (sss_cons (ss_set 3 sc.nd (sc_lst sa_nil))
  (sss_cons (ss_for PassesOwn.never rfl (pi_list (se_var 1)) ii_list (pg_name (i := 4) sc.nd rfl (by first | exact Or.inl rfl | exact Or.inr rfl)) (tg_name 4)
  (sss_cons (ss_append 3 (sa_cons (se_mod (sb_var 2) (sb_var 4)) sa_nil))
  (sss_one (ss_set 2 sc.nd (sc_se (se_fdiv (sb_var 2) (sb_var 4)))))))
  (sss_one (ss_fz [3] sR (ss_ret (se_var 3))))))))
abbrev s__law_lines : Stmt := topS 40
theorem sc__law_lines : FnScope [] [] (L2.defScope s__law_lines) := ⟨rfl, rfl, rfl, by decide +kernel, rfl, by decide +kernel, by decide +kernel⟩
def g__law_lines : FS :=
  (retF (mp (un1 (consA (fun _ => some (true, D.str "a")) (consA (fun _ => some (true, D.str "b")) (consA (fun _ => some (true, D.str "")) (consA (fun _ => some (true, D.str "@ 3")) (consA (fun _ => some (true, D.str "-a")) (consA (fun _ => some (true, D.str "c")) (consA (fun _ => some (true, D.str "+")) (consA (fun _ => some (true, D.str "=b")) (consA (fun _ => some (true, D.str " ")) (consA (fun _ => some (true, D.str "@")) (consA (fun _ => some (true, D.str "a b")) (consA (fun _ => some (true, D.str "~")) nilA)))))))))))) ownC) frz))
def φ__law_lines : Phi := phi 0 g__law_lines
theorem ok__law_lines (hx : NoE CX) (Df : Def K mg c "_law_lines" s__law_lines []) : Okd P w K mg base CX cs 2 "_law_lines" 0 φ__law_lines :=
  have sc := sc__law_lines
  fnD (k := 1) Df sc fun f A outer s H E R hr sR hT => (sss_one (ss_ret (se_sc (sc_lst (sa_cons se_str (sa_cons se_str (sa_cons se_str (sa_cons se_str (sa_cons se_str (sa_cons se_str (sa_cons se_str (sa_cons se_str (sa_cons se_str (sa_cons se_str (sa_cons se_str (sa_cons se_str sa_nil))))))))))))) sR)))
abbrev s__law_page : Stmt := topS 41
theorem sc__law_page : FnScope ["_law_cell", "_law_limit", "_law_digits", "_law_lines_here", "_law_some", "_law_one"] ["_law_cell", "_law_limit"] (L2.defScope s__law_page) := ⟨rfl, rfl, rfl, by decide +kernel, rfl, by decide +kernel, by decide +kernel⟩
def tg__law_page_1 : TgD :=
  (nameT 5)
def el__law_page_1 : FE :=
  (xvE 3 (modF (mp (mp (bi (xvE 2 (fun _ => some (true, D.int 1))) (vE 5) addC) frz) (·.2)) (mp (fun _ => some (true, D.int 12)) (·.2))))
def g__law_page : FS :=
  (seqF (setF 2 (callC φ__law_numbers (consA (vE 0) (consA (mp (un1 (consA (mp (bi (vE 1) (fun _ => some (true, D.int 1)) addC) frz) (consA (fun _ => some (true, D.int 12)) (consA (fun _ => some (true, D.int 4)) nilA))) ownC) frz) nilA))))
  (seqF (setF 3 (callC φ__law_lines nilA))
  (seqF (setF 4 (callC φ__law_numbers (consA (mp (bi (fdivF (vB 0) (mp (fun _ => some (true, D.int 3)) (·.2))) (fun _ => some (true, D.int 5)) addC) frz) (consA (mp (bi (mp (un1 (consA (bi (mp (un1 (consA (fun _ => some (true, D.int 2)) (consA (fun _ => some (true, D.int 3)) (consA (fun _ => some (true, D.int 5)) (consA (fun _ => some (true, D.int 12)) nilA)))) ownC) frz) (xvE 2 (fun _ => some (true, D.int 2))) fun x y => itemE x y.2) nilA) ownC) frz) (xvE 2 (fun _ => some (true, D.int 0))) mulC) frz) nilA))))
  (fzF [4] (retF (mp (lcF (un1 (vE 4) itemsE) ([("_law_one", 5)].map (·.2)) tg__law_page_1 (fun _ => some true) el__law_page_1) frz))))))
def φ__law_page : Phi := phi 6 g__law_page
theorem ok__law_page (hx : NoE CX) (Df : Def K mg c "_law_page" s__law_page ["_law_cell", "_law_limit"]) (O__law_numbers : Okd P w K mg base CX cs 2 "_law_numbers" 2 φ__law_numbers) (O__law_lines : Okd P w K mg base CX cs 2 "_law_lines" 0 φ__law_lines) : Okd P w K mg base CX cs 3 "_law_page" 2 φ__law_page :=
  have sc := sc__law_page
  fnD (k := 2) Df sc fun f A outer s H E R hr sR hT => (sss_cons (ss_set 2 sc.nd (sc_fn O__law_numbers hT hx hr (by decide) (sa_cons (se_var 0) (sa_cons (se_sc (sc_lst (sa_cons (se_sc (sc_add (se_var 1) se_int) sR) (sa_cons se_int (sa_cons se_int sa_nil)))) sR) sa_nil)) (len_consA (len_consA (fun _ _ h => len_nilA h)))))
  (sss_cons (ss_set 3 sc.nd (sc_fn0 O__law_lines hT hx hr (by decide)))
  (sss_cons (ss_set 4 sc.nd (sc_fn O__law_numbers hT hx hr (by decide) (sa_cons (se_sc (sc_add (se_fdiv (sb_var 0) (sb_se se_int)) se_int) sR) (sa_cons (se_sc (sc_mul (se_sc (sc_lst (sa_cons (se_ix (se_sc (sc_lst (sa_cons se_int (sa_cons se_int (sa_cons se_int (sa_cons se_int sa_nil))))) sR) (se_ixv 2 se_int)) sa_nil)) sR) (se_ixv 2 se_int)) sR) sa_nil)) (len_consA (len_consA (fun _ _ h => len_nilA h)))))
  (sss_one (ss_fz [4] sR (ss_ret (se_sc (sc_lc (own := [("_law_one", 5)]) rfl sc.nd (pi_list (se_var 4)) ii_list (blkOk_by (by rfl)) (fun _ _ _ _ _ => (pg_name (i := 5) sc.nd rfl (by first | exact Or.inl rfl | exact Or.inr rfl))) (tg_name 5) (by decide) (fun _ _ _ _ _ => pts_nil) tt_yes (fun _ _ _ _ _ => (se_ixv 3 (se_mod (sb_se (se_sc (sc_add (se_ixv 2 se_int) (se_var 5)) sR)) (sb_se se_int))))) sR)))))))
abbrev s__law_change : Stmt := topS 42
theorem sc__law_change : FnScope ["_law_cell", "_law_page_here", "_law_limit", "_law_digits", "_law_lines_here", "_law_found", "_law_at", "_law_k", "_law_gap", "_law_takes", "_law_puts", "_law_first", "_law_second", "_law_place"] ["_law_cell", "_law_page_here", "_law_limit"] (L2.defScope s__law_change) := ⟨rfl, rfl, rfl, by decide +kernel, rfl, by decide +kernel, by decide +kernel⟩
def tg__law_change_1 : TgD :=
  (nameT 7)
def lb__law_change_1 : FS :=
  (seqF (fzF [3] (unpF (mp (slF (vE 3) (un1 (mp (mp (bi (fun _ => some (true, D.int 1)) (mp (bi (fun _ => some (true, D.int 5)) (vE 7) mulC) frz) addC) frz) (·.2)) intO) (un1 (mp (mp (bi (fun _ => some (true, D.int 6)) (mp (bi (fun _ => some (true, D.int 5)) (vE 7) mulC) frz) addC) frz) (·.2)) intO) cutC) frz) (orT (tupT (consT (nameT 8) (consT (nameT 9) (consT (nameT 10) (consT (nameT 11) (consT (nameT 12) nilT)))))) (unlT (consT (nameT 8) (consT (nameT 9) (consT (nameT 10) (consT (nameT 11) (consT (nameT 12) nilT)))))))))
  (seqF (fzF [6] (setF 13 (bi (vE 6) (vE 8) addC)))
  (fzF [13] (ifF (andF (bi (mp (mp (bi (vE 13) (vE 9) addC) frz) (·.2)) (mp (un1 (vB 1) lenD) (·.2)) (cI le2)) (bi (mp (mp (bi (vE 9) (vE 10) addC) frz) (·.2)) (mp (fun _ => some (true, D.int 0)) (·.2)) (cI gt2))) (seqF (fzF [13] (ownF 5 (consA (un1 (consA (vE 13) (consA (mp (slF (vE 1) (un1 (vB 13) intO) (un1 (mp (mp (bi (vE 13) (vE 9) addC) frz) (·.2)) intO) cutC) frz) (consA (mp (slF (mp (un1 (consA (xvE 4 (vE 11)) (consA (xvE 4 (vE 12)) nilA)) ownC) frz) (fun _ => some none) (un1 (vB 10) intO) cutC) frz) nilA))) tupD) nilA) appOp))
  (fzF [13] (setF 6 (bi (mp (bi (vE 13) (vE 9) addC) frz) (fun _ => some (true, D.int 1)) addC)))) nxF))))
def g__law_change : FS :=
  (seqF (setF 3 (callC φ__law_numbers (consA (vE 0) (consA (mp (bi (mp (un1 (consA (mp (bi (vE 2) (fun _ => some (true, D.int 1)) addC) frz) nilA) ownC) frz) (mp (bi (mp (un1 (consA (fun _ => some (true, D.int 4)) (consA (fun _ => some (true, D.int 3)) (consA (fun _ => some (true, D.int 3)) (consA (fun _ => some (true, D.int 12)) (consA (fun _ => some (true, D.int 12)) nilA))))) ownC) frz) (vE 2) mulC) frz) addC) frz) nilA))))
  (seqF (setF 4 (callC φ__law_lines nilA))
  (seqF (setF 5 (un1 nilA ownC))
  (seqF (setF 6 (mp (fun _ => some (true, D.int 0)) dC))
  (seqF (forF (un1 (consA (xvE 3 (fun _ => some (true, D.int 0))) nilA) rng1) tg__law_change_1 lb__law_change_1)
  (fzF [5] (retF (vE 5))))))))
def φ__law_change : Phi := phi 14 g__law_change
theorem ok__law_change (hx : NoE CX) (Df : Def K mg c "_law_change" s__law_change ["_law_cell", "_law_page_here", "_law_limit"]) (O__law_numbers : Okd P w K mg base CX cs 2 "_law_numbers" 2 φ__law_numbers) (O__law_lines : Okd P w K mg base CX cs 2 "_law_lines" 0 φ__law_lines) (m_len : mg "len" = none) (m_range : mg "range" = none) : Okd P w K mg base CX cs 3 "_law_change" 3 φ__law_change :=
  have sc := sc__law_change
  fnD (k := 2) Df sc fun f A outer s H E R hr sR hT => (sss_cons (ss_set 3 sc.nd (sc_fn O__law_numbers hT hx hr (by decide) (sa_cons (se_var 0) (sa_cons (se_sc (sc_add (se_sc (sc_lst (sa_cons (se_sc (sc_add (se_var 2) se_int) sR) sa_nil)) sR) (se_sc (sc_mul (se_sc (sc_lst (sa_cons se_int (sa_cons se_int (sa_cons se_int (sa_cons se_int (sa_cons se_int sa_nil)))))) sR) (se_var 2)) sR)) sR) sa_nil)) (len_consA (len_consA (fun _ _ h => len_nilA h)))))
  (sss_cons (ss_set 4 sc.nd (sc_fn0 O__law_lines hT hx hr (by decide)))
  (sss_cons (ss_set 5 sc.nd (sc_lst sa_nil))
  (sss_cons (ss_set 6 sc.nd (sc_se se_int))
  (sss_cons (ss_for PassesOwn.never rfl (pi_range1 (by rfl) m_range (sa_cons (se_ixv 3 se_int) sa_nil)) ii_rng1 (pg_name (i := 7) sc.nd rfl (by first | exact Or.inl rfl | exact Or.inr rfl)) (tg_name 7)
  (sss_cons (ss_fz [3] sR (ss_unpack (se_sc (sc_slice (se_var 3) (so_some (sb_se (se_sc (sc_add se_int (se_sc (sc_mul se_int (se_var 7)) sR)) sR))) (so_some (sb_se (se_sc (sc_add se_int (se_sc (sc_mul se_int (se_var 7)) sR)) sR)))) sR) (pg_or (pg_tup (n := 5) rfl (pgs_cons (pg_name (i := 8) sc.nd rfl (by first | exact Or.inl rfl | exact Or.inr rfl)) (pgs_cons (pg_name (i := 9) sc.nd rfl (by first | exact Or.inl rfl | exact Or.inr rfl)) (pgs_cons (pg_name (i := 10) sc.nd rfl (by first | exact Or.inl rfl | exact Or.inr rfl)) (pgs_cons (pg_name (i := 11) sc.nd rfl (by first | exact Or.inl rfl | exact Or.inr rfl)) (pgs_cons (pg_name (i := 12) sc.nd rfl (by first | exact Or.inl rfl | exact Or.inr rfl)) pgs_nil)))))) (pg_unl (n := 5) rfl (pgs_cons (pg_name (i := 8) sc.nd rfl (by first | exact Or.inl rfl | exact Or.inr rfl)) (pgs_cons (pg_name (i := 9) sc.nd rfl (by first | exact Or.inl rfl | exact Or.inr rfl)) (pgs_cons (pg_name (i := 10) sc.nd rfl (by first | exact Or.inl rfl | exact Or.inr rfl)) (pgs_cons (pg_name (i := 11) sc.nd rfl (by first | exact Or.inl rfl | exact Or.inr rfl)) (pgs_cons (pg_name (i := 12) sc.nd rfl (by first | exact Or.inl rfl | exact Or.inr rfl)) pgs_nil))))))) (tg_or (tg_tup (tgs_cons (tg_name 8) (tgs_cons (tg_name 9) (tgs_cons (tg_name 10) (tgs_cons (tg_name 11) (tgs_cons (tg_name 12) tgs_nil))))) (ar_cons (ar_cons (ar_cons (ar_cons (ar_cons ar_nil)))))) (tg_unl (tgs_cons (tg_name 8) (tgs_cons (tg_name 9) (tgs_cons (tg_name 10) (tgs_cons (tg_name 11) (tgs_cons (tg_name 12) tgs_nil))))) (ar_cons (ar_cons (ar_cons (ar_cons (ar_cons ar_nil)))))))))
  (sss_cons (ss_fz [6] sR (ss_set 13 sc.nd (sc_add (se_var 6) (se_var 8))))
  (sss_one (ss_fz [13] sR (ss_if (st_w (sw_and (c_le (sb_se (se_sc (sc_add (se_var 13) (se_var 9)) sR)) (sb_se (se_len (by rfl) m_len (sb_var 1)))).1 (sw_and1 (c_gt (sb_se (se_sc (sc_add (se_var 9) (se_var 10)) sR)) (sb_se se_int)).1)))
  (sss_cons (ss_fz [13] sR (ss_append 5 (sa_cons (se_tup (sa_cons (se_var 13) (sa_cons (se_sc (sc_slice (se_var 1) (so_some (sb_var 13)) (so_some (sb_se (se_sc (sc_add (se_var 13) (se_var 9)) sR)))) sR) (sa_cons (se_sc (sc_slice (se_sc (sc_lst (sa_cons (se_ixv 4 (se_var 11)) (sa_cons (se_ixv 4 (se_var 12)) sa_nil))) sR) so_none (so_some (sb_var 10))) sR) sa_nil)))) sa_nil)))
  (sss_one (ss_fz [13] sR (ss_set 6 sc.nd (sc_add (se_sc (sc_add (se_var 13) (se_var 9)) sR) se_int)))))
  sss_nil))))))
  (sss_one (ss_fz [5] sR (ss_ret (se_var 5)))))))))
abbrev s__law_done : Stmt := topS 43
theorem sc__law_done : FnScope ["_law_page_here", "_law_change_here", "_law_found", "_law_at", "_law_place", "_law_taken", "_law_put"] ["_law_page_here", "_law_change_here"] (L2.defScope s__law_done) := ⟨rfl, rfl, rfl, by decide +kernel, rfl, by decide +kernel, by decide +kernel⟩
def tg__law_done_1 : TgD :=
  (tupT (consT (nameT 4) (consT (nameT 5) (consT (nameT 6) nilT))))
def lb__law_done_1 : FS :=
  (seqF (fzF [2] (setF 2 (bi (mp (bi (vE 2) (mp (slF (vE 0) (un1 (vB 3) intO) (un1 (vB 4) intO) cutC) frz) addC) frz) (vE 6) addC)))
  (setF 3 (bi (vE 4) (un1 (vB 5) lenD) addC)))
def g__law_done : FS :=
  (seqF (setF 2 (un1 nilA ownC))
  (seqF (setF 3 (mp (fun _ => some (true, D.int 0)) dC))
  (seqF (forF (un1 (vE 1) itemsE) tg__law_done_1 lb__law_done_1)
  (fzF [2] (retF (mp (bi (vE 2) (mp (slF (vE 0) (un1 (vB 3) intO) (fun _ => some none) cutC) frz) addC) frz))))))
def φ__law_done : Phi := phi 7 g__law_done
theorem ok__law_done (hx : NoE CX) (Df : Def K mg c "_law_done" s__law_done ["_law_page_here", "_law_change_here"]) (m_len : mg "len" = none) : Okd P w K mg base CX cs 2 "_law_done" 2 φ__law_done :=
  have sc := sc__law_done
  fnD (k := 1) Df sc fun f A outer s H E R hr sR hT => (sss_cons (ss_set 2 sc.nd (sc_lst sa_nil))
  (sss_cons (ss_set 3 sc.nd (sc_se se_int))
  (sss_cons (ss_for PassesOwn.never rfl (pi_list (se_var 1)) ii_list (pg_tup (n := 3) rfl (pgs_cons (pg_name (i := 4) sc.nd rfl (by first | exact Or.inl rfl | exact Or.inr rfl)) (pgs_cons (pg_name (i := 5) sc.nd rfl (by first | exact Or.inl rfl | exact Or.inr rfl)) (pgs_cons (pg_name (i := 6) sc.nd rfl (by first | exact Or.inl rfl | exact Or.inr rfl)) pgs_nil)))) (tg_tup (tgs_cons (tg_name 4) (tgs_cons (tg_name 5) (tgs_cons (tg_name 6) tgs_nil))) (ar_cons (ar_cons (ar_cons ar_nil))))
  (sss_cons (ss_fz [2] sR (ss_set 2 sc.nd (sc_add (se_sc (sc_add (se_var 2) (se_sc (sc_slice (se_var 0) (so_some (sb_var 3)) (so_some (sb_var 4))) sR)) sR) (se_var 6))))
  (sss_one (ss_set 3 sc.nd (sc_add (se_var 4) (se_len (by rfl) m_len (sb_var 5)))))))
  (sss_one (ss_fz [2] sR (ss_ret (se_sc (sc_add (se_var 2) (se_sc (sc_slice (se_var 0) (so_some (sb_var 3)) so_none) sR)) sR)))))))
abbrev s__law_copied : Stmt := topS 44
theorem sc__law_copied : FnScope ["_law_change_here", "_law_place", "_law_taken", "_law_put"] ["_law_change_here"] (L2.defScope s__law_copied) := ⟨rfl, rfl, rfl, by decide +kernel, rfl, by decide +kernel, by decide +kernel⟩
def tg__law_copied_1 : TgD :=
  (tupT (consT (nameT 1) (consT (nameT 2) (consT (nameT 3) nilT))))
def el__law_copied_1 : FE :=
  (un1 (consA (vE 1) (consA (mp (un1 (vE 2) listC) frz) (consA (mp (un1 (vE 3) listC) frz) nilA))) tupD)
def g__law_copied : FS :=
  (retF (mp (lcF (un1 (vE 0) itemsE) ([("_law_place", 1), ("_law_taken", 2), ("_law_put", 3)].map (·.2)) tg__law_copied_1 (fun _ => some true) el__law_copied_1) frz))
def φ__law_copied : Phi := phi 4 g__law_copied
theorem ok__law_copied (hx : NoE CX) (Df : Def K mg c "_law_copied" s__law_copied ["_law_change_here"]) (m_list : mg "list" = none) : Okd P w K mg base CX cs 2 "_law_copied" 1 φ__law_copied :=
  have sc := sc__law_copied
  fnD (k := 1) Df sc fun f A outer s H E R hr sR hT => (sss_one (ss_ret (se_sc (sc_lc (own := [("_law_place", 1), ("_law_taken", 2), ("_law_put", 3)]) rfl sc.nd (pi_list (se_var 0)) ii_list (blkOk_by (by rfl)) (fun _ _ _ _ _ => (pg_tup (n := 3) rfl (pgs_cons (pg_name (i := 1) sc.nd rfl (by first | exact Or.inl rfl | exact Or.inr rfl)) (pgs_cons (pg_name (i := 2) sc.nd rfl (by first | exact Or.inl rfl | exact Or.inr rfl)) (pgs_cons (pg_name (i := 3) sc.nd rfl (by first | exact Or.inl rfl | exact Or.inr rfl)) pgs_nil))))) (tg_tup (tgs_cons (tg_name 1) (tgs_cons (tg_name 2) (tgs_cons (tg_name 3) tgs_nil))) (ar_cons (ar_cons (ar_cons ar_nil)))) (by decide) (fun _ _ _ _ _ => pts_nil) tt_yes (fun _ _ _ _ _ => (se_tup (sa_cons (se_var 1) (sa_cons (se_sc (sc_list (by rfl) m_list (se_var 2)) sR) (sa_cons (se_sc (sc_list (by rfl) m_list (se_var 3)) sR) sa_nil)))))) sR)))
abbrev s__law_fits : Stmt := topS 45
theorem sc__law_fits : FnScope ["_law_page_here", "_law_change_here", "_law_k", "_law_place", "_law_taken", "_law_put", "_law_at"] ["_law_page_here", "_law_change_here"] (L2.defScope s__law_fits) := ⟨rfl, rfl, rfl, by decide +kernel, rfl, by decide +kernel, by decide +kernel⟩
def tg__law_fits_1 : TgD :=
  (nameT 6)
def lb__law_fits_1 : FS :=
  (ifF (orF (bi (mp (mp (bi (vE 3) (vE 6) addC) frz) (·.2)) (mp (un1 (vB 0) lenD) (·.2)) (cI ge2)) (bi (bi (vB 0) (mp (mp (bi (vE 3) (vE 6) addC) frz) (·.2)) itemB) (bi (vB 4) (vB 6) itemB) neD)) (retF (un1 (consA (vE 2) (consA (vE 6) nilA)) tupD)) nxF)
def tg__law_fits_2 : TgD :=
  (nameT 2)
def lb__law_fits_2 : FS :=
  (seqF (unpF (xvE 1 (vE 2)) (orT (tupT (consT (nameT 3) (consT (nameT 4) (consT (nameT 5) nilT)))) (unlT (consT (nameT 3) (consT (nameT 4) (consT (nameT 5) nilT))))))
  (seqF (forF (un1 (consA (un1 (vB 4) lenD) nilA) rng1) tg__law_fits_1 lb__law_fits_1)
  (ifF (bi (vB 3) (mp (un1 (vB 0) lenD) (·.2)) (cI gt2)) (retF (un1 (consA (vE 2) (consA (fun _ => some (true, D.int 0)) nilA)) tupD)) nxF)))
def g__law_fits : FS :=
  (seqF (forF (un1 (consA (un1 (vB 1) lenD) nilA) rng1) tg__law_fits_2 lb__law_fits_2)
  (retF (fun _ => some (true, D.non))))
def φ__law_fits : Phi := phi 7 g__law_fits
theorem ok__law_fits (hx : NoE CX) (Df : Def K mg c "_law_fits" s__law_fits ["_law_page_here", "_law_change_here"]) (m_len : mg "len" = none) (m_range : mg "range" = none) : Okd P w K mg base CX cs 2 "_law_fits" 2 φ__law_fits :=
  have sc := sc__law_fits
  fnD (k := 1) Df sc fun f A outer s H E R hr sR hT => (sss_cons (ss_for PassesOwn.never rfl (pi_range1 (by rfl) m_range (sa_cons (se_len (by rfl) m_len (sb_var 1)) sa_nil)) ii_rng1 (pg_name (i := 2) sc.nd rfl (by first | exact Or.inl rfl | exact Or.inr rfl)) (tg_name 2)
  (sss_cons (ss_unpack (se_ixv 1 (se_var 2)) (pg_or (pg_tup (n := 3) rfl (pgs_cons (pg_name (i := 3) sc.nd rfl (by first | exact Or.inl rfl | exact Or.inr rfl)) (pgs_cons (pg_name (i := 4) sc.nd rfl (by first | exact Or.inl rfl | exact Or.inr rfl)) (pgs_cons (pg_name (i := 5) sc.nd rfl (by first | exact Or.inl rfl | exact Or.inr rfl)) pgs_nil)))) (pg_unl (n := 3) rfl (pgs_cons (pg_name (i := 3) sc.nd rfl (by first | exact Or.inl rfl | exact Or.inr rfl)) (pgs_cons (pg_name (i := 4) sc.nd rfl (by first | exact Or.inl rfl | exact Or.inr rfl)) (pgs_cons (pg_name (i := 5) sc.nd rfl (by first | exact Or.inl rfl | exact Or.inr rfl)) pgs_nil))))) (tg_or (tg_tup (tgs_cons (tg_name 3) (tgs_cons (tg_name 4) (tgs_cons (tg_name 5) tgs_nil))) (ar_cons (ar_cons (ar_cons ar_nil)))) (tg_unl (tgs_cons (tg_name 3) (tgs_cons (tg_name 4) (tgs_cons (tg_name 5) tgs_nil))) (ar_cons (ar_cons (ar_cons ar_nil))))))
  (sss_cons (ss_for PassesOwn.never rfl (pi_range1 (by rfl) m_range (sa_cons (se_len (by rfl) m_len (sb_var 4)) sa_nil)) ii_rng1 (pg_name (i := 6) sc.nd rfl (by first | exact Or.inl rfl | exact Or.inr rfl)) (tg_name 6)
  (sss_one (ss_if (st_w (sw_or (c_ge (sb_se (se_sc (sc_add (se_var 3) (se_var 6)) sR)) (sb_se (se_len (by rfl) m_len (sb_var 0)))).1 (sw_or1 (c_ne hr (sb_ix (sb_var 0) (sb_se (se_sc (sc_add (se_var 3) (se_var 6)) sR))) (sb_ix (sb_var 4) (sb_var 6))).1)))
  (sss_one (ss_ret (se_tup (sa_cons (se_var 2) (sa_cons (se_var 6) sa_nil)))))
  sss_nil)))
  (sss_one (ss_if (c_gt (sb_var 3) (sb_se (se_len (by rfl) m_len (sb_var 0)))).1
  (sss_one (ss_ret (se_tup (sa_cons (se_var 2) (sa_cons se_int sa_nil)))))
  sss_nil)))))
  (sss_one (ss_ret se_non)))
abbrev s__law_is_change : Stmt := topS 46
theorem sc__law_is_change : FnScope ["_law_change_here", "_law_last", "_law_piece"] ["_law_change_here"] (L2.defScope s__law_is_change) := ⟨rfl, rfl, rfl, by decide +kernel, rfl, by decide +kernel, by decide +kernel⟩
def tg__law_is_change_1 : TgD :=
  (nameT 2)
def lb__law_is_change_1 : FS :=
  (seqF (ifF (orF (mp (un1 (mp (un1 (vB 2) (isiE .tuple)) (·.2)) boolD) (!·)) (orF (bi (mp (un1 (vB 2) lenD) (·.2)) (mp (fun _ => some (true, D.int 3)) (·.2)) neD) (orF (un1 (mp (un1 (bi (vB 2) (mp (fun _ => some (true, D.int 0)) (·.2)) itemB) (isiE .bool)) (·.2)) boolD) (bi (bi (vB 2) (mp (fun _ => some (true, D.int 0)) (·.2)) itemB) (vB 1) (cI le2))))) (retF (fun _ => some (true, D.bl false))) nxF)
  (seqF (ifF (orF (mp (un1 (mp (un1 (bi (vB 2) (mp (fun _ => some (true, D.int 1)) (·.2)) itemB) (isiE .list)) (·.2)) boolD) (!·)) (orF (mp (un1 (mp (un1 (bi (vB 2) (mp (fun _ => some (true, D.int 2)) (·.2)) itemB) (isiE .list)) (·.2)) boolD) (!·)) (bi (mp (mp (bi (xvE 2 (fun _ => some (true, D.int 1))) (xvE 2 (fun _ => some (true, D.int 2))) addC) frz) (·.2)) (mp (mp (un1 nilA ownC) frz) (·.2)) eqD))) (retF (fun _ => some (true, D.bl false))) nxF)
  (setF 1 (bi (xvE 2 (fun _ => some (true, D.int 0))) (un1 (bi (vB 2) (mp (fun _ => some (true, D.int 1)) (·.2)) itemB) lenD) addC))))
def g__law_is_change : FS :=
  (seqF (ifF (mp (un1 (mp (un1 (vB 0) (isiE .list)) (·.2)) boolD) (!·)) (retF (fun _ => some (true, D.bl false))) nxF)
  (seqF (setF 1 (mp (un1 (mp (fun _ => some (true, D.int 1)) (·.2)) negD) dC))
  (seqF (forF (un1 (vE 0) itemsE) tg__law_is_change_1 lb__law_is_change_1)
  (retF (fun _ => some (true, D.bl true))))))
def φ__law_is_change : Phi := phi 3 g__law_is_change
theorem ok__law_is_change (hx : NoE CX) (Df : Def K mg c "_law_is_change" s__law_is_change ["_law_change_here"]) (m_bool : mg "bool" = none) (m_isinstance : mg "isinstance" = none) (m_len : mg "len" = none) (m_list : mg "list" = none) (m_tuple : mg "tuple" = none) : Okd P w K mg base CX cs 2 "_law_is_change" 1 φ__law_is_change :=
  have sc := sc__law_is_change
  fnD (k := 1) Df sc fun f A outer s H E R hr sR hT => (sss_cons (ss_if (st_not (st_val (sb_se (se_isi .list (by rfl) m_isinstance (sb_var 0) (by rfl) m_list (by decide +kernel)))))
  (sss_one (ss_ret se_bl))
  sss_nil)
  (sss_cons (ss_set 1 sc.nd (sc_se (se_neg (sb_se se_int))))
  (sss_cons (ss_for PassesOwn.never rfl (pi_list (se_var 0)) ii_list (pg_name (i := 2) sc.nd rfl (by first | exact Or.inl rfl | exact Or.inr rfl)) (tg_name 2)
  (sss_cons (ss_if (st_w (sw_or (st_not (st_val (sb_se (se_isi .tuple (by rfl) m_isinstance (sb_var 2) (by rfl) m_tuple (by decide +kernel))))) (sw_or (c_ne hr (sb_se (se_len (by rfl) m_len (sb_var 2))) (sb_se se_int)).1 (sw_or (st_val (sb_se (se_isi .bool (by rfl) m_isinstance (sb_ix (sb_var 2) (sb_se se_int)) (by rfl) m_bool (by decide +kernel)))) (sw_or1 (c_le (sb_ix (sb_var 2) (sb_se se_int)) (sb_var 1)).1)))))
  (sss_one (ss_ret se_bl))
  sss_nil)
  (sss_cons (ss_if (st_w (sw_or (st_not (st_val (sb_se (se_isi .list (by rfl) m_isinstance (sb_ix (sb_var 2) (sb_se se_int)) (by rfl) m_list (by decide +kernel))))) (sw_or (st_not (st_val (sb_se (se_isi .list (by rfl) m_isinstance (sb_ix (sb_var 2) (sb_se se_int)) (by rfl) m_list (by decide +kernel))))) (sw_or1 (c_eq hr (sb_se (se_sc (sc_add (se_ixv 2 se_int) (se_ixv 2 se_int)) sR)) (sb_se (se_sc (sc_lst sa_nil) sR))).1))))
  (sss_one (ss_ret se_bl))
  sss_nil)
  (sss_one (ss_set 1 sc.nd (sc_add (se_ixv 2 se_int) (se_len (by rfl) m_len (sb_ix (sb_var 2) (sb_se se_int)))))))))
  (sss_one (ss_ret se_bl)))))
abbrev s__law_whole : Stmt := topS 47
theorem sc__law_whole : FnScope ["_law_rows", "_law_row", "_law_one"] ["_law_rows"] (L2.defScope s__law_whole) := ⟨rfl, rfl, rfl, by decide +kernel, rfl, by decide +kernel, by decide +kernel⟩
def tg__law_whole_1 : TgD :=
  (nameT 2)
def el__law_whole_1 : FE :=
  (andE (un1 (vB 2) (isiE .int)) (un1 (mp (un1 (vB 2) (isiE .bool)) (·.2)) notD))
def tg__law_whole_2 : TgD :=
  (nameT 1)
def lb__law_whole_1 : FS :=
  (ifF (orF (mp (un1 (mp (un1 (vB 1) (isiE .list)) (·.2)) boolD) (!·)) (mp (un1 (mp (un1 (mp (mp (lcF (un1 (vE 1) itemsE) ([("_law_one", 2)].map (·.2)) tg__law_whole_1 (fun _ => some true) el__law_whole_1) frz) (·.2)) (allB fun bs => bs.all id)) (·.2)) boolD) (!·))) (retF (fun _ => some (true, D.bl false))) nxF)
def g__law_whole : FS :=
  (seqF (forF (un1 (vE 0) itemsE) tg__law_whole_2 lb__law_whole_1)
  (retF (un1 (vB 0) (isiE .list))))
def φ__law_whole : Phi := phi 3 g__law_whole
theorem ok__law_whole (hx : NoE CX) (Df : Def K mg c "_law_whole" s__law_whole ["_law_rows"]) (m_all : mg "all" = none) (m_bool : mg "bool" = none) (m_int : mg "int" = none) (m_isinstance : mg "isinstance" = none) (m_list : mg "list" = none) : Okd P w K mg base CX cs 2 "_law_whole" 1 φ__law_whole :=
  have sc := sc__law_whole
  fnD (k := 1) Df sc fun f A outer s H E R hr sR hT => (sss_cons (ss_for PassesOwn.never rfl (pi_list (se_var 0)) ii_list (pg_name (i := 1) sc.nd rfl (by first | exact Or.inl rfl | exact Or.inr rfl)) (tg_name 1)
  (sss_one (ss_if (st_w (sw_or (st_not (st_val (sb_se (se_isi .list (by rfl) m_isinstance (sb_var 1) (by rfl) m_list (by decide +kernel))))) (sw_or1 (st_not (st_val (sb_se (se_allB rfl (by rfl) m_all (sb_se (se_sc (sc_lc (own := [("_law_one", 2)]) rfl sc.nd (pi_list (se_var 1)) ii_list (blkOk_by (by rfl)) (fun _ _ _ _ _ => (pg_name (i := 2) sc.nd rfl (by first | exact Or.inl rfl | exact Or.inr rfl))) (tg_name 2) (by decide) (fun _ _ _ _ _ => pts_nil) tt_yes (fun _ _ _ _ _ => (se_andV (se_isi .int (by rfl) m_isinstance (sb_var 2) (by rfl) m_int (by decide +kernel)) (se_one (se_not (sb_se (se_isi .bool (by rfl) m_isinstance (sb_var 2) (by rfl) m_bool (by decide +kernel)))))))) sR)))))))))
  (sss_one (ss_ret se_bl))
  sss_nil)))
  (sss_one (ss_ret (se_isi .list (by rfl) m_isinstance (sb_var 0) (by rfl) m_list (by decide +kernel)))))
abbrev s__law_heights_right : Stmt := topS 48
theorem sc__law_heights_right : FnScope ["_law_old", "_law_new", "_law_change_here", "_law_heights", "_law_i", "_law_j", "_law_place", "_law_taken", "_law_put", "_law_row"] ["_law_old", "_law_new", "_law_change_here", "_law_heights"] (L2.defScope s__law_heights_right) := ⟨rfl, rfl, rfl, by decide +kernel, rfl, by decide +kernel, by decide +kernel⟩
def tg__law_heights_right_1 : TgD :=
  (nameT 9)
def el__law_heights_right_1 : FE :=
  (blE (bi (mp (un1 (vB 9) lenD) (·.2)) (mp (mp (bi (un1 (vB 1) lenD) (fun _ => some (true, D.int 1)) addC) frz) (·.2)) eqD))
def tg__law_heights_right_2 : TgD :=
  (nameT 5)
def lb__law_heights_right_1 : FS :=
  (seqF (ifF (orF (andF (bi (vB 4) (mp (fun _ => some (true, D.int 0)) (·.2)) (cI gt2)) (bi (bi (bi (vB 3) (vB 4) itemB) (vB 5) itemB) (mp (mp (bi (bi (xvE 3 (subF (vB 4) (mp (fun _ => some (true, D.int 1)) (·.2)))) (vE 5) fun x y => itemE x y.2) (fun _ => some (true, D.int 1)) addC) frz) (·.2)) (cI gt2))) (andF (bi (vB 5) (mp (fun _ => some (true, D.int 0)) (·.2)) (cI gt2)) (bi (bi (bi (vB 3) (vB 4) itemB) (vB 5) itemB) (mp (mp (bi (bi (xvE 3 (vE 4)) (subF (vB 5) (mp (fun _ => some (true, D.int 1)) (·.2))) fun x y => itemE x y.2) (fun _ => some (true, D.int 1)) addC) frz) (·.2)) (cI gt2)))) (retF (fun _ => some (true, D.bl false))) nxF)
  (ifF (andF (bi (vB 4) (mp (fun _ => some (true, D.int 0)) (·.2)) (cI gt2)) (andF (bi (vB 5) (mp (fun _ => some (true, D.int 0)) (·.2)) (cI gt2)) (andF (bi (bi (vB 0) (mp (subF (vB 4) (mp (fun _ => some (true, D.int 1)) (·.2))) (·.2)) itemB) (bi (vB 1) (mp (subF (vB 5) (mp (fun _ => some (true, D.int 1)) (·.2))) (·.2)) itemB) eqD) (bi (bi (bi (vB 3) (vB 4) itemB) (vB 5) itemB) (bi (bi (vB 3) (mp (subF (vB 4) (mp (fun _ => some (true, D.int 1)) (·.2))) (·.2)) itemB) (mp (subF (vB 5) (mp (fun _ => some (true, D.int 1)) (·.2))) (·.2)) itemB) (cI gt2))))) (retF (fun _ => some (true, D.bl false))) nxF))
def tg__law_heights_right_3 : TgD :=
  (nameT 4)
def lb__law_heights_right_2 : FS :=
  (forF (un1 (consA (mp (bi (un1 (vB 1) lenD) (fun _ => some (true, D.int 1)) addC) frz) nilA) rng1) tg__law_heights_right_2 lb__law_heights_right_1)
def tg__law_heights_right_4 : TgD :=
  (tupT (consT (nameT 6) (consT (nameT 7) (consT (nameT 8) nilT))))
def el__law_heights_right_2 : FE :=
  (mp (bi (un1 (vB 7) lenD) (un1 (vB 8) lenD) addC) frz)
def g__law_heights_right : FS :=
  (seqF (ifF (orF (bi (mp (un1 (vB 3) lenD) (·.2)) (mp (mp (bi (un1 (vB 0) lenD) (fun _ => some (true, D.int 1)) addC) frz) (·.2)) neD) (orF (mp (un1 (mp (un1 (mp (mp (lcF (un1 (vE 3) itemsE) ([("_law_row", 9)].map (·.2)) tg__law_heights_right_1 (fun _ => some true) el__law_heights_right_1) frz) (·.2)) (allB fun bs => bs.all id)) (·.2)) boolD) (!·)) (bi (bi (bi (vB 3) (mp (fun _ => some (true, D.int 0)) (·.2)) itemB) (mp (fun _ => some (true, D.int 0)) (·.2)) itemB) (mp (fun _ => some (true, D.int 0)) (·.2)) neD))) (retF (fun _ => some (true, D.bl false))) nxF)
  (seqF (forF (un1 (consA (mp (bi (un1 (vB 0) lenD) (fun _ => some (true, D.int 1)) addC) frz) nilA) rng1) tg__law_heights_right_3 lb__law_heights_right_2)
  (retF (blE (bi (bi (bi (vB 3) (mp (un1 (mp (fun _ => some (true, D.int 1)) (·.2)) negD) (·.2)) itemB) (mp (un1 (mp (fun _ => some (true, D.int 1)) (·.2)) negD) (·.2)) itemB) (mp (un1 (mp (mp (lcF (un1 (vE 2) itemsE) ([("_law_place", 6), ("_law_taken", 7), ("_law_put", 8)].map (·.2)) tg__law_heights_right_4 (fun _ => some true) el__law_heights_right_2) frz) (·.2)) sumL) (·.2)) eqD)))))
def φ__law_heights_right : Phi := phi 10 g__law_heights_right
theorem ok__law_heights_right (hx : NoE CX) (Df : Def K mg c "_law_heights_right" s__law_heights_right ["_law_old", "_law_new", "_law_change_here", "_law_heights"]) (m_all : mg "all" = none) (m_len : mg "len" = none) (m_range : mg "range" = none) (m_sum : mg "sum" = none) : Okd P w K mg base CX cs 2 "_law_heights_right" 4 φ__law_heights_right :=
  have sc := sc__law_heights_right
  fnD (k := 1) Df sc fun f A outer s H E R hr sR hT => (sss_cons (ss_if (st_w (sw_or (c_ne hr (sb_se (se_len (by rfl) m_len (sb_var 3))) (sb_se (se_sc (sc_add (se_len (by rfl) m_len (sb_var 0)) se_int) sR))).1 (sw_or (st_not (st_val (sb_se (se_allB rfl (by rfl) m_all (sb_se (se_sc (sc_lc (own := [("_law_row", 9)]) rfl sc.nd (pi_list (se_var 3)) ii_list (blkOk_by (by rfl)) (fun _ _ _ _ _ => (pg_name (i := 9) sc.nd rfl (by first | exact Or.inl rfl | exact Or.inr rfl))) (tg_name 9) (by decide) (fun _ _ _ _ _ => pts_nil) tt_yes (fun _ _ _ _ _ => (c_eq hr (sb_se (se_len (by rfl) m_len (sb_var 9))) (sb_se (se_sc (sc_add (se_len (by rfl) m_len (sb_var 1)) se_int) sR))).2)) sR)))))) (sw_or1 (c_ne hr (sb_ix (sb_ix (sb_var 3) (sb_se se_int)) (sb_se se_int)) (sb_se se_int)).1))))
  (sss_one (ss_ret se_bl))
  sss_nil)
  (sss_cons (ss_for PassesOwn.never rfl (pi_range1 (by rfl) m_range (sa_cons (se_sc (sc_add (se_len (by rfl) m_len (sb_var 0)) se_int) sR) sa_nil)) ii_rng1 (pg_name (i := 4) sc.nd rfl (by first | exact Or.inl rfl | exact Or.inr rfl)) (tg_name 4)
  (sss_one (ss_for PassesOwn.never rfl (pi_range1 (by rfl) m_range (sa_cons (se_sc (sc_add (se_len (by rfl) m_len (sb_var 1)) se_int) sR) sa_nil)) ii_rng1 (pg_name (i := 5) sc.nd rfl (by first | exact Or.inl rfl | exact Or.inr rfl)) (tg_name 5)
  (sss_cons (ss_if (st_w (sw_or (st_w (sw_and (c_gt (sb_var 4) (sb_se se_int)).1 (sw_and1 (c_gt (sb_ix (sb_ix (sb_var 3) (sb_var 4)) (sb_var 5)) (sb_se (se_sc (sc_add (se_ix (se_ixv 3 (se_sub (sb_var 4) (sb_se se_int))) (se_var 5)) se_int) sR))).1))) (sw_or1 (st_w (sw_and (c_gt (sb_var 5) (sb_se se_int)).1 (sw_and1 (c_gt (sb_ix (sb_ix (sb_var 3) (sb_var 4)) (sb_var 5)) (sb_se (se_sc (sc_add (se_ix (se_ixv 3 (se_var 4)) (se_sub (sb_var 5) (sb_se se_int))) se_int) sR))).1))))))
  (sss_one (ss_ret se_bl))
  sss_nil)
  (sss_one (ss_if (st_w (sw_and (c_gt (sb_var 4) (sb_se se_int)).1 (sw_and (c_gt (sb_var 5) (sb_se se_int)).1 (sw_and (c_eq hr (sb_ix (sb_var 0) (sb_se (se_sub (sb_var 4) (sb_se se_int)))) (sb_ix (sb_var 1) (sb_se (se_sub (sb_var 5) (sb_se se_int))))).1 (sw_and1 (c_gt (sb_ix (sb_ix (sb_var 3) (sb_var 4)) (sb_var 5)) (sb_ix (sb_ix (sb_var 3) (sb_se (se_sub (sb_var 4) (sb_se se_int)))) (sb_se (se_sub (sb_var 5) (sb_se se_int))))).1)))))
  (sss_one (ss_ret se_bl))
  sss_nil))))))
  (sss_one (ss_ret (c_eq hr (sb_ix (sb_ix (sb_var 3) (sb_se (se_neg (sb_se se_int)))) (sb_se (se_neg (sb_se se_int)))) (sb_se (se_sumL rfl (by rfl) m_sum (sb_se (se_sc (sc_lc (own := [("_law_place", 6), ("_law_taken", 7), ("_law_put", 8)]) rfl sc.nd (pi_list (se_var 2)) ii_list (blkOk_by (by rfl)) (fun _ _ _ _ _ => (pg_tup (n := 3) rfl (pgs_cons (pg_name (i := 6) sc.nd rfl (by first | exact Or.inl rfl | exact Or.inr rfl)) (pgs_cons (pg_name (i := 7) sc.nd rfl (by first | exact Or.inl rfl | exact Or.inr rfl)) (pgs_cons (pg_name (i := 8) sc.nd rfl (by first | exact Or.inl rfl | exact Or.inr rfl)) pgs_nil))))) (tg_tup (tgs_cons (tg_name 6) (tgs_cons (tg_name 7) (tgs_cons (tg_name 8) tgs_nil))) (ar_cons (ar_cons (ar_cons ar_nil)))) (by decide) (fun _ _ _ _ _ => pts_nil) tt_yes (fun _ _ _ _ _ => (se_sc (sc_add (se_len (by rfl) m_len (sb_var 7)) (se_len (by rfl) m_len (sb_var 8))) sR))) sR))))).2))))
abbrev s__law_fewest : Stmt := topS 49
theorem sc__law_fewest : FnScope ["_law_old", "_law_new", "_law_last", "_law_line", "_law_row", "_law_at", "_law_least"] ["_law_old", "_law_new"] (L2.defScope s__law_fewest) := ⟨rfl, rfl, rfl, by decide +kernel, rfl, by decide +kernel, by decide +kernel⟩
def tg__law_fewest_1 : TgD :=
  (nameT 5)
def lb__law_fewest_1 : FS :=
  (seqF (setF 6 (bi (un1 (consA (xvE 2 (mp (bi (vE 5) (fun _ => some (true, D.int 1)) addC) frz)) (consA (xvE 4 (vE 5)) nilA)) minD) (fun _ => some (true, D.int 1)) addC))
  (fzF [6] (ownF 4 (consA (ifF (bi (bi (vB 1) (vB 5) itemB) (vB 3) eqD) (un1 (consA (vE 6) (consA (xvE 2 (vE 5)) nilA)) minD) (vE 6)) nilA) appOp)))
def tg__law_fewest_2 : TgD :=
  (nameT 3)
def lb__law_fewest_2 : FS :=
  (seqF (setF 4 (un1 (consA (mp (bi (xvE 2 (fun _ => some (true, D.int 0))) (fun _ => some (true, D.int 1)) addC) frz) nilA) ownC))
  (seqF (forF (un1 (consA (un1 (vB 1) lenD) nilA) rng1) tg__law_fewest_1 lb__law_fewest_1)
  (fzF [4] (setF 2 (mp (vE 4) dC)))))
def g__law_fewest : FS :=
  (seqF (setF 2 (un1 (mp (mp (bi (un1 (vB 1) lenD) (fun _ => some (true, D.int 1)) addC) frz) (·.2)) lrgD))
  (seqF (forF (un1 (vE 0) itemsE) tg__law_fewest_2 lb__law_fewest_2)
  (retF (xvE 2 (un1 (mp (fun _ => some (true, D.int 1)) (·.2)) negD)))))
def φ__law_fewest : Phi := phi 7 g__law_fewest
theorem ok__law_fewest (hx : NoE CX) (Df : Def K mg c "_law_fewest" s__law_fewest ["_law_old", "_law_new"]) (m_len : mg "len" = none) (m_list : mg "list" = none) (m_min : mg "min" = none) (m_range : mg "range" = none) : Okd P w K mg base CX cs 2 "_law_fewest" 2 φ__law_fewest :=
  have sc := sc__law_fewest
  fnD (k := 1) Df sc fun f A outer s H E R hr sR hT => (sss_cons (ss_set 2 sc.nd (sc_listRg rfl (by rfl) m_list (by rfl) m_range (sb_se (se_sc (sc_add (se_len (by rfl) m_len (sb_var 1)) se_int) sR))))
  (sss_cons (ss_for PassesOwn.never rfl (pi_list (se_var 0)) ii_list (pg_name (i := 3) sc.nd rfl (by first | exact Or.inl rfl | exact Or.inr rfl)) (tg_name 3)
  (sss_cons (ss_set 4 sc.nd (sc_lst (sa_cons (se_sc (sc_add (se_ixv 2 se_int) se_int) sR) sa_nil)))
  (sss_cons (ss_for PassesOwn.never rfl (pi_range1 (by rfl) m_range (sa_cons (se_len (by rfl) m_len (sb_var 1)) sa_nil)) ii_rng1 (pg_name (i := 5) sc.nd rfl (by first | exact Or.inl rfl | exact Or.inr rfl)) (tg_name 5)
  (sss_cons (ss_set 6 sc.nd (sc_add (se_min2 rfl (by rfl) m_min (sa_cons (se_ixv 2 (se_sc (sc_add (se_var 5) se_int) sR)) (sa_cons (se_ixv 4 (se_var 5)) sa_nil))) se_int))
  (sss_one (ss_fz [6] sR (ss_append 4 (sa_cons (se_if (c_eq hr (sb_ix (sb_var 1) (sb_var 5)) (sb_var 3)).1 (se_min2 rfl (by rfl) m_min (sa_cons (se_var 6) (sa_cons (se_ixv 2 (se_var 5)) sa_nil))) (se_var 6)) sa_nil))))))
  (sss_one (ss_fz [4] sR (ss_set 2 sc.nd (sc_se (se_var 4))))))))
  (sss_one (ss_ret (se_ixv 2 (se_neg (sb_se se_int)))))))
abbrev s__law_near : Stmt := topS 50
theorem sc__law_near : FnScope ["_law_page_here", "_law_cell", "_law_found", "_law_k", "_law_digits", "_law_at", "_law_line"] ["_law_page_here", "_law_cell"] (L2.defScope s__law_near) := ⟨rfl, rfl, rfl, by decide +kernel, rfl, by decide +kernel, by decide +kernel⟩
def tg__law_near_1 : TgD :=
  (nameT 3)
def lb__law_near_1 : FS :=
  (seqF (setF 4 (callC φ__law_numbers (consA (mp (bi (vE 1) (mp (bi (fun _ => some (true, D.int 977)) (vE 3) mulC) frz) addC) frz) (consA (mp (un1 (consA (fun _ => some (true, D.int 3)) (consA (fun _ => some (true, D.int 30)) (consA (fun _ => some (true, D.int 12)) nilA))) ownC) frz) nilA))))
  (seqF (setF 5 (mp (modF (bi (vB 4) (mp (fun _ => some (true, D.int 1)) (·.2)) itemB) (mp (mp (bi (un1 (vB 2) lenD) (fun _ => some (true, D.int 1)) addC) frz) (·.2))) dC))
  (seqF (setF 6 (mp (bi (mp (callC φ__law_lines nilA) frz) (xvE 4 (fun _ => some (true, D.int 2))) fun x y => itemE x y.2) dC))
  (fzF [2] (setF 2 (bi (mp (bi (mp (slF (vE 2) (fun _ => some none) (un1 (vB 5) intO) cutC) frz) (ifF (bi (bi (vB 4) (mp (fun _ => some (true, D.int 0)) (·.2)) itemB) (mp (fun _ => some (true, D.int 0)) (·.2)) (cI gt2)) (mp (un1 (consA (vE 6) nilA) ownC) frz) (mp (un1 nilA ownC) frz)) addC) frz) (mp (slF (vE 2) (un1 (mp (mp (bi (vE 5) (ifF (bi (bi (vB 4) (mp (fun _ => some (true, D.int 0)) (·.2)) itemB) (mp (fun _ => some (true, D.int 2)) (·.2)) (cI lt2)) (fun _ => some (true, D.int 1)) (fun _ => some (true, D.int 0))) addC) frz) (·.2)) intO) (fun _ => some none) cutC) frz) addC))))))
def g__law_near : FS :=
  (seqF (setF 2 (un1 (vE 0) listC))
  (seqF (forF (un1 (consA (modF (vB 1) (mp (fun _ => some (true, D.int 7)) (·.2))) nilA) rng1) tg__law_near_1 lb__law_near_1)
  (fzF [2] (retF (vE 2)))))
def φ__law_near : Phi := phi 7 g__law_near
theorem ok__law_near (hx : NoE CX) (Df : Def K mg c "_law_near" s__law_near ["_law_page_here", "_law_cell"]) (O__law_numbers : Okd P w K mg base CX cs 2 "_law_numbers" 2 φ__law_numbers) (O__law_lines : Okd P w K mg base CX cs 2 "_law_lines" 0 φ__law_lines) (m_len : mg "len" = none) (m_list : mg "list" = none) (m_range : mg "range" = none) : Okd P w K mg base CX cs 3 "_law_near" 2 φ__law_near :=
  have sc := sc__law_near
  fnD (k := 2) Df sc fun f A outer s H E R hr sR hT => (sss_cons (ss_set 2 sc.nd (sc_list (by rfl) m_list (se_var 0)))
  (sss_cons (ss_for PassesOwn.never rfl (pi_range1 (by rfl) m_range (sa_cons (se_mod (sb_var 1) (sb_se se_int)) sa_nil)) ii_rng1 (pg_name (i := 3) sc.nd rfl (by first | exact Or.inl rfl | exact Or.inr rfl)) (tg_name 3)
  (sss_cons (ss_set 4 sc.nd (sc_fn O__law_numbers hT hx hr (by decide) (sa_cons (se_sc (sc_add (se_var 1) (se_sc (sc_mul se_int (se_var 3)) sR)) sR) (sa_cons (se_sc (sc_lst (sa_cons se_int (sa_cons se_int (sa_cons se_int sa_nil)))) sR) sa_nil)) (len_consA (len_consA (fun _ _ h => len_nilA h)))))
  (sss_cons (ss_set 5 sc.nd (sc_se (se_mod (sb_ix (sb_var 4) (sb_se se_int)) (sb_se (se_sc (sc_add (se_len (by rfl) m_len (sb_var 2)) se_int) sR)))))
  (sss_cons (ss_set 6 sc.nd (sc_se (se_ix (se_sc (sc_fn0 O__law_lines hT hx hr (by decide)) sR) (se_ixv 4 se_int))))
  (sss_one (ss_fz [2] sR (ss_set 2 sc.nd (sc_add (se_sc (sc_add (se_sc (sc_slice (se_var 2) so_none (so_some (sb_var 5))) sR) (se_if (c_gt (sb_ix (sb_var 4) (sb_se se_int)) (sb_se se_int)).1 (se_sc (sc_lst (sa_cons (se_var 6) sa_nil)) sR) (se_sc (sc_lst sa_nil) sR))) sR) (se_sc (sc_slice (se_var 2) (so_some (sb_se (se_sc (sc_add (se_var 5) (se_if (c_lt (sb_ix (sb_var 4) (sb_se se_int)) (sb_se se_int)).1 se_int se_int)) sR))) so_none) sR)))))))))
  (sss_one (ss_fz [2] sR (ss_ret (se_var 2))))))
abbrev s__law_due : Stmt := topS 51
theorem sc__law_due : FnScope ["_law_old", "_law_new", "_law_told"] ["_law_old", "_law_new", "_law_told"] (L2.defScope s__law_due) := ⟨rfl, rfl, rfl, by decide +kernel, rfl, by decide +kernel, by decide +kernel⟩
def g__law_due (CA : Str → Addr) : FS :=
  (seqF (ifF (orF (bi (mp (mp (callC φ__law_fits (consA (vE 0) (consA (fldF [CA "Made"] "change" (vE 2)) nilA))) frz) (·.2)) (mp (fun _ => some (true, D.non)) (·.2)) notN) (bi (mp (mp (callC φ__law_done (consA (vE 0) (consA (fldF [CA "Made"] "change" (vE 2)) nilA))) frz) (·.2)) (vB 1) neD)) (retF (fun _ => some (true, D.bl false))) nxF)
  (retF (mp (callC φ__law_heights_right (consA (vE 0) (consA (vE 1) (consA (fldF [CA "Made"] "change" (vE 2)) (consA (fldF [CA "Made"] "heights" (vE 2)) nilA))))) frz)))
def φ__law_due (CA : Str → Addr) : Phi := phi 3 (g__law_due CA)
theorem ok__law_due (hx : NoE CX) (Df : Def K mg c "_law_due" s__law_due ["_law_old", "_law_new", "_law_told"]) (O__law_fits : Okd P w K mg base CX cs 2 "_law_fits" 2 φ__law_fits) (O__law_done : Okd P w K mg base CX cs 2 "_law_done" 2 φ__law_done) (O__law_heights_right : Okd P w K mg base CX cs 2 "_law_heights_right" 4 φ__law_heights_right) (cl_Made : Cls K (CA "Made")) (na_Made_change : NoAttr K (CA "Made") "change") (na_Made_heights : NoAttr K (CA "Made") "heights") : Okd P w K mg base CX cs 3 "_law_due" 3 (φ__law_due CA) :=
  have sc := sc__law_due
  fnD (k := 2) Df sc fun f A outer s H E R hr sR hT => (sss_cons (ss_if (st_w (sw_or (c_notN (sb_se (se_sc (sc_fn O__law_fits hT hx hr (by decide) (sa_cons (se_var 0) (sa_cons (se_fld (cs := [CA "Made"]) (fun C hC => ((List.mem_cons.mp hC).elim (fun z => z ▸ ⟨cl_Made, na_Made_change⟩) fun hC => (nomatch hC))) (se_var 2)) sa_nil)) (len_consA (len_consA (fun _ _ h => len_nilA h)))) sR)) (sb_se se_non)).1 (sw_or1 (c_ne hr (sb_se (se_sc (sc_fn O__law_done hT hx hr (by decide) (sa_cons (se_var 0) (sa_cons (se_fld (cs := [CA "Made"]) (fun C hC => ((List.mem_cons.mp hC).elim (fun z => z ▸ ⟨cl_Made, na_Made_change⟩) fun hC => (nomatch hC))) (se_var 2)) sa_nil)) (len_consA (len_consA (fun _ _ h => len_nilA h)))) sR)) (sb_var 1)).1)))
  (sss_one (ss_ret se_bl))
  sss_nil)
  (sss_one (ss_ret (se_sc (sc_fn O__law_heights_right hT hx hr (by decide) (sa_cons (se_var 0) (sa_cons (se_var 1) (sa_cons (se_fld (cs := [CA "Made"]) (fun C hC => ((List.mem_cons.mp hC).elim (fun z => z ▸ ⟨cl_Made, na_Made_change⟩) fun hC => (nomatch hC))) (se_var 2)) (sa_cons (se_fld (cs := [CA "Made"]) (fun C hC => ((List.mem_cons.mp hC).elim (fun z => z ▸ ⟨cl_Made, na_Made_heights⟩) fun hC => (nomatch hC))) (se_var 2)) sa_nil)))) (len_consA (len_consA (len_consA (len_consA (fun _ _ h => len_nilA h)))))) sR))))
abbrev s_init_Made : Stmt := inS (topS 21) 0
theorem sc_init_Made : FnScope ["self", "change", "heights"] ["self", "change", "heights"] (L2.defScope s_init_Made) := ⟨rfl, rfl, rfl, by decide +kernel, rfl, by decide +kernel, by decide +kernel⟩
def ini_Made : List D → Option (List D) := iniD 2 [("change", (mp (callC φ__copied (consA (vE 1) nilA)) frz)), ("heights", (mp (callC φ__copied (consA (vE 2) nilA)) frz))]
theorem ok_init_Made (hx : NoE CX) {f : Addr} {fd : FuncData} (Fn : FunD K "__init__" "Made.__init__" (L2.defArgs s_init_Made) (L2.defBody s_init_Made) (L2.defScope s_init_Made) [] [] f fd) (M : Mk K (CA "Made") f) (O__copied : Okd P w K mg base CX cs 6 "_copied" 1 φ__copied) (cl_Made : Cls K (CA "Made")) (na_Made_change : NoAttr K (CA "Made") "change") (na_Made_heights : NoAttr K (CA "Made") "heights") : Oki P w K mg base CX cs 7 (CA "Made") ["change", "heights"] 2 ini_Made :=
  have sc := sc_init_Made
  init_ok (k := 6) Fn M sc (by decide) (by decide) (fun _ _ _ _ _ _ us hl => match us, hl with | [_, _, _], _ => rfl) fun cdv A outer s H E R H1 hr sR hT => (is_cons cl_Made na_Made_change (se_sc (sc_fn O__copied hT hx hr (by decide) (sa_cons (se_var 1) sa_nil) (len_consA (fun _ _ h => len_nilA h))) sR) (is_cons cl_Made na_Made_heights (se_sc (sc_fn O__copied hT hx hr (by decide) (sa_cons (se_var 2) sa_nil) (len_consA (fun _ _ h => len_nilA h))) sR) is_nil))
abbrev s_made : Stmt := topS 32
theorem sc_made : FnScope ["old", "new", "heights"] ["old", "new"] (L2.defScope s_made) := ⟨rfl, rfl, rfl, by decide +kernel, rfl, by decide +kernel, by decide +kernel⟩
def g_made (CA : Str → Addr) : FS :=
  (seqF (dropF (callC φ_check_page (consA (vE 0) nilA)))
  (seqF (dropF (callC φ_check_page (consA (vE 1) nilA)))
  (seqF (ifF (orF (bi (mp (un1 (vB 0) lenD) (·.2)) (mp (fun _ => some (true, D.int 40)) (·.2)) (cI gt2)) (bi (mp (un1 (vB 1) lenD) (·.2)) (mp (fun _ => some (true, D.int 40)) (·.2)) (cI gt2))) noF nxF)
  (seqF (setF 2 (callC φ__fewest_lines (consA (vE 0) (consA (vE 1) nilA))))
  (fzF [2] (retF (mp (makeF (CA "Made") ["change", "heights"] ini_Made (consA (mp (callC φ__change_between (consA (mp (callC φ__lines_kept (consA (vE 2) (consA (vE 0) (consA (vE 1) nilA)))) frz) (consA (vE 0) (consA (vE 1) nilA)))) frz) (consA (vE 2) nilA))) frz)))))))
def φ_made (CA : Str → Addr) : Phi := phi 3 (g_made CA)
theorem ok_made (hx : NoE CX) (Df : Def K mg c "made" s_made ["old", "new"]) (O_check_page : Okd P w K mg base CX cs 6 "check_page" 1 φ_check_page) (O__fewest_lines : Okd P w K mg base CX cs 3 "_fewest_lines" 2 φ__fewest_lines) (O__change_between : Okd P w K mg base CX cs 2 "_change_between" 3 φ__change_between) (O__lines_kept : Okd P w K mg base CX cs 2 "_lines_kept" 3 φ__lines_kept) (I_Made : Oki P w K mg base CX cs 7 (CA "Made") ["change", "heights"] 2 ini_Made) (m_len : mg "len" = none) {t_MOST_LINES_MADE : Tok} (g_MOST_LINES_MADE : mg "MOST_LINES_MADE" = some (.int 40 t_MOST_LINES_MADE)) (hm_Made : mg "Made" = some (.ref (CA "Made"))) : Okd P w K mg base CX cs 9 "made" 2 (φ_made CA) :=
  have sc := sc_made
  fnD (k := 8) Df sc fun f A outer s H E R hr sR hT => (sss_cons (ss_exprC (sc_fn O_check_page hT hx hr (by decide) (sa_cons (se_var 0) sa_nil) (len_consA (fun _ _ h => len_nilA h))))
  (sss_cons (ss_exprC (sc_fn O_check_page hT hx hr (by decide) (sa_cons (se_var 1) sa_nil) (len_consA (fun _ _ h => len_nilA h))))
  (sss_cons (ss_if (st_w (sw_or (c_gt (sb_se (se_len (by rfl) m_len (sb_var 0))) (sb_se (se_gint (i := 40) (by rfl) g_MOST_LINES_MADE))).1 (sw_or1 (c_gt (sb_se (se_len (by rfl) m_len (sb_var 1))) (sb_se (se_gint (i := 40) (by rfl) g_MOST_LINES_MADE))).1)))
  (sss_one ss_never)
  sss_nil)
  (sss_cons (ss_set 2 sc.nd (sc_fn O__fewest_lines hT hx hr (by decide) (sa_cons (se_var 0) (sa_cons (se_var 1) sa_nil)) (len_consA (len_consA (fun _ _ h => len_nilA h)))))
  (sss_one (ss_fz [2] sR (ss_ret (se_sc (sc_make (fs := ["change", "heights"]) I_Made hT hx hr (by decide) hm_Made (sa_cons (se_sc (sc_fn O__change_between hT hx hr (by decide) (sa_cons (se_sc (sc_fn O__lines_kept hT hx hr (by decide) (sa_cons (se_var 2) (sa_cons (se_var 0) (sa_cons (se_var 1) sa_nil))) (len_consA (len_consA (len_consA (fun _ _ h => len_nilA h))))) sR) (sa_cons (se_var 0) (sa_cons (se_var 1) sa_nil))) (len_consA (len_consA (len_consA (fun _ _ h => len_nilA h))))) sR) (sa_cons (se_var 2) sa_nil)) (len_consA (len_consA (fun _ _ h => len_nilA h)))) sR))))))))
abbrev s_Made_shows : Stmt := inS (topS 21) 1
theorem sc_Made_shows : FnScope ["self", "old", "new"] ["self", "old", "new"] (L2.defScope s_Made_shows) := ⟨rfl, rfl, rfl, by decide +kernel, rfl, by decide +kernel, by decide +kernel⟩
def g_Made_shows (CA : Str → Addr) : FS :=
  (seqF (dropF (callC φ_check_page (consA (vE 1) nilA)))
  (seqF (dropF (callC φ_check_page (consA (vE 2) nilA)))
  (seqF (ifF (orF (mp (un1 (mp (mp (callC φ__leads (consA (fldF [CA "Made"] "change" (vE 0)) (consA (vE 1) (consA (vE 2) nilA)))) frz) (·.2)) boolD) (!·)) (mp (un1 (mp (mp (callC φ__is_height_table (consA (fldF [CA "Made"] "heights" (vE 0)) (consA (vE 1) (consA (vE 2) nilA)))) frz) (·.2)) boolD) (!·))) (retF (fun _ => some (true, D.bl false))) nxF)
  (seqF (ifF (orF (bi (bi (bi (fldB [CA "Made"] "heights" (vB 0)) (mp (fun _ => some (true, D.int 0)) (·.2)) itemB) (mp (fun _ => some (true, D.int 0)) (·.2)) itemB) (mp (fun _ => some (true, D.int 0)) (·.2)) neD) (bi (bi (bi (fldB [CA "Made"] "heights" (vB 0)) (mp (un1 (mp (fun _ => some (true, D.int 1)) (·.2)) negD) (·.2)) itemB) (mp (un1 (mp (fun _ => some (true, D.int 1)) (·.2)) negD) (·.2)) itemB) (mp (mp (callC φ__lines_in (consA (fldF [CA "Made"] "change" (vE 0)) nilA)) frz) (·.2)) neD)) (retF (fun _ => some (true, D.bl false))) nxF)
  (retF (mp (callC φ__are_no_steps_too_high (consA (fldF [CA "Made"] "heights" (vE 0)) (consA (vE 1) (consA (vE 2) nilA)))) frz))))))
def φ_Made_shows (CA : Str → Addr) : Phi := phi 3 (g_Made_shows CA)
theorem ok_Made_shows (hx : NoE CX) {f : Addr} {fd : FuncData} (Fn : FunD K "shows" "Made.shows" (L2.defArgs s_Made_shows) (L2.defBody s_Made_shows) (L2.defScope s_Made_shows) [] [] f fd) (M : Meth K (CA "Made") "shows" f) (O_check_page : Okd P w K mg base CX cs 6 "check_page" 1 φ_check_page) (O__leads : Okd P w K mg base CX cs 8 "_leads" 3 φ__leads) (O__is_height_table : Okd P w K mg base CX cs 4 "_is_height_table" 3 φ__is_height_table) (O__lines_in : Okd P w K mg base CX cs 3 "_lines_in" 1 φ__lines_in) (O__are_no_steps_too_high : Okd P w K mg base CX cs 4 "_are_no_steps_too_high" 3 φ__are_no_steps_too_high) (cl_Made : Cls K (CA "Made")) (na_Made_change : NoAttr K (CA "Made") "change") (na_Made_heights : NoAttr K (CA "Made") "heights") : Okm P w K mg base CX cs 9 (CA "Made") "shows" 3 (φ_Made_shows CA) :=
  have sc := sc_Made_shows
  fnM (k := 8) Fn M sc (fun _ _ _ _ _ _ us hl => match us, hl with | [_, _, _], _ => rfl) fun cdv A outer s H E R hr sR hT => (sss_cons (ss_exprC (sc_fn O_check_page hT hx hr (by decide) (sa_cons (se_var 1) sa_nil) (len_consA (fun _ _ h => len_nilA h))))
  (sss_cons (ss_exprC (sc_fn O_check_page hT hx hr (by decide) (sa_cons (se_var 2) sa_nil) (len_consA (fun _ _ h => len_nilA h))))
  (sss_cons (ss_if (st_w (sw_or (st_not (st_val (sb_se (se_sc (sc_fn O__leads hT hx hr (by decide) (sa_cons (se_fld (cs := [CA "Made"]) (fun C hC => ((List.mem_cons.mp hC).elim (fun z => z ▸ ⟨cl_Made, na_Made_change⟩) fun hC => (nomatch hC))) (se_var 0)) (sa_cons (se_var 1) (sa_cons (se_var 2) sa_nil))) (len_consA (len_consA (len_consA (fun _ _ h => len_nilA h))))) sR)))) (sw_or1 (st_not (st_val (sb_se (se_sc (sc_fn O__is_height_table hT hx hr (by decide) (sa_cons (se_fld (cs := [CA "Made"]) (fun C hC => ((List.mem_cons.mp hC).elim (fun z => z ▸ ⟨cl_Made, na_Made_heights⟩) fun hC => (nomatch hC))) (se_var 0)) (sa_cons (se_var 1) (sa_cons (se_var 2) sa_nil))) (len_consA (len_consA (len_consA (fun _ _ h => len_nilA h))))) sR)))))))
  (sss_one (ss_ret se_bl))
  sss_nil)
  (sss_cons (ss_if (st_w (sw_or (c_ne hr (sb_ix (sb_ix (sb_fld (cs := [CA "Made"]) (fun C hC => ((List.mem_cons.mp hC).elim (fun z => z ▸ ⟨cl_Made, na_Made_heights⟩) fun hC => (nomatch hC))) (sb_var 0)) (sb_se se_int)) (sb_se se_int)) (sb_se se_int)).1 (sw_or1 (c_ne hr (sb_ix (sb_ix (sb_fld (cs := [CA "Made"]) (fun C hC => ((List.mem_cons.mp hC).elim (fun z => z ▸ ⟨cl_Made, na_Made_heights⟩) fun hC => (nomatch hC))) (sb_var 0)) (sb_se (se_neg (sb_se se_int)))) (sb_se (se_neg (sb_se se_int)))) (sb_se (se_sc (sc_fn O__lines_in hT hx hr (by decide) (sa_cons (se_fld (cs := [CA "Made"]) (fun C hC => ((List.mem_cons.mp hC).elim (fun z => z ▸ ⟨cl_Made, na_Made_change⟩) fun hC => (nomatch hC))) (se_var 0)) sa_nil) (len_consA (fun _ _ h => len_nilA h))) sR))).1)))
  (sss_one (ss_ret se_bl))
  sss_nil)
  (sss_one (ss_ret (se_sc (sc_fn O__are_no_steps_too_high hT hx hr (by decide) (sa_cons (se_fld (cs := [CA "Made"]) (fun C hC => ((List.mem_cons.mp hC).elim (fun z => z ▸ ⟨cl_Made, na_Made_heights⟩) fun hC => (nomatch hC))) (se_var 0)) (sa_cons (se_var 1) (sa_cons (se_var 2) sa_nil))) (len_consA (len_consA (len_consA (fun _ _ h => len_nilA h))))) sR)))))))
abbrev s__law_right : Stmt := topS 52
theorem sc__law_right : FnScope ["_law_old", "_law_new", "_law_third", "_law_handed", "_law_told", "_law_said"] ["_law_old", "_law_new", "_law_third"] (L2.defScope s__law_right) := ⟨rfl, rfl, rfl, by decide +kernel, rfl, by decide +kernel, by decide +kernel⟩
def g__law_right (CA : Str → Addr) : FS :=
  (seqF (setF 3 (un1 (consA (mp (un1 (vE 0) listC) frz) (consA (mp (un1 (vE 1) listC) frz) nilA)) ownC))
  (seqF (setF 4 (callC (φ_made CA) (consA (xvE 3 (fun _ => some (true, D.int 0))) (consA (xvE 3 (fun _ => some (true, D.int 1))) nilA))))
  (seqF (ifF (orF (bi (vB 3) (mp (mp (un1 (consA (vE 0) (consA (vE 1) nilA)) ownC) frz) (·.2)) neD) (orF (mp (un1 (mp (un1 (vB 4) (isC [(CA "Made", true)])) (·.2)) boolD) (!·)) (mp (un1 (mp (un1 (vB 4) (isC [(CA "Made", true)])) (·.2)) boolD) (!·)))) (retF (fun _ => some (true, D.bl false))) nxF)
  (seqF (fzF [4] (ifF (orF (mp (un1 (mp (mp (callC φ__law_is_change (consA (fldF [CA "Made"] "change" (vE 4)) nilA)) frz) (·.2)) boolD) (!·)) (orF (mp (un1 (mp (mp (callC φ__law_whole (consA (fldF [CA "Made"] "heights" (vE 4)) nilA)) frz) (·.2)) boolD) (!·)) (mp (un1 (mp (mp (callC (φ__law_due CA) (consA (vE 0) (consA (vE 1) (consA (vE 4) nilA)))) frz) (·.2)) boolD) (!·)))) (retF (fun _ => some (true, D.bl false))) nxF))
  (seqF (fzF [4] (ifF (orF (bi (bi (bi (fldB [CA "Made"] "heights" (vB 4)) (mp (un1 (mp (fun _ => some (true, D.int 1)) (·.2)) negD) (·.2)) itemB) (mp (un1 (mp (fun _ => some (true, D.int 1)) (·.2)) negD) (·.2)) itemB) (mp (mp (callC φ__law_fewest (consA (vE 0) (consA (vE 1) nilA))) frz) (·.2)) neD) (bi (mp (mp (methC (CA "Made") "shows" (φ_Made_shows CA) (vE 4) (consA (xvE 3 (fun _ => some (true, D.int 0))) (consA (xvE 3 (fun _ => some (true, D.int 1))) nilA))) frz) (·.2)) (mp (fun _ => some (true, D.bl true)) (·.2)) notBl)) (retF (fun _ => some (true, D.bl false))) nxF))
  (seqF (fzF [4] (setF 5 (methC (CA "Made") "shows" (φ_Made_shows CA) (vE 4) (consA (mp (un1 (vE 0) listC) frz) (consA (mp (un1 (vE 2) listC) frz) nilA)))))
  (fzF [4] (retF (andE (un1 (vB 5) (isiE .bool)) (blE (bi (vB 5) (mp (mp (callC (φ__law_due CA) (consA (vE 0) (consA (vE 2) (consA (vE 4) nilA)))) frz) (·.2)) eqD)))))))))))
def φ__law_right (CA : Str → Addr) : Phi := phi 6 (g__law_right CA)
theorem ok__law_right (hx : NoE CX) (Df : Def K mg c "_law_right" s__law_right ["_law_old", "_law_new", "_law_third"]) (O_made : Okd P w K mg base CX cs 9 "made" 2 (φ_made CA)) (O__law_is_change : Okd P w K mg base CX cs 2 "_law_is_change" 1 φ__law_is_change) (O__law_whole : Okd P w K mg base CX cs 2 "_law_whole" 1 φ__law_whole) (O__law_due : Okd P w K mg base CX cs 3 "_law_due" 3 (φ__law_due CA)) (O__law_fewest : Okd P w K mg base CX cs 2 "_law_fewest" 2 φ__law_fewest) (M_Made_shows : Okm P w K mg base CX cs 9 (CA "Made") "shows" 3 (φ_Made_shows CA)) (m_bool : mg "bool" = none) (m_isinstance : mg "isinstance" = none) (m_list : mg "list" = none) (cl_Made : Cls K (CA "Made")) (hm_Answer : mg "Answer" = some (.ref (CA "Answer"))) (hm_Made : mg "Made" = some (.ref (CA "Made"))) (isf_Made : IsF K (CA "Made")) (kit_Made_Answer : PySem.W.kitOne K (.ref (CA "Made")) (.ref (CA "Answer")) = some true) (kit_Made_Made : PySem.W.kitOne K (.ref (CA "Made")) (.ref (CA "Made")) = some true) (na_Made_change : NoAttr K (CA "Made") "change") (na_Made_heights : NoAttr K (CA "Made") "heights") : Okd P w K mg base CX cs 10 "_law_right" 3 (φ__law_right CA) :=
  have sc := sc__law_right
  fnD (k := 9) Df sc fun f A outer s H E R hr sR hT => (sss_cons (ss_set 3 sc.nd (sc_lst (sa_cons (se_sc (sc_list (by rfl) m_list (se_var 0)) sR) (sa_cons (se_sc (sc_list (by rfl) m_list (se_var 1)) sR) sa_nil))))
  (sss_cons (ss_set 4 sc.nd (sc_fn O_made hT hx hr (by decide) (sa_cons (se_ixv 3 se_int) (sa_cons (se_ixv 3 se_int) sa_nil)) (len_consA (len_consA (fun _ _ h => len_nilA h)))))
  (sss_cons (ss_if (st_w (sw_or (c_ne hr (sb_var 3) (sb_se (se_sc (sc_lst (sa_cons (se_var 0) (sa_cons (se_var 1) sa_nil))) sR))).1 (sw_or (st_not (st_val (sb_se (se_isC (tb := [(CA "Made", true)]) (by rfl) m_isinstance (sb_var 4) (by rfl) hm_Answer (fun q hC => ((List.mem_cons.mp hC).elim (fun z => z ▸ ⟨isf_Made, kit_Made_Answer⟩) fun hC => (nomatch hC))))))) (sw_or1 (st_not (st_val (sb_se (se_isC (tb := [(CA "Made", true)]) (by rfl) m_isinstance (sb_var 4) (by rfl) hm_Made (fun q hC => ((List.mem_cons.mp hC).elim (fun z => z ▸ ⟨isf_Made, kit_Made_Made⟩) fun hC => (nomatch hC)))))))))))
  (sss_one (ss_ret se_bl))
  sss_nil)
  (sss_cons (ss_fz [4] sR (ss_if (st_w (sw_or (st_not (st_val (sb_se (se_sc (sc_fn O__law_is_change hT hx hr (by decide) (sa_cons (se_fld (cs := [CA "Made"]) (fun C hC => ((List.mem_cons.mp hC).elim (fun z => z ▸ ⟨cl_Made, na_Made_change⟩) fun hC => (nomatch hC))) (se_var 4)) sa_nil) (len_consA (fun _ _ h => len_nilA h))) sR)))) (sw_or (st_not (st_val (sb_se (se_sc (sc_fn O__law_whole hT hx hr (by decide) (sa_cons (se_fld (cs := [CA "Made"]) (fun C hC => ((List.mem_cons.mp hC).elim (fun z => z ▸ ⟨cl_Made, na_Made_heights⟩) fun hC => (nomatch hC))) (se_var 4)) sa_nil) (len_consA (fun _ _ h => len_nilA h))) sR)))) (sw_or1 (st_not (st_val (sb_se (se_sc (sc_fn O__law_due hT hx hr (by decide) (sa_cons (se_var 0) (sa_cons (se_var 1) (sa_cons (se_var 4) sa_nil))) (len_consA (len_consA (len_consA (fun _ _ h => len_nilA h))))) sR))))))))
  (sss_one (ss_ret se_bl))
  sss_nil))
  (sss_cons (ss_fz [4] sR (ss_if (st_w (sw_or (c_ne hr (sb_ix (sb_ix (sb_fld (cs := [CA "Made"]) (fun C hC => ((List.mem_cons.mp hC).elim (fun z => z ▸ ⟨cl_Made, na_Made_heights⟩) fun hC => (nomatch hC))) (sb_var 4)) (sb_se (se_neg (sb_se se_int)))) (sb_se (se_neg (sb_se se_int)))) (sb_se (se_sc (sc_fn O__law_fewest hT hx hr (by decide) (sa_cons (se_var 0) (sa_cons (se_var 1) sa_nil)) (len_consA (len_consA (fun _ _ h => len_nilA h)))) sR))).1 (sw_or1 (c_notBl (sb_se (se_sc (sc_meth (np := 2) M_Made_shows cl_Made hT hx hr (by decide) (se_var 4) (sa_cons (se_ixv 3 se_int) (sa_cons (se_ixv 3 se_int) sa_nil)) (len_consA (len_consA (fun _ _ h => len_nilA h))) (pl := _)) sR)) (sb_se se_bl)).1)))
  (sss_one (ss_ret se_bl))
  sss_nil))
  (sss_cons (ss_fz [4] sR (ss_set 5 sc.nd (sc_meth (np := 2) M_Made_shows cl_Made hT hx hr (by decide) (se_var 4) (sa_cons (se_sc (sc_list (by rfl) m_list (se_var 0)) sR) (sa_cons (se_sc (sc_list (by rfl) m_list (se_var 2)) sR) sa_nil)) (len_consA (len_consA (fun _ _ h => len_nilA h))) (pl := _))))
  (sss_one (ss_fz [4] sR (ss_ret (se_andV (se_isi .bool (by rfl) m_isinstance (sb_var 5) (by rfl) m_bool (by decide +kernel)) (se_one (c_eq hr (sb_var 5) (sb_se (se_sc (sc_fn O__law_due hT hx hr (by decide) (sa_cons (se_var 0) (sa_cons (se_var 2) (sa_cons (se_var 4) sa_nil))) (len_consA (len_consA (len_consA (fun _ _ h => len_nilA h))))) sR))).2)))))))))))
abbrev s_law : Stmt := topS 53
theorem sc_law : FnScope ["_law_script", "_law_old", "_law_new", "_law_third"] ["_law_script"] (L2.defScope s_law) := ⟨rfl, rfl, rfl, by decide +kernel, rfl, by decide +kernel, by decide +kernel⟩
def g_law (CA : Str → Addr) : FS :=
  (seqF (setF 1 (callC φ__law_page (consA (mp (callC φ__law_cell_at (consA (vE 0) (consA (fun _ => some (true, D.int 0)) nilA))) frz) (consA (fun _ => some (true, D.int 24)) nilA))))
  (seqF (fzF [1] (setF 2 (callC φ__law_near (consA (vE 1) (consA (mp (callC φ__law_cell_at (consA (vE 0) (consA (fun _ => some (true, D.int 1)) nilA))) frz) nilA)))))
  (seqF (setF 3 (callC φ__law_page (consA (mp (callC φ__law_cell_at (consA (vE 0) (consA (fun _ => some (true, D.int 2)) nilA))) frz) (consA (fun _ => some (true, D.int 24)) nilA))))
  (seqF (fzF [1, 2, 3] (ifF (orF (mp (un1 (mp (mp (callC (φ__law_right CA) (consA (vE 1) (consA (vE 2) (consA (vE 3) nilA)))) frz) (·.2)) boolD) (!·)) (orF (mp (un1 (mp (mp (callC (φ__law_right CA) (consA (vE 1) (consA (vE 3) (consA (vE 2) nilA)))) frz) (·.2)) boolD) (!·)) (mp (un1 (mp (mp (callC (φ__law_right CA) (consA (vE 3) (consA (vE 1) (consA (vE 1) nilA)))) frz) (·.2)) boolD) (!·)))) (retF (fun _ => some (true, D.bl false))) nxF))
  (fzF [1] (retF (andE (blE (bi (fldB [CA "Made"] "change" (mp (mp (callC (φ_made CA) (consA (vE 1) (consA (mp (un1 (vE 1) listC) frz) nilA))) frz) (·.2))) (mp (mp (un1 nilA ownC) frz) (·.2)) eqD)) (andE (mp (callC (φ__law_right CA) (consA (mp (un1 nilA ownC) frz) (consA (vE 1) (consA (mp (un1 nilA ownC) frz) nilA)))) frz) (mp (callC (φ__law_right CA) (consA (vE 1) (consA (mp (un1 nilA ownC) frz) (consA (mp (un1 nilA ownC) frz) nilA)))) frz)))))))))
def φ_law (CA : Str → Addr) : Phi := phi 4 (g_law CA)
theorem ok_law (hx : NoE CX) {f : Addr} {fd : FuncData} (Df : DefL K c "law" s_law f fd) (O__law_page : Okd P w K mg base CX cs 3 "_law_page" 2 φ__law_page) (O__law_cell_at : Okd P w K mg base CX cs 2 "_law_cell_at" 2 φ__law_cell_at) (O__law_near : Okd P w K mg base CX cs 3 "_law_near" 2 φ__law_near) (O__law_right : Okd P w K mg base CX cs 10 "_law_right" 3 (φ__law_right CA)) (O_made : Okd P w K mg base CX cs 9 "made" 2 (φ_made CA)) (m_list : mg "list" = none) (cl_Made : Cls K (CA "Made")) (na_Made_change : NoAttr K (CA "Made") "change") : FnOk P w K mg base CX 11 f fd ["_law_script"] (spD K cs 1 (φ_law CA)) :=
  have sc := sc_law
  fnL (k := 10) Df sc fun f A outer s H E R hr sR hT => (sss_cons (ss_set 1 sc.nd (sc_fn O__law_page hT hx hr (by decide) (sa_cons (se_sc (sc_fn O__law_cell_at hT hx hr (by decide) (sa_cons (se_var 0) (sa_cons se_int sa_nil)) (len_consA (len_consA (fun _ _ h => len_nilA h)))) sR) (sa_cons se_int sa_nil)) (len_consA (len_consA (fun _ _ h => len_nilA h)))))
  (sss_cons (ss_fz [1] sR (ss_set 2 sc.nd (sc_fn O__law_near hT hx hr (by decide) (sa_cons (se_var 1) (sa_cons (se_sc (sc_fn O__law_cell_at hT hx hr (by decide) (sa_cons (se_var 0) (sa_cons se_int sa_nil)) (len_consA (len_consA (fun _ _ h => len_nilA h)))) sR) sa_nil)) (len_consA (len_consA (fun _ _ h => len_nilA h))))))
  (sss_cons (ss_set 3 sc.nd (sc_fn O__law_page hT hx hr (by decide) (sa_cons (se_sc (sc_fn O__law_cell_at hT hx hr (by decide) (sa_cons (se_var 0) (sa_cons se_int sa_nil)) (len_consA (len_consA (fun _ _ h => len_nilA h)))) sR) (sa_cons se_int sa_nil)) (len_consA (len_consA (fun _ _ h => len_nilA h)))))
  (sss_cons (ss_fz [1, 2, 3] sR (ss_if (st_w (sw_or (st_not (st_val (sb_se (se_sc (sc_fn O__law_right hT hx hr (by decide) (sa_cons (se_var 1) (sa_cons (se_var 2) (sa_cons (se_var 3) sa_nil))) (len_consA (len_consA (len_consA (fun _ _ h => len_nilA h))))) sR)))) (sw_or (st_not (st_val (sb_se (se_sc (sc_fn O__law_right hT hx hr (by decide) (sa_cons (se_var 1) (sa_cons (se_var 3) (sa_cons (se_var 2) sa_nil))) (len_consA (len_consA (len_consA (fun _ _ h => len_nilA h))))) sR)))) (sw_or1 (st_not (st_val (sb_se (se_sc (sc_fn O__law_right hT hx hr (by decide) (sa_cons (se_var 3) (sa_cons (se_var 1) (sa_cons (se_var 1) sa_nil))) (len_consA (len_consA (len_consA (fun _ _ h => len_nilA h))))) sR))))))))
  (sss_one (ss_ret se_bl))
  sss_nil))
  (sss_one (ss_fz [1] sR (ss_ret (se_andV (c_eq hr (sb_fld (cs := [CA "Made"]) (fun C hC => ((List.mem_cons.mp hC).elim (fun z => z ▸ ⟨cl_Made, na_Made_change⟩) fun hC => (nomatch hC))) (sb_se (se_sc (sc_fn O_made hT hx hr (by decide) (sa_cons (se_var 1) (sa_cons (se_sc (sc_list (by rfl) m_list (se_var 1)) sR) sa_nil)) (len_consA (len_consA (fun _ _ h => len_nilA h)))) sR))) (sb_se (se_sc (sc_lst sa_nil) sR))).2 (se_andV (se_sc (sc_fn O__law_right hT hx hr (by decide) (sa_cons (se_sc (sc_lst sa_nil) sR) (sa_cons (se_var 1) (sa_cons (se_sc (sc_lst sa_nil) sR) sa_nil))) (len_consA (len_consA (len_consA (fun _ _ h => len_nilA h))))) sR) (se_one (se_sc (sc_fn O__law_right hT hx hr (by decide) (sa_cons (se_var 1) (sa_cons (se_sc (sc_lst sa_nil) sR) (sa_cons (se_sc (sc_lst sa_nil) sR) sa_nil))) (len_consA (len_consA (len_consA (fun _ _ h => len_nilA h))))) sR)))))))))))
end
end K06
end
section
set_option Elab.async false
set_option linter.all false
set_option maxRecDepth 100000
set_option maxHeartbeats 4000000
namespace K06
open PySem Dl
abbrev Pc := Int × List Str × List Str
def L (ls : List Str) : D := .lst (ls.map .str)
def Pi (p : Pc) : D := .tup [.int p.1, L p.2.1, L p.2.2]
def Ch (c : List Pc) : D := .lst (c.map Pi)
theorem scal_int {i : Int} : scal (.int i) = true := rfl
theorem scal_str {i : Str} : scal (.str i) = true := rfl
theorem scal_bl {i : Bool} : scal (.bl i) = true := rfl
theorem scal_non : scal .non = true := rfl
theorem scal_L {i : List Str} : scal (L i) = false := rfl
theorem scal_Pi {i : Pc} : scal (Pi i) = false := rfl
theorem scal_Ch {i : List Pc} : scal (Ch i) = false := rfl
theorem scal_lst {i : List D} : scal (.lst i) = false := rfl
theorem scal_tup {i : List D} : scal (.tup i) = false := rfl
theorem itemsE_L {m : Bool} {i : List Str} : itemsE (m, L i) = some (flag m (i.map .str)) := rfl
theorem itemsE_Ch {m : Bool} {i : List Pc} : itemsE (m, Ch i) = some (flag m (i.map Pi)) := rfl
theorem itemsE_lst {m : Bool} {i : List D} : itemsE (m, .lst i) = some (flag m i) := rfl
theorem andE_t {f g : FE} {τ : DS} {m : Bool} (h : f τ = some (m, .bl true)) : andE f g τ = g τ := by unfold andE; rw [h]; rfl
theorem andE_f {f g : FE} {τ : DS} {m : Bool} (h : f τ = some (m, .bl false)) : andE f g τ = some (true, .bl false) := by unfold andE; rw [h]; rfl
theorem lenD_L {i : List Str} : lenD (L i) = some (true, .int i.length) := by unfold L lenD; simp
theorem lenD_Ch {i : List Pc} : lenD (Ch i) = some (true, .int i.length) := by unfold Ch lenD; simp
theorem lenD_lst {i : List D} : lenD (.lst i) = some (true, .int i.length) := rfl
theorem lenD_tup {i : List D} : lenD (.tup i) = some (true, .int i.length) := rfl
theorem lenD_Pi {p : Pc} : lenD (Pi p) = some (true, .int 3) := rfl
theorem isi_tup {p : Pc} : isi .tuple (Pi p) = some true := rfl
theorem isi_listCh {c : List Pc} : isi .list (Ch c) = some true := rfl
theorem isi_listL {c : List Str} : isi .list (L c) = some true := rfl
theorem isi_int {i : Int} : isi .int (.int i) = some true := rfl
theorem isi_boolI {i : Int} : isi .bool (.int i) = some false := rfl
theorem isi_strS {i : Str} : isi .str (.str i) = some true := rfl
theorem flag_nil {m : Bool} : flag m [] = [] := rfl
theorem flag_cons {m : Bool} {d : D} {ds : List D} : flag m (d :: ds) = (m || scal d, d) :: flag m ds := rfl
theorem scalStr (ls : List Str) : allScal (ls.map D.str) = true := by
  induction ls with
  | nil => rfl
  | cons x r ih => exact ih
theorem forD_nil {t : TgD} {gb : FS} {τ : DS} : forD t gb [] τ = some (.nx τ) := rfl
theorem forD_nx {t : TgD} {gb : FS} {p : Bool × D} {ps : List (Bool × D)} {τ τ1 τ2 : DS} (h : t p τ = some τ1) (k : gb τ1 = some (.nx τ2)) : forD t gb (p :: ps) τ = forD t gb ps τ2 := by
  rw [forD, h]
  show (gb τ1).bind _ = _
  rw [k]
  rfl
/-! ### small ones -/
theorem φ_end (p : Pc) : φ_end_of [Pi p] = some (.ok true (.int (p.1 + p.2.1.length))) := by
  unfold φ_end_of phi
  simp [g_end_of, seqF, ownF, consA, un1, mp, bi, vE, vB, cellD, cellB, addC, frz, dC, tupD, nilA, augF, subF, modF, fdivF, powF, oI, yes2, ownC, setF, ifF, andF, orF, blE, retF, retNF, nxF, noF, dropF, fzF, fzs, fz, unpF, xvE, itemC, cI, lt2, le2, gt2, ge2, boolD, notD, negD, callC, resC, isiE, isi_tup, isi_listCh, isi_listL, isi_int, isi_boolI, isi_strS, lenD_Pi, isN, notN, intO, slF, startD, List.replicate, scal_int, scal_str, scal_bl, scal_non, scal_L, scal_Pi, scal_Ch, scal_lst, scal_tup, itemsE_L, itemsE_Ch, itemsE_lst, andE_t, andE_f, lenD_L, lenD_Ch, lenD_lst, lenD_tup, Pi, itemE, itemB, L2.atI, L2.ixN, HT.sIx]

/-! ### first_missing -/
theorem atI_nat {α : Type} {xs : List α} {n : Nat} (h : n < xs.length) : L2.atI xs (n : Int) = xs[n]? := by
  unfold L2.atI L2.ixN
  rw [if_pos (Int.natCast_nonneg n), if_pos (by omega)]
  rfl
theorem itemE_L {m : Bool} {ls : List Str} {n : Nat} {x : Str} (h : ls[n]? = some x) : itemE (m, L ls) (.int n) = some (true, .str x) := by
  have hn := lt_of_some h
  show (L2.atI (ls.map D.str) (n : Int)).map _ = _
  rw [atI_nat (by rw [List.length_map]; exact hn), List.getElem?_map, h]
  cases m <;> rfl
theorem itemB_L {ls : List Str} {n : Nat} {x : Str} (h : ls[n]? = some x) : itemB (L ls) (.int n) = some (.str x) := by
  have hn := lt_of_some h
  show L2.atI (ls.map D.str) (n : Int) = _
  rw [atI_nat (by rw [List.length_map]; exact hn), List.getElem?_map, h]
  rfl
/-! ### lines, texts that are compared -/
def LL : List Str := ["a", "b", "", "@ 3", "-a", "c", "+", "=b", " ", "@", "a b", "~"]
def Ln (ls : List Str) : Prop := ∀ x ∈ ls, x ∈ LL
theorem LL_ok : ∀ x ∈ LL, PyData.strOk x = true ∧ Txt.isascii x = true ∧ Txt.isprintable x = true := by decide +kernel
theorem lay_strs : ∀ ls : List Str, Ln ls → plainL (ls.map D.str) = true ∧ PyData.canLayAll0 (pyL (ls.map D.str)) = true ∧ PyData.depthAll (pyL (ls.map D.str)) = 0
  | [], _ => ⟨rfl, rfl, rfl⟩
  | x :: ls, h => by
    obtain ⟨h1, h2, h3⟩ := lay_strs ls fun y hy => h y (List.mem_cons_of_mem _ hy)
    have hx := (LL_ok x (h x (List.mem_cons_self ..))).1
    refine ⟨?_, ?_, ?_⟩
    · simp [plainL, plainD, h1]
    · simp [pyL, py, PyData.canLayAll0, PyData.canLay0, hx, h2]
    · simp [pyL, py, PyData.depthAll, PyData.depth, h3]
theorem okEq_str {x : Str} (h : x ∈ LL) : okEq (.str x) = true := by
  simp [okEq, plainD, py, SeqAt.shaped, PyData.canLay0, PyData.depth, (LL_ok x h).1]
theorem okEq_L {ls : List Str} (h : Ln ls) : okEq (L ls) = true := by
  obtain ⟨h1, h2, h3⟩ := lay_strs ls h
  simp [okEq, L, plainD, py, SeqAt.shaped, PyData.canLay0, PyData.depth, h1, h2, h3]
def LnC (c : List Pc) : Prop := ∀ p ∈ c, Ln p.2.1 ∧ Ln p.2.2
theorem lay_pcs : ∀ c : List Pc, LnC c → plainL (c.map Pi) = true ∧ PyData.canLayAll0 (pyL (c.map Pi)) = true ∧ PyData.depthAll (pyL (c.map Pi)) ≤ 2
  | [], _ => ⟨rfl, rfl, by decide⟩
  | p :: c, h => by
    obtain ⟨h1, h2, h3⟩ := lay_pcs c fun y hy => h y (List.mem_cons_of_mem _ hy)
    obtain ⟨a1, a2, a3⟩ := lay_strs p.2.1 (h p (List.mem_cons_self ..)).1
    obtain ⟨b1, b2, b3⟩ := lay_strs p.2.2 (h p (List.mem_cons_self ..)).2
    refine ⟨?_, ?_, ?_⟩
    · simp [plainL, plainD, Pi, L, h1, a1, b1]
    · simp [pyL, py, Pi, L, PyData.canLayAll0, PyData.canLay0, h2, a2, b2]
    · simp [pyL, py, Pi, L, PyData.depthAll, PyData.depth, a3, b3]
      omega
theorem okEq_Ch {c : List Pc} (h : LnC c) : okEq (Ch c) = true := by
  obtain ⟨h1, h2, h3⟩ := lay_pcs c h
  simp [okEq, Ch, plainD, py, SeqAt.shaped, PyData.canLay0, PyData.depth, h1, h2]
  omega
theorem eqv_self {d : D} (h : okEq d = true) : PyData.eqv (py d) (py d) = true := by
  unfold okEq at h
  rw [Bool.and_eq_true] at h
  exact SeqAt.eqv_refl _ (SeqAt.canLay_of_shaped h.2)
theorem eqD_self {d : D} (h : okEq d = true) : eqD d d = some true := by
  unfold eqD
  rw [h, Bool.and_self, if_pos rfl, eqv_self h]
theorem neD_self {d : D} (h : okEq d = true) : neD d d = some false := by
  unfold neD
  rw [h, Bool.and_self, if_pos rfl, eqv_self h]
  rfl
theorem neD_int {x y : Int} : neD (.int x) (.int y) = some (!decide (x = y)) := by
  unfold neD
  simp [okEq, plainD, py, SeqAt.shaped, PyData.eqv, PyData.canLay0, PyData.depth, Bool.beq_eq_decide_eq]
/-! ### first_missing, where the piece fits -/
theorem enumI_cons {m : Bool} {k : Nat} {d : D} {ds : List D} : enumI m k (d :: ds) = (m || scal d, .tup [.int (k : Nat), d]) :: enumI m (k + 1) ds := rfl
theorem lb_fm {pg : List Str} {g k : Nat} {x : Str} {s1 s3 s4 : Option C} {m0 m1 m2 m3 : Bool} (h : pg[g + k]? = some x) (hx : x ∈ LL) :
    lb_first_missing_1 [some (.d m0 (L pg)), s1, some (.d m1 (.int g)), s3, s4, some (.d m2 (.int k)), some (.d m3 (.str x))] = some (.nx [some (.d m0 (L pg)), s1, some (.d m1 (.int g)), s3, s4, some (.d m2 (.int k)), some (.d m3 (.str x))]) := by
  have hl := lt_of_some h
  have e1 : itemB (L pg) (.int ((g : Int) + (k : Int))) = some (.str x) := by rw [← Int.natCast_add]; exact itemB_L h
  have e2 : ¬ (pg.length : Int) ≤ (g : Int) + (k : Int) := by omega
  simp [lb_first_missing_1, seqF, ownF, consA, un1, mp, bi, vE, vB, cellD, cellB, addC, frz, dC, tupD, nilA, augF, subF, modF, fdivF, powF, oI, yes2, ownC, setF, ifF, andF, orF, blE, retF, retNF, nxF, noF, dropF, fzF, fzs, fz, unpF, xvE, itemC, cI, lt2, le2, gt2, ge2, boolD, notD, negD, callC, resC, isiE, isi_tup, isi_listCh, isi_listL, isi_int, isi_boolI, isi_strS, lenD_Pi, isN, notN, intO, slF, startD, List.replicate, scal_int, scal_str, scal_bl, scal_non, scal_L, scal_Pi, scal_Ch, scal_lst, scal_tup, itemsE_L, itemsE_Ch, itemsE_lst, andE_t, andE_f, lenD_L, lenD_Ch, lenD_lst, lenD_tup, e1, e2, neD_self (okEq_str hx)]
theorem fr_fm {pg : List Str} {m : Bool} {g : Nat} {s1 s3 s4 : Option C} {m0 m1 : Bool} : ∀ (ta : List Str) (k : Nat) (x y : Option C), (∀ i, i < ta.length → pg[g + (k + i)]? = ta[i]?) → Ln ta →
    ∃ x' y', forD tg_first_missing_1 lb_first_missing_1 (enumI m k (ta.map D.str)) [some (.d m0 (L pg)), s1, some (.d m1 (.int g)), s3, s4, x, y] = some (.nx [some (.d m0 (L pg)), s1, some (.d m1 (.int g)), s3, s4, x', y'])
  | [], k, x, y, _, _ => ⟨x, y, rfl⟩
  | a :: ta, k, x, y, h, hL => by
    have h0 : pg[g + k]? = some a := by
      have := h 0 (by rw [List.length_cons]; omega)
      rw [Nat.add_zero] at this
      exact this
    obtain ⟨x', y', ih⟩ := fr_fm (pg := pg) (m := m) (g := g) (s1 := s1) (s3 := s3) (s4 := s4) (m0 := m0) (m1 := m1) ta (k + 1) (some (.d true (.int k))) (some (.d true (.str a))) (fun i hi => by
      have := h (i + 1) (by rw [List.length_cons]; omega)
      rw [List.getElem?_cons_succ] at this
      rw [← this]
      congr 1
      omega) fun z hz => hL z (List.mem_cons_of_mem _ hz)
    refine ⟨x', y', ?_⟩
    rw [List.map_cons, enumI_cons, forD_nx (τ1 := [some (.d m0 (L pg)), s1, some (.d m1 (.int g)), s3, s4, some (.d true (.int k)), some (.d true (.str a))]) ?_ (lb_fm h0 (hL a (List.mem_cons_self ..))), ih]
    simp [tg_first_missing_1, tupT, consT, nameT, nilT, flag_cons, flag_nil, scal_int, scal_str]
theorem unp3 {m : Bool} {p : Pc} {τ : DS} {i j k : Nat} : orT (tupT (consT (nameT i) (consT (nameT j) (consT (nameT k) nilT)))) (unlT (consT (nameT i) (consT (nameT j) (consT (nameT k) nilT)))) (m, Pi p) τ =
    some (((τ.set i (some (.d true (.int p.1)))).set j (some (.d m (L p.2.1)))).set k (some (.d m (L p.2.2)))) := by
  simp [orT, Pi, tupT, consT, nameT, nilT, flag_cons, flag_nil, scal_int, scal_L]
def FitAt (pg : List Str) (p : Pc) : Prop := ∃ g r : List Str, pg = g ++ (p.2.1 ++ r) ∧ p.1 = g.length
theorem φ_fm {pg : List Str} {p : Pc} (h : FitAt pg p) (hL : Ln p.2.1) : φ_first_missing [L pg, Pi p] = some (.ok true .non) := by
  obtain ⟨pl, ta, pu⟩ := p
  obtain ⟨g, r, e1, e2⟩ := h
  dsimp only at e1 e2 hL
  obtain ⟨x', y', e⟩ := fr_fm (pg := pg) (m := false) (g := g.length) (s1 := some (.d false (Pi (pl, ta, pu)))) (s3 := some (.d false (L ta))) (s4 := some (.d false (L pu))) (m0 := false) (m1 := true) ta 0 none none (fun i hi => by
    rw [e1, List.getElem?_append_right (by omega), List.getElem?_append_left (by omega)]
    congr 1
    omega) hL
  have c : ¬ (pg.length : Int) < (g.length : Int) := by
    rw [e1, List.length_append]
    omega
  have en : enumF (false, [L ta]) = some (enumI false 0 (ta.map D.str)) := rfl
  unfold φ_first_missing phi
  simp [g_first_missing, forF, seqF, ownF, consA, un1, mp, bi, vE, vB, cellD, cellB, addC, frz, dC, tupD, nilA, augF, subF, modF, fdivF, powF, oI, yes2, ownC, setF, ifF, andF, orF, blE, retF, retNF, nxF, noF, dropF, fzF, fzs, fz, unpF, xvE, itemC, cI, lt2, le2, gt2, ge2, boolD, notD, negD, callC, resC, isiE, isi_tup, isi_listCh, isi_listL, isi_int, isi_boolI, isi_strS, lenD_Pi, isN, notN, intO, slF, startD, List.replicate, scal_int, scal_str, scal_bl, scal_non, scal_L, scal_Pi, scal_Ch, scal_lst, scal_tup, itemsE_L, itemsE_Ch, itemsE_lst, andE_t, andE_f, lenD_L, lenD_Ch, lenD_lst, lenD_tup, unp3, e2, c, en]
  simp only [e2] at e
  simp [e]
/-! ### first_unfit -/
theorem fr_fu {pg : List Str} {m : Bool} : ∀ (c : List Pc) (k : Nat) (s1 x y z : Option C), (∀ p ∈ c, FitAt pg p ∧ Ln p.2.1) →
    ∃ x' y' z', forD tg_first_unfit_1 lb_first_unfit_1 (enumI m k (c.map Pi)) [some (.d false (L pg)), s1, x, y, z] = some (.nx [some (.d false (L pg)), s1, x', y', z'])
  | [], k, s1, x, y, z, _ => ⟨x, y, z, rfl⟩
  | p :: c, k, s1, x, y, z, h => by
    obtain ⟨x', y', z', ih⟩ := fr_fu (pg := pg) (m := m) c (k + 1) s1 (some (.d true (.int k))) (some (.d m (Pi p))) (some (.dp .non)) fun q hq => h q (List.mem_cons_of_mem _ hq)
    obtain ⟨h1, h2⟩ := h p (List.mem_cons_self ..)
    refine ⟨x', y', z', ?_⟩
    rw [List.map_cons, enumI_cons, forD_nx (τ1 := [some (.d false (L pg)), s1, some (.d true (.int k)), some (.d m (Pi p)), z]) (τ2 := [some (.d false (L pg)), s1, some (.d true (.int k)), some (.d m (Pi p)), some (.dp .non)]) ?_ ?_, ih]
    · simp [tg_first_unfit_1, tupT, consT, nameT, nilT, flag_cons, flag_nil, scal_int, scal_Pi]
    · simp [lb_first_unfit_1, seqF, ownF, consA, un1, mp, bi, vE, vB, cellD, cellB, addC, frz, dC, tupD, nilA, augF, subF, modF, fdivF, powF, oI, yes2, ownC, setF, ifF, andF, orF, blE, retF, retNF, nxF, noF, dropF, fzF, fzs, fz, unpF, xvE, itemC, cI, lt2, le2, gt2, ge2, boolD, notD, negD, callC, resC, isiE, isi_tup, isi_listCh, isi_listL, isi_int, isi_boolI, isi_strS, lenD_Pi, isN, notN, intO, slF, startD, List.replicate, scal_int, scal_str, scal_bl, scal_non, scal_L, scal_Pi, scal_Ch, scal_lst, scal_tup, itemsE_L, itemsE_Ch, itemsE_lst, andE_t, andE_f, lenD_L, lenD_Ch, lenD_lst, lenD_tup, φ_fm h1 h2]
theorem φ_fu {pg : List Str} {c : List Pc} (h : ∀ p ∈ c, FitAt pg p ∧ Ln p.2.1) : φ_first_unfit [L pg, Ch c] = some (.ok true .non) := by
  obtain ⟨x', y', z', e⟩ := fr_fu (pg := pg) (m := false) c 0 (some (.d false (Ch c))) none none none h
  have en : enumF (false, [Ch c]) = some (enumI false 0 (c.map Pi)) := rfl
  unfold φ_first_unfit phi
  simp [g_first_unfit, forF, seqF, ownF, consA, un1, mp, bi, vE, vB, cellD, cellB, addC, frz, dC, tupD, nilA, augF, subF, modF, fdivF, powF, oI, yes2, ownC, setF, ifF, andF, orF, blE, retF, retNF, nxF, noF, dropF, fzF, fzs, fz, unpF, xvE, itemC, cI, lt2, le2, gt2, ge2, boolD, notD, negD, callC, resC, isiE, isi_tup, isi_listCh, isi_listL, isi_int, isi_boolI, isi_strS, lenD_Pi, isN, notN, intO, slF, startD, List.replicate, scal_int, scal_str, scal_bl, scal_non, scal_L, scal_Pi, scal_Ch, scal_lst, scal_tup, itemsE_L, itemsE_Ch, itemsE_lst, andE_t, andE_f, lenD_L, lenD_Ch, lenD_lst, lenD_tup, en, e]
/-! ### replaced -/
def repl : Int → List Str → List Pc → List Str
  | _, pg, [] => pg
  | s, pg, p :: c => pg.take (p.1 - s).toNat ++ (p.2.2 ++ repl (p.1 + p.2.1.length) (pg.drop ((p.1 - s).toNat + p.2.1.length)) c)
def FitD : Int → List Str → List Pc → Prop
  | _, _, [] => True
  | s, pg, p :: c => ∃ g r : List Str, pg = g ++ (p.2.1 ++ r) ∧ p.1 = s + g.length ∧ FitD (p.1 + p.2.1.length) r c
theorem repl_cons {s : Int} {g r : List Str} {p : Pc} {c : List Pc} (h : p.1 = s + g.length) : repl s (g ++ (p.2.1 ++ r)) (p :: c) = g ++ (p.2.2 ++ repl (p.1 + p.2.1.length) r c) := by
  have e : (p.1 - s).toNat = g.length := by omega
  rw [repl, e, List.take_left']
  · congr 2
    rw [← List.append_assoc, List.drop_left' (by rw [List.length_append])]
  · rfl
theorem repl_cons' {s pl : Int} {g r ta pu : List Str} {c : List Pc} (h : pl = s + g.length) : repl s (g ++ (ta ++ r)) ((pl, ta, pu) :: c) = g ++ (pu ++ repl (pl + ta.length) r c) := repl_cons (p := (pl, ta, pu)) h
theorem sIx_n {n d : Nat} {k : Nat} (h : k ≤ n) : HT.sIx n d (some (k : Int)) = k := by rw [HT.sIx_nat]; omega
theorem cut_mid {α : Type} {a b c : List α} : cutL (a ++ (b ++ c)) (some (a.length : Int)) (some ((a.length : Int) + (b.length : Int))) = b := by
  unfold cutL
  rw [← Int.natCast_add, sIx_n (by simp), sIx_n (by simp), List.drop_left' rfl, List.take_left' (by omega)]
theorem cut_end {α : Type} {a b : List α} : cutL (a ++ b) (some (a.length : Int)) none = b := by
  unfold cutL
  rw [sIx_n (by simp), HT.sIx_none, List.drop_left' rfl, List.take_of_length_le (by simp)]
theorem cutC_L {m : Bool} {ls : List Str} {lo hi : Option Int} : cutC (m, L ls) lo hi = some (.own true ((cutL ls lo hi).map .str)) := by
  show some (C.own (m || allScal (ls.map D.str)) (cutL (ls.map D.str) lo hi)) = _
  rw [scalStr, Bool.or_true]
  unfold cutL
  rw [List.length_map, List.map_take, List.map_drop]
theorem extOp_lst {x m : Bool} {y z : List D} : extOp x y (m, [.lst z]) = if y.length + z.length ≤ lim then some (x && m, y ++ z) else none := rfl
theorem extOp_L {x m : Bool} {y : List D} {z : List Str} : extOp x y (m, [L z]) = if y.length + z.length ≤ lim then some (x && m, y ++ z.map .str) else none := by
  show (if y.length + (z.map D.str).length ≤ lim then _ else _) = _
  rw [List.length_map]
theorem lb_re {pre g ta r pu : List Str} {acc : List Str} {n m0 m1 m2 m3 m4 : Bool} {s1 : Option C} (h : acc.length + (g.length + pu.length) ≤ lim) :
    lb_replaced_1 [some (.d m0 (L (pre ++ (g ++ (ta ++ r))))), s1, some (.own n (acc.map .str)), some (.d m1 (.int pre.length)), some (.d m2 (.int ((pre.length : Int) + (g.length : Int)))), some (.d m3 (L ta)), some (.d m4 (L pu))] =
      some (.nx [some (.d m0 (L (pre ++ (g ++ (ta ++ r))))), s1, some (.own (n && m4) ((acc ++ (g ++ pu)).map .str)), some (.d true (.int ((pre.length : Int) + (g.length : Int) + (ta.length : Int)))), some (.d m2 (.int ((pre.length : Int) + (g.length : Int)))), some (.d m3 (L ta)), some (.d m4 (L pu))]) := by
  have h1 : acc.length + g.length ≤ lim := by omega
  have h2 : acc.length + (g.length + pu.length) ≤ lim := h
  simp [lb_replaced_1, seqF, ownF, consA, un1, mp, bi, vE, vB, cellD, cellB, addC, frz, dC, tupD, nilA, augF, subF, modF, fdivF, powF, oI, yes2, ownC, setF, ifF, andF, orF, blE, retF, retNF, nxF, noF, dropF, fzF, fzs, fz, unpF, xvE, itemC, cI, lt2, le2, gt2, ge2, boolD, notD, negD, callC, resC, isiE, isi_tup, isi_listCh, isi_listL, isi_int, isi_boolI, isi_strS, lenD_Pi, isN, notN, intO, slF, startD, List.replicate, scal_int, scal_str, scal_bl, scal_non, scal_L, scal_Pi, scal_Ch, scal_lst, scal_tup, itemsE_L, itemsE_Ch, itemsE_lst, andE_t, andE_f, lenD_L, lenD_Ch, lenD_lst, lenD_tup, cutC_L, cut_mid, extOp_lst, extOp_L, h1, h2, Nat.add_assoc]
theorem fr_re {pgA : List Str} {m m0 : Bool} {s1 : Option C} : ∀ (c : List Pc) (pre cur acc : List Str) (n m1 : Bool) (x y z : Option C), pgA = pre ++ cur → FitD pre.length cur c → acc.length + (repl pre.length cur c).length ≤ lim →
    ∃ pre' cur' acc' n' m1' x' y' z', forD tg_replaced_1 lb_replaced_1 (flag m (c.map Pi)) [some (.d m0 (L pgA)), s1, some (.own n (acc.map .str)), some (.d m1 (.int pre.length)), x, y, z] =
      some (.nx [some (.d m0 (L pgA)), s1, some (.own n' (acc'.map .str)), some (.d m1' (.int (List.length pre'))), x', y', z']) ∧ pgA = pre' ++ cur' ∧ acc' ++ cur' = acc ++ repl pre.length cur c
  | [], pre, cur, acc, n, m1, x, y, z, e, _, _ => ⟨pre, cur, acc, n, m1, x, y, z, rfl, e, rfl⟩
  | (pl, ta, pu) :: c, pre, cur, acc, n, m1, x, y, z, e, h, hl => by
    obtain ⟨g, r, e1, e2, h⟩ := h
    dsimp only at e1 e2 h
    subst e1
    have ep : (pl + (ta.length : Int)) = ((pre ++ (g ++ ta)).length : Int) := by rw [e2]; simp; omega
    rw [repl_cons' e2] at hl
    rw [ep] at h hl
    rw [List.length_append, List.length_append] at hl
    obtain ⟨pre', cur', acc', n', m1', x', y', z', ih, f1, f2⟩ := fr_re (pgA := pgA) (m := m) (m0 := m0) (s1 := s1) c (pre ++ (g ++ ta)) r (acc ++ (g ++ pu)) (n && m) true (some (.d true (.int pl))) (some (.d m (L ta))) (some (.d m (L pu))) (by rw [e]; simp) h (by rw [List.length_append, List.length_append]; omega)
    refine ⟨pre', cur', acc', n', m1', x', y', z', ?_, f1, by rw [f2, repl_cons' e2, ep]; simp⟩
    rw [List.map_cons, flag_cons, forD_nx (τ1 := [some (.d m0 (L pgA)), s1, some (.own n (acc.map .str)), some (.d m1 (.int pre.length)), some (.d true (.int pl)), some (.d m (L ta)), some (.d m (L pu))])
      (τ2 := [some (.d m0 (L pgA)), s1, some (.own (n && m) ((acc ++ (g ++ pu)).map .str)), some (.d true (.int (List.length (pre ++ (g ++ ta))))), some (.d true (.int pl)), some (.d m (L ta)), some (.d m (L pu))]) ?_ ?_, ih]
    · simp [tg_replaced_1, tupT, consT, nameT, nilT, flag_cons, flag_nil, scal_int, scal_L, Pi, scal_tup]
    · have := lb_re (pre := pre) (g := g) (ta := ta) (r := r) (pu := pu) (acc := acc) (n := n) (m0 := m0) (m1 := m1) (m2 := true) (m3 := m) (m4 := m) (s1 := s1) (by omega)
      rw [← e] at this
      rw [e2, this]
      congr 6
      simp
      omega
theorem φ_re {pg : List Str} {c : List Pc} (h : FitD 0 pg c) (hl : (repl 0 pg c).length ≤ lim) : ∃ m, φ_replaced [L pg, Ch c] = some (.ok m (L (repl 0 pg c))) := by
  obtain ⟨pre', cur', acc', n', m1', x', y', z', e, f1, f2⟩ := fr_re (pgA := pg) (m := false) (m0 := false) (s1 := some (.d false (Ch c))) c [] pg [] true true none none none rfl h (by simpa using hl)
  have hz : acc'.length + cur'.length ≤ lim := by
    have := congrArg List.length f2
    simp at this
    omega
  have ee : forD tg_replaced_1 lb_replaced_1 (flag false (List.map Pi c)) [some (C.d false (L pg)), some (C.d false (Ch c)), some (C.own true []), some (C.d true (D.int 0)), none, none, none] = _ := e
  have f3 : cutL pg (some (pre'.length : Int)) none = cur' := by rw [f1, cut_end]
  refine ⟨n' && true, ?_⟩
  unfold φ_replaced phi
  simp [g_replaced, forF, seqF, ownF, consA, un1, mp, bi, vE, vB, cellD, cellB, addC, frz, dC, tupD, nilA, augF, subF, modF, fdivF, powF, oI, yes2, ownC, setF, ifF, andF, orF, blE, retF, retNF, nxF, noF, dropF, fzF, fzs, fz, unpF, xvE, itemC, cI, lt2, le2, gt2, ge2, boolD, notD, negD, callC, resC, isiE, isi_tup, isi_listCh, isi_listL, isi_int, isi_boolI, isi_strS, lenD_Pi, isN, notN, intO, slF, startD, List.replicate, scal_int, scal_str, scal_bl, scal_non, scal_L, scal_Pi, scal_Ch, scal_lst, scal_tup, itemsE_L, itemsE_Ch, itemsE_lst, andE_t, andE_f, lenD_L, lenD_Ch, lenD_lst, lenD_tup, ee, cutC_L, f3, extOp_lst, hz]
  simp at f2
  rw [← f2]
  simp [L]
/-! ### lines and pages -/
theorem φ_line {x : Str} (h : x ∈ LL) : φ_is_line [.str x] = some (.ok true (.bl true)) := by
  obtain ⟨_, h1, h2⟩ := LL_ok x h
  unfold φ_is_line phi
  simp [g_is_line, seqF, ownF, consA, un1, mp, bi, vE, vB, cellD, cellB, addC, frz, dC, tupD, nilA, augF, subF, modF, fdivF, powF, oI, yes2, ownC, setF, ifF, andF, orF, blE, retF, retNF, nxF, noF, dropF, fzF, fzs, fz, unpF, xvE, itemC, cI, lt2, le2, gt2, ge2, boolD, notD, negD, callC, resC, isiE, isi_tup, isi_listCh, isi_listL, isi_int, isi_boolI, isi_strS, lenD_Pi, isN, notN, intO, slF, startD, List.replicate, scal_int, scal_str, scal_bl, scal_non, scal_L, scal_Pi, scal_Ch, scal_lst, scal_tup, itemsE_L, itemsE_Ch, itemsE_lst, andE_t, andE_f, lenD_L, lenD_Ch, lenD_lst, lenD_tup, andE, asciiD, printD, h1, h2]
theorem allD_ok {vs : List Nat} {t : TgD} {c : FT} {e : FE} {τ : DS} : ∀ (items : List (Bool × D)), (∀ p ∈ items, ∃ τ1 nw, t p (wD τ vs) = some τ1 ∧ c τ1 = some true ∧ e τ1 = some (nw, .bl true)) → allD vs t c e τ items = some true
  | [], _ => rfl
  | p :: ps, h => by
    obtain ⟨τ1, nw, h1, h2, h3⟩ := h p (List.mem_cons_self ..)
    rw [allD, h1, Option.bind_some, h2, Option.bind_some, if_pos rfl, h3]
    exact allD_ok ps fun q hq => h q (List.mem_cons_of_mem _ hq)
theorem flag_mem {m : Bool} {ds : List D} {p : Bool × D} (h : p ∈ flag m ds) : ∃ d ∈ ds, p = (m || scal d, d) := by
  unfold flag at h
  obtain ⟨d, hd, e⟩ := List.mem_map.mp h
  exact ⟨d, hd, e.symm⟩
theorem φ_lines {ls : List Str} (h : Ln ls) : φ_are_lines [L ls] = some (.ok true (.bl true)) := by
  have e : allD [1] tg_are_lines_1 (fun _ => some true) el_are_lines_1 [some (.d false (L ls)), none] (flag false (ls.map D.str)) = some true := allD_ok _ fun p hp => by
    obtain ⟨d, hd, rfl⟩ := flag_mem hp
    obtain ⟨x, hx, rfl⟩ := List.mem_map.mp hd
    refine ⟨[some (.d false (L ls)), some (.d true (.str x))], true, rfl, rfl, ?_⟩
    simp [el_are_lines_1, seqF, ownF, consA, un1, mp, bi, vE, vB, cellD, cellB, addC, frz, dC, tupD, nilA, augF, subF, modF, fdivF, powF, oI, yes2, ownC, setF, ifF, andF, orF, blE, retF, retNF, nxF, noF, dropF, fzF, fzs, fz, unpF, xvE, itemC, cI, lt2, le2, gt2, ge2, boolD, notD, negD, callC, resC, isiE, isi_tup, isi_listCh, isi_listL, isi_int, isi_boolI, isi_strS, lenD_Pi, isN, notN, intO, slF, startD, List.replicate, scal_int, scal_str, scal_bl, scal_non, scal_L, scal_Pi, scal_Ch, scal_lst, scal_tup, itemsE_L, itemsE_Ch, itemsE_lst, andE_t, andE_f, lenD_L, lenD_Ch, lenD_lst, lenD_tup, φ_line (h x hx)]
  have e2 : isi .list (L ls) = some true := rfl
  unfold φ_are_lines phi
  simp [g_are_lines, seqF, ownF, consA, un1, mp, bi, vE, vB, cellD, cellB, addC, frz, dC, tupD, nilA, augF, subF, modF, fdivF, powF, oI, yes2, ownC, setF, ifF, andF, orF, blE, retF, retNF, nxF, noF, dropF, fzF, fzs, fz, unpF, xvE, itemC, cI, lt2, le2, gt2, ge2, boolD, notD, negD, callC, resC, isiE, isi_tup, isi_listCh, isi_listL, isi_int, isi_boolI, isi_strS, lenD_Pi, isN, notN, intO, slF, startD, List.replicate, scal_int, scal_str, scal_bl, scal_non, scal_L, scal_Pi, scal_Ch, scal_lst, scal_tup, itemsE_L, itemsE_Ch, itemsE_lst, andE_t, andE_f, lenD_L, lenD_Ch, lenD_lst, lenD_tup, andE, allF, e]
theorem φ_page {ls : List Str} (h : Ln ls) (hl : ls.length ≤ 2000) : φ_is_page [L ls] = some (.ok true (.bl true)) := by
  have e : (ls.length : Int) ≤ 2000 := by omega
  unfold φ_is_page phi
  simp [g_is_page, seqF, ownF, consA, un1, mp, bi, vE, vB, cellD, cellB, addC, frz, dC, tupD, nilA, augF, subF, modF, fdivF, powF, oI, yes2, ownC, setF, ifF, andF, orF, blE, retF, retNF, nxF, noF, dropF, fzF, fzs, fz, unpF, xvE, itemC, cI, lt2, le2, gt2, ge2, boolD, notD, negD, callC, resC, isiE, isi_tup, isi_listCh, isi_listL, isi_int, isi_boolI, isi_strS, lenD_Pi, isN, notN, intO, slF, startD, List.replicate, scal_int, scal_str, scal_bl, scal_non, scal_L, scal_Pi, scal_Ch, scal_lst, scal_tup, itemsE_L, itemsE_Ch, itemsE_lst, andE_t, andE_f, lenD_L, lenD_Ch, lenD_lst, lenD_tup, andE, φ_lines h, e]
theorem φ_num {i : Int} : φ_is_number [.int i] = some (.ok true (.bl true)) := by
  unfold φ_is_number phi
  simp [g_is_number, seqF, ownF, consA, un1, mp, bi, vE, vB, cellD, cellB, addC, frz, dC, tupD, nilA, augF, subF, modF, fdivF, powF, oI, yes2, ownC, setF, ifF, andF, orF, blE, retF, retNF, nxF, noF, dropF, fzF, fzs, fz, unpF, xvE, itemC, cI, lt2, le2, gt2, ge2, boolD, notD, negD, callC, resC, isiE, isi_tup, isi_listCh, isi_listL, isi_int, isi_boolI, isi_strS, lenD_Pi, isN, notN, intO, slF, startD, List.replicate, scal_int, scal_str, scal_bl, scal_non, scal_L, scal_Pi, scal_Ch, scal_lst, scal_tup, itemsE_L, itemsE_Ch, itemsE_lst, andE_t, andE_f, lenD_L, lenD_Ch, lenD_lst, lenD_tup, andE]
theorem φ_piece {p : Pc} (h0 : 0 ≤ p.1) (h1 : Ln p.2.1) (h2 : Ln p.2.2) (h3 : 0 < p.2.1.length + p.2.2.length) : φ_is_piece [Pi p] = some (.ok true (.bl true)) := by
  have e : ¬ p.1 < 0 := by omega
  have e3 : (0 : Int) < (p.2.1.length : Int) + (p.2.2.length : Int) := by omega
  have i1 : isi .tuple (Pi p) = some true := rfl
  unfold φ_is_piece phi
  simp [g_is_piece, isiE, seqF, ownF, consA, un1, mp, bi, vE, vB, cellD, cellB, addC, frz, dC, tupD, nilA, augF, subF, modF, fdivF, powF, oI, yes2, ownC, setF, ifF, andF, orF, blE, retF, retNF, nxF, noF, dropF, fzF, fzs, fz, unpF, xvE, itemC, cI, lt2, le2, gt2, ge2, boolD, notD, negD, callC, resC, isiE, isi_tup, isi_listCh, isi_listL, isi_int, isi_boolI, isi_strS, lenD_Pi, isN, notN, intO, slF, startD, List.replicate, scal_int, scal_str, scal_bl, scal_non, scal_L, scal_Pi, scal_Ch, scal_lst, scal_tup, itemsE_L, itemsE_Ch, itemsE_lst, andE_t, andE_f, lenD_L, lenD_Ch, lenD_lst, lenD_tup, andE, unp3, φ_num, φ_lines h1, φ_lines h2, lenD_Pi, neD_int, e, e3, i1]
def Ap : Int → List Pc → Prop
  | _, [] => True
  | l, p :: c => l < p.1 ∧ Ap (p.1 + p.2.1.length) c
theorem itemB_Pi0 {p : Pc} : itemB (Pi p) (.int 0) = some (.int p.1) := rfl
theorem lb_ap {p q : Pc} {s0 : Option C} {m n : Bool} (h : p.1 + (p.2.1.length : Int) < q.1) : lb_are_apart_1 [s0, some (.d m (Pi p)), some (.d n (Pi q))] = some (.nx [s0, some (.d m (Pi p)), some (.d n (Pi q))]) := by
  have e : ¬ q.1 ≤ p.1 + (p.2.1.length : Int) := by omega
  simp [lb_are_apart_1, seqF, ownF, consA, un1, mp, bi, vE, vB, cellD, cellB, addC, frz, dC, tupD, nilA, augF, subF, modF, fdivF, powF, oI, yes2, ownC, setF, ifF, andF, orF, blE, retF, retNF, nxF, noF, dropF, fzF, fzs, fz, unpF, xvE, itemC, cI, lt2, le2, gt2, ge2, boolD, notD, negD, callC, resC, isiE, isi_tup, isi_listCh, isi_listL, isi_int, isi_boolI, isi_strS, lenD_Pi, isN, notN, intO, slF, startD, List.replicate, scal_int, scal_str, scal_bl, scal_non, scal_L, scal_Pi, scal_Ch, scal_lst, scal_tup, itemsE_L, itemsE_Ch, itemsE_lst, andE_t, andE_f, lenD_L, lenD_Ch, lenD_lst, lenD_tup, itemB_Pi0, φ_end, e]
theorem zipI_cons {m : Bool} {d e : D} {ds es : List D} : zipI m (d :: ds) (e :: es) = ((m || scal d) && (m || scal e), .tup [d, e]) :: zipI m ds es := rfl
theorem fr_ap {m : Bool} {s0 : Option C} : ∀ (c : List Pc) (p : Pc) (l : Int) (x y : Option C), Ap l (p :: c) → ∃ x' y', forD tg_are_apart_1 lb_are_apart_1 (zipI m ((p :: c).map Pi) (c.map Pi)) [s0, x, y] = some (.nx [s0, x', y'])
  | [], p, l, x, y, _ => ⟨x, y, rfl⟩
  | q :: c, p, l, x, y, h => by
    obtain ⟨x', y', ih⟩ := fr_ap (m := m) (s0 := s0) c q _ (some (.d m (Pi p))) (some (.d m (Pi q))) h.2
    refine ⟨x', y', ?_⟩
    have hq : p.1 + (p.2.1.length : Int) < q.1 := h.2.1
    rw [List.map_cons, List.map_cons, zipI_cons, forD_nx (τ1 := [s0, some (.d m (Pi p)), some (.d m (Pi q))]) ?_ (lb_ap hq), ← List.map_cons, ih]
    simp [tg_are_apart_1, tupT, consT, nameT, nilT, flag_cons, flag_nil, scal_Pi]
theorem cut_one {α : Type} {x : α} {xs : List α} : cutL (x :: xs) (some 1) none = xs := by
  unfold cutL
  rw [show HT.sIx (x :: xs).length 0 (some 1) = 1 from sIx_n (k := 1) (by simp), HT.sIx_none]
  simp
theorem φ_apart {l : Int} {c : List Pc} (h : Ap l c) : φ_are_apart [Ch c] = some (.ok true (.bl true)) := by
  cases c with
  | nil => rfl
  | cons p c =>
    obtain ⟨x', y', e⟩ := fr_ap (m := false) (s0 := some (.d false (Ch (p :: c)))) c p l none none h
    have e2 : cutC (false, Ch (p :: c)) (some 1) none = some (.own false (c.map Pi)) := by
      show some (C.own (false || allScal (Pi p :: c.map Pi)) (cutL (Pi p :: c.map Pi) (some 1) none)) = _
      rw [cut_one]
      rfl
    have e3 : zipF (false, [Ch (p :: c), .lst (c.map Pi)]) = some (zipI false ((p :: c).map Pi) (c.map Pi)) := rfl
    unfold φ_are_apart phi
    simp [g_are_apart, forF, seqF, ownF, consA, un1, mp, bi, vE, vB, cellD, cellB, addC, frz, dC, tupD, nilA, augF, subF, modF, fdivF, powF, oI, yes2, ownC, setF, ifF, andF, orF, blE, retF, retNF, nxF, noF, dropF, fzF, fzs, fz, unpF, xvE, itemC, cI, lt2, le2, gt2, ge2, boolD, notD, negD, callC, resC, isiE, isi_tup, isi_listCh, isi_listL, isi_int, isi_boolI, isi_strS, lenD_Pi, isN, notN, intO, slF, startD, List.replicate, scal_int, scal_str, scal_bl, scal_non, scal_L, scal_Pi, scal_Ch, scal_lst, scal_tup, itemsE_L, itemsE_Ch, itemsE_lst, andE_t, andE_f, lenD_L, lenD_Ch, lenD_lst, lenD_tup, e2, e3]
    simp only [List.map_cons] at e
    simp [e]
structure Vc (c : List Pc) : Prop where
  ap : Ap (-1) c
  ln : LnC c
  ne : ∀ p ∈ c, 0 < p.2.1.length + p.2.2.length
  bd : ∀ p ∈ c, 0 ≤ p.1
theorem φ_told {c : List Pc} (h : Vc c) : φ_is_told_change [Ch c] = some (.ok true (.bl true)) := by
  have e : allD [1] tg_is_told_change_1 (fun _ => some true) el_is_told_change_1 [some (.d false (Ch c)), none] (flag false (c.map Pi)) = some true := allD_ok _ fun p hp => by
    obtain ⟨d, hd, rfl⟩ := flag_mem hp
    obtain ⟨x, hx, rfl⟩ := List.mem_map.mp hd
    refine ⟨[some (.d false (Ch c)), some (.d false (Pi x))], true, rfl, rfl, ?_⟩
    simp [el_is_told_change_1, seqF, ownF, consA, un1, mp, bi, vE, vB, cellD, cellB, addC, frz, dC, tupD, nilA, augF, subF, modF, fdivF, powF, oI, yes2, ownC, setF, ifF, andF, orF, blE, retF, retNF, nxF, noF, dropF, fzF, fzs, fz, unpF, xvE, itemC, cI, lt2, le2, gt2, ge2, boolD, notD, negD, callC, resC, isiE, isi_tup, isi_listCh, isi_listL, isi_int, isi_boolI, isi_strS, lenD_Pi, isN, notN, intO, slF, startD, List.replicate, scal_int, scal_str, scal_bl, scal_non, scal_L, scal_Pi, scal_Ch, scal_lst, scal_tup, itemsE_L, itemsE_Ch, itemsE_lst, andE_t, andE_f, lenD_L, lenD_Ch, lenD_lst, lenD_tup, φ_piece (h.bd x hx) (h.ln x hx).1 (h.ln x hx).2 (h.ne x hx)]
  unfold φ_is_told_change phi
  simp [g_is_told_change, isiE, isi_listCh, seqF, ownF, consA, un1, mp, bi, vE, vB, cellD, cellB, addC, frz, dC, tupD, nilA, augF, subF, modF, fdivF, powF, oI, yes2, ownC, setF, ifF, andF, orF, blE, retF, retNF, nxF, noF, dropF, fzF, fzs, fz, unpF, xvE, itemC, cI, lt2, le2, gt2, ge2, boolD, notD, negD, callC, resC, isiE, isi_tup, isi_listCh, isi_listL, isi_int, isi_boolI, isi_strS, lenD_Pi, isN, notN, intO, slF, startD, List.replicate, scal_int, scal_str, scal_bl, scal_non, scal_L, scal_Pi, scal_Ch, scal_lst, scal_tup, itemsE_L, itemsE_Ch, itemsE_lst, andE_t, andE_f, lenD_L, lenD_Ch, lenD_lst, lenD_tup, andE, allF, e, φ_apart h.ap]
theorem φ_ckp {ls : List Str} (h : Ln ls) (hl : ls.length ≤ 2000) : φ_check_page [L ls] = some (.ok true .non) := by
  unfold φ_check_page phi
  simp [g_check_page, seqF, ownF, consA, un1, mp, bi, vE, vB, cellD, cellB, addC, frz, dC, tupD, nilA, augF, subF, modF, fdivF, powF, oI, yes2, ownC, setF, ifF, andF, orF, blE, retF, retNF, nxF, noF, dropF, fzF, fzs, fz, unpF, xvE, itemC, cI, lt2, le2, gt2, ge2, boolD, notD, negD, callC, resC, isiE, isi_tup, isi_listCh, isi_listL, isi_int, isi_boolI, isi_strS, lenD_Pi, isN, notN, intO, slF, startD, List.replicate, scal_int, scal_str, scal_bl, scal_non, scal_L, scal_Pi, scal_Ch, scal_lst, scal_tup, itemsE_L, itemsE_Ch, itemsE_lst, andE_t, andE_f, lenD_L, lenD_Ch, lenD_lst, lenD_tup, φ_page h hl]
theorem FitD.all {pg : List Str} : ∀ {c : List Pc} {pre cur : List Str}, pg = pre ++ cur → FitD pre.length cur c → ∀ p ∈ c, FitAt pg p
  | [], _, _, _, _, _, h => nomatch h
  | p :: c, pre, cur, e, ⟨g, r, e1, e2, h⟩, q, hq => by
    rcases List.mem_cons.mp hq with z | z
    · rw [z]
      exact ⟨pre ++ g, r, by rw [e, e1]; simp, by rw [e2]; simp⟩
    · refine FitD.all (pre := pre ++ (g ++ p.2.1)) (cur := r) (by rw [e, e1]; simp) ?_ q z
      rw [e2] at h
      have : ((List.length (pre ++ (g ++ p.2.1)) : Nat) : Int) = (pre.length : Int) + (g.length : Int) + (p.2.1.length : Int) := by simp; omega
      rw [this]
      exact h
end K06
end
section
set_option Elab.async false
set_option linter.all false
set_option maxRecDepth 100000
set_option maxHeartbeats 4000000
namespace K06
open PySem Dl
/-! ### the law's own numbers -/
theorem sm64_r {i j : Int} (h1 : -(2 ^ 64) < j) (h2 : j < 2 ^ 64) : sm64 i j = true := by
  unfold sm64
  rw [Bool.or_eq_true, Bool.and_eq_true, Bool.and_eq_true, decide_eq_true_eq, decide_eq_true_eq, decide_eq_true_eq, decide_eq_true_eq]
  exact .inr ⟨h1, h2⟩
theorem itemE_scr {m : Bool} {ns : List Int} {k : Nat} (h : k < ns.length) : itemE (m, .scr ns) (.int k) = some (true, .int (ns[k])) := by
  show (L2.atI ns (k : Int)).map _ = _
  rw [atI_nat h, List.getElem?_eq_getElem h]
  rfl
theorem lay_ints : ∀ ns : List Int, PyData.canLayAll0 (ns.map PyData.int) = true ∧ PyData.depthAll (ns.map PyData.int) = 0
  | [] => ⟨rfl, rfl⟩
  | n :: ns => by
    obtain ⟨h1, h2⟩ := lay_ints ns
    exact ⟨by simp [PyData.canLayAll0, PyData.canLay0, h1], by simp [PyData.depthAll, PyData.depth, h2]⟩
theorem eqD_scr {n : Int} {ns : List Int} : eqD (.scr (n :: ns)) (.lst []) = some false := by
  obtain ⟨h1, h2⟩ := lay_ints (n :: ns)
  have e1 : okEq (.scr (n :: ns)) = true := by simp only [okEq, plainD, py, SeqAt.shaped, PyData.canLay0, PyData.depth, h1, h2]; rfl
  have e2 : okEq (.lst []) = true := rfl
  unfold eqD
  rw [e1, e2, Bool.and_self, if_pos rfl]
  rfl
theorem seqF_nx {f g : FS} {τ τ' : DS} (h : f τ = some (.nx τ')) : seqF f g τ = g τ' := by unfold seqF; rw [h]; rfl
theorem seqF_rt {f g : FS} {τ : DS} {n : Bool} {d : D} (h : f τ = some (.rt n d)) : seqF f g τ = some (.rt n d) := by unfold seqF; rw [h]; rfl
theorem phi_rt {n : Nat} {g : FS} {ds : List D} {m : Bool} {d : D} (h : g (startD n ds) = some (.rt m d)) : phi n g ds = some (.ok m d) := by unfold phi; rw [h]
theorem cell_nil {d : D} {k l z : Int} (e5 : eqD d (.lst []) = some true) (hl : lenD d = some (true, .int l)) (hs : scal d = false) (e : ¬ k < l) (hz : k * 48271 = z) : φ__law_cell_at [d, .int k] = some (.ok true (.int z)) := by
  have h : g__law_cell_at [some (.d false d), some (.d true (.int k))] = some (.rt true (.int z)) := by
    unfold g__law_cell_at
    refine (seqF_nx (τ' := [some (.d false d), some (.d true (.int k))]) ?_).trans ((seqF_rt (n := true) (d := .int z) ?_))
    · simp [seqF, ownF, consA, un1, mp, bi, vE, vB, cellD, cellB, addC, frz, dC, tupD, nilA, augF, subF, modF, fdivF, powF, oI, yes2, ownC, setF, ifF, andF, orF, blE, retF, retNF, nxF, noF, dropF, fzF, fzs, fz, unpF, xvE, itemC, cI, lt2, le2, gt2, ge2, boolD, notD, negD, callC, resC, isiE, isi_tup, isi_listCh, isi_listL, isi_int, isi_boolI, isi_strS, lenD_Pi, isN, notN, intO, slF, startD, List.replicate, scal_int, scal_str, scal_bl, scal_non, scal_L, scal_Pi, scal_Ch, scal_lst, scal_tup, itemsE_L, itemsE_Ch, itemsE_lst, andE_t, andE_f, lenD_L, lenD_Ch, lenD_lst, lenD_tup, hl, e]
    · simp [seqF, ownF, consA, un1, mp, bi, vE, vB, cellD, cellB, addC, frz, dC, tupD, nilA, augF, subF, modF, fdivF, powF, oI, yes2, ownC, setF, ifF, andF, orF, blE, retF, retNF, nxF, noF, dropF, fzF, fzs, fz, unpF, xvE, itemC, cI, lt2, le2, gt2, ge2, boolD, notD, negD, callC, resC, isiE, isi_tup, isi_listCh, isi_listL, isi_int, isi_boolI, isi_strS, lenD_Pi, isN, notN, intO, slF, startD, List.replicate, scal_int, scal_str, scal_bl, scal_non, scal_L, scal_Pi, scal_Ch, scal_lst, scal_tup, itemsE_L, itemsE_Ch, itemsE_lst, andE_t, andE_f, lenD_L, lenD_Ch, lenD_lst, lenD_tup, e5, mulC, sm64_r, hz]
  refine phi_rt (n := 2) (g := g__law_cell_at) ?_
  have e2 : startD 2 [d, .int k] = [some (.d false d), some (.d true (.int k))] := by simp [seqF, ownF, consA, un1, mp, bi, vE, vB, cellD, cellB, addC, frz, dC, tupD, nilA, augF, subF, modF, fdivF, powF, oI, yes2, ownC, setF, ifF, andF, orF, blE, retF, retNF, nxF, noF, dropF, fzF, fzs, fz, unpF, xvE, itemC, cI, lt2, le2, gt2, ge2, boolD, notD, negD, callC, resC, isiE, isi_tup, isi_listCh, isi_listL, isi_int, isi_boolI, isi_strS, lenD_Pi, isN, notN, intO, slF, startD, List.replicate, scal_int, scal_str, scal_bl, scal_non, scal_L, scal_Pi, scal_Ch, scal_lst, scal_tup, itemsE_L, itemsE_Ch, itemsE_lst, andE_t, andE_f, lenD_L, lenD_Ch, lenD_lst, lenD_tup, hs]
  rw [e2]
  exact h
theorem eqD_scr0 : eqD (.scr []) (.lst []) = some true := by
  have e1 : okEq (.scr []) = true := rfl
  have e2 : okEq (.lst []) = true := rfl
  unfold eqD
  rw [e1, e2]
  rfl
theorem start2 {d e : D} (h : scal d = false) (h2 : scal e = true) : startD 2 [d, e] = [some (.d false d), some (.d true e)] := by simp [seqF, ownF, consA, un1, mp, bi, vE, vB, cellD, cellB, addC, frz, dC, tupD, nilA, augF, subF, modF, fdivF, powF, oI, yes2, ownC, setF, ifF, andF, orF, blE, retF, retNF, nxF, noF, dropF, fzF, fzs, fz, unpF, xvE, itemC, cI, lt2, le2, gt2, ge2, boolD, notD, negD, callC, resC, isiE, isi_tup, isi_listCh, isi_listL, isi_int, isi_boolI, isi_strS, lenD_Pi, isN, notN, intO, slF, startD, List.replicate, scal_int, scal_str, scal_bl, scal_non, scal_L, scal_Pi, scal_Ch, scal_lst, scal_tup, itemsE_L, itemsE_Ch, itemsE_lst, andE_t, andE_f, lenD_L, lenD_Ch, lenD_lst, lenD_tup, h, h2]
theorem cell_lt {d : D} {k l z : Int} (hl : lenD d = some (true, .int l)) (hs : scal d = false) (e : k < l) (e6 : itemE (false, d) (.int k) = some (true, .int z)) : φ__law_cell_at [d, .int k] = some (.ok true (.int z)) := by
  refine phi_rt (n := 2) (g := g__law_cell_at) ?_
  rw [start2 hs rfl]
  unfold g__law_cell_at
  refine (seqF_rt (n := true) (d := .int z) ?_)
  simp [seqF, ownF, consA, un1, mp, bi, vE, vB, cellD, cellB, addC, frz, dC, tupD, nilA, augF, subF, modF, fdivF, powF, oI, yes2, ownC, setF, ifF, andF, orF, blE, retF, retNF, nxF, noF, dropF, fzF, fzs, fz, unpF, xvE, itemC, cI, lt2, le2, gt2, ge2, boolD, notD, negD, callC, resC, isiE, isi_tup, isi_listCh, isi_listL, isi_int, isi_boolI, isi_strS, lenD_Pi, isN, notN, intO, slF, startD, List.replicate, scal_int, scal_str, scal_bl, scal_non, scal_L, scal_Pi, scal_Ch, scal_lst, scal_tup, itemsE_L, itemsE_Ch, itemsE_lst, andE_t, andE_f, lenD_L, lenD_Ch, lenD_lst, lenD_tup, hl, e, e6]
theorem cell_cons {d : D} {k l i z : Int} (e5 : eqD d (.lst []) = some false) (hl : lenD d = some (true, .int l)) (hs : scal d = false) (e : ¬ k < l) (h0 : 0 < l) (e6 : itemE (false, d) (.int (k % l)) = some (true, .int i)) (hz : (i + k) * 48271 % 2147483647 = z) :
    φ__law_cell_at [d, .int k] = some (.ok true (.int z)) := by
  refine phi_rt (n := 2) (g := g__law_cell_at) ?_
  rw [start2 hs rfl]
  unfold g__law_cell_at
  refine (seqF_nx (τ' := [some (.d false d), some (.d true (.int k))]) ?_).trans ((seqF_nx (τ' := [some (.d false d), some (.d true (.int k))]) ?_).trans ?_)
  · simp [seqF, ownF, consA, un1, mp, bi, vE, vB, cellD, cellB, addC, frz, dC, tupD, nilA, augF, subF, modF, fdivF, powF, oI, yes2, ownC, setF, ifF, andF, orF, blE, retF, retNF, nxF, noF, dropF, fzF, fzs, fz, unpF, xvE, itemC, cI, lt2, le2, gt2, ge2, boolD, notD, negD, callC, resC, isiE, isi_tup, isi_listCh, isi_listL, isi_int, isi_boolI, isi_strS, lenD_Pi, isN, notN, intO, slF, startD, List.replicate, scal_int, scal_str, scal_bl, scal_non, scal_L, scal_Pi, scal_Ch, scal_lst, scal_tup, itemsE_L, itemsE_Ch, itemsE_lst, andE_t, andE_f, lenD_L, lenD_Ch, lenD_lst, lenD_tup, hl, e]
  · simp [seqF, ownF, consA, un1, mp, bi, vE, vB, cellD, cellB, addC, frz, dC, tupD, nilA, augF, subF, modF, fdivF, powF, oI, yes2, ownC, setF, ifF, andF, orF, blE, retF, retNF, nxF, noF, dropF, fzF, fzs, fz, unpF, xvE, itemC, cI, lt2, le2, gt2, ge2, boolD, notD, negD, callC, resC, isiE, isi_tup, isi_listCh, isi_listL, isi_int, isi_boolI, isi_strS, lenD_Pi, isN, notN, intO, slF, startD, List.replicate, scal_int, scal_str, scal_bl, scal_non, scal_L, scal_Pi, scal_Ch, scal_lst, scal_tup, itemsE_L, itemsE_Ch, itemsE_lst, andE_t, andE_f, lenD_L, lenD_Ch, lenD_lst, lenD_tup, e5]
  · simp [seqF, ownF, consA, un1, mp, bi, vE, vB, cellD, cellB, addC, frz, dC, tupD, nilA, augF, subF, modF, fdivF, powF, oI, yes2, ownC, setF, ifF, andF, orF, blE, retF, retNF, nxF, noF, dropF, fzF, fzs, fz, unpF, xvE, itemC, cI, lt2, le2, gt2, ge2, boolD, notD, negD, callC, resC, isiE, isi_tup, isi_listCh, isi_listL, isi_int, isi_boolI, isi_strS, lenD_Pi, isN, notN, intO, slF, startD, List.replicate, scal_int, scal_str, scal_bl, scal_non, scal_L, scal_Pi, scal_Ch, scal_lst, scal_tup, itemsE_L, itemsE_Ch, itemsE_lst, andE_t, andE_f, lenD_L, lenD_Ch, lenD_lst, lenD_tup, hl, h0, e6, mulC, sm64_r, hz]
theorem φ_cell (ns : List Int) (k : Nat) : ∃ z, φ__law_cell_at [.scr ns, .int k] = some (.ok true (.int z)) := by
  have hl : lenD (.scr ns) = some (true, .int (ns.length : Int)) := rfl
  by_cases h : k < ns.length
  · have hm := cell_lt hl rfl (show (k : Int) < (ns.length : Int) by omega) (itemE_scr h)
    exact ⟨_, hm⟩
  · have e : ¬ (k : Int) < (ns.length : Int) := by omega
    by_cases hn : ns = []
    · subst hn
      have hm := cell_nil eqD_scr0 hl rfl e rfl
      exact ⟨_, hm⟩
    · obtain ⟨n, r, rfl⟩ := List.exists_cons_of_ne_nil hn
      have hl0 : 0 < (n :: r).length := by simp
      have hm := cell_cons (eqD_scr (n := n) (ns := r)) hl rfl e (by omega) (show itemE (false, .scr (n :: r)) (.int ((k : Int) % ((n :: r).length : Int))) = _ by rw [← Int.natCast_emod]; exact itemE_scr (Nat.mod_lt _ hl0)) rfl
      exact ⟨_, hm⟩
inductive Dg : List Int → List Int → Prop
  | nil : Dg [] []
  | cons {d b : Int} {ds bs : List Int} (h : 0 ≤ d ∧ d < b) (t : Dg ds bs) : Dg (d :: ds) (b :: bs)
def iL (ds : List Int) : D := .lst (ds.map .int)
theorem lb_nu {s0 s1 : Option C} {m2 m4 n : Bool} {z b : Int} {acc : List D} (h1 : 0 < b) (h2 : b < 1073741824) (h3 : acc.length < lim) :
    lb__law_numbers_1 [s0, s1, some (.d m2 (.int z)), some (.own n acc), some (.d m4 (.int b))] = some (.nx [s0, s1, some (.d true (.int (z / b))), some (.own n (acc ++ [.int (z % b)])), some (.d m4 (.int b))]) := by
  have h3 : acc.length < 16777216 := h3
  simp [lb__law_numbers_1, seqF, ownF, consA, un1, mp, bi, vE, vB, cellD, cellB, addC, frz, dC, tupD, nilA, augF, subF, modF, fdivF, powF, oI, yes2, ownC, setF, ifF, andF, orF, blE, retF, retNF, nxF, noF, dropF, fzF, fzs, fz, unpF, xvE, itemC, cI, lt2, le2, gt2, ge2, boolD, notD, negD, callC, resC, isiE, isi_tup, isi_listCh, isi_listL, isi_int, isi_boolI, isi_strS, lenD_Pi, isN, notN, intO, slF, startD, List.replicate, scal_int, scal_str, scal_bl, scal_non, scal_L, scal_Pi, scal_Ch, scal_lst, scal_tup, itemsE_L, itemsE_Ch, itemsE_lst, andE_t, andE_f, lenD_L, lenD_Ch, lenD_lst, lenD_tup, appOp, h1, h2, h3, lim]
theorem fr_nu {s0 s1 : Option C} {m : Bool} : ∀ (bs : List Int) (z : Int) (acc : List D) (m2 : Bool) (x : Option C), (∀ b ∈ bs, 0 < b ∧ b < 1073741824) → acc.length + bs.length ≤ lim →
    ∃ z' m2' x' ds, forD tg__law_numbers_1 lb__law_numbers_1 (flag m (bs.map .int)) [s0, s1, some (.d m2 (.int z)), some (.own true acc), x] = some (.nx [s0, s1, some (.d m2' (.int z')), some (.own true (acc ++ ds.map .int)), x']) ∧ Dg ds bs
  | [], z, acc, m2, x, _, _ => ⟨z, m2, x, [], by simp [flag_nil, forD_nil], .nil⟩
  | b :: bs, z, acc, m2, x, h, hl => by
    obtain ⟨h1, h2⟩ := h b (List.mem_cons_self ..)
    rw [List.length_cons] at hl
    obtain ⟨z', m2', x', ds, ih, f⟩ := fr_nu (s0 := s0) (s1 := s1) (m := m) bs (z / b) (acc ++ [.int (z % b)]) true (some (.d true (.int b))) (fun c hc => h c (List.mem_cons_of_mem _ hc)) (by rw [List.length_append, List.length_singleton]; omega)
    refine ⟨z', m2', x', z % b :: ds, ?_, .cons ⟨Int.emod_nonneg _ (by omega), Int.emod_lt_of_pos _ h1⟩ f⟩
    rw [List.map_cons, flag_cons, forD_nx (τ1 := [s0, s1, some (.d m2 (.int z)), some (.own true acc), some (.d true (.int b))]) ?_ (lb_nu h1 h2 (by omega)), ih]
    · simp
    · simp [tg__law_numbers_1, nameT, scal_int]
theorem pow_ok (z : Int) : (z % 2147483647 * 48271 + 12345).natAbs < 2 ^ 64 := by
  have h1 := Int.emod_nonneg z (b := 2147483647) (by decide)
  have h2 := Int.emod_lt_of_pos z (b := 2147483647) (by decide)
  omega
theorem φ_nu (z : Int) (bs : List Int) (h : ∀ b ∈ bs, 0 < b ∧ b < 1073741824) (hl : bs.length ≤ lim) : ∃ ds, φ__law_numbers [.int z, iL bs] = some (.ok true (iL ds)) ∧ Dg ds bs := by
  have it : itemsE (false, iL bs) = some (flag false (bs.map .int)) := rfl
  have sc : scal (iL bs) = false := rfl
  have pk := pow_ok z
  by_cases hz : z < 1000000000000000000
  · obtain ⟨z', m2', x', ds, e, f⟩ := fr_nu (s0 := some (.d true (.int z))) (s1 := some (.d false (iL bs))) (m := false) bs ((z % 2147483647 * 48271 + 12345) ^ 5 / 1013) [] true none h (by simpa using hl)
    refine ⟨ds, ?_, f⟩
    unfold φ__law_numbers phi
    simp [g__law_numbers, seqF, ownF, consA, un1, mp, bi, vE, vB, cellD, cellB, addC, frz, dC, tupD, nilA, augF, subF, modF, fdivF, powF, oI, yes2, ownC, setF, ifF, andF, orF, blE, retF, retNF, nxF, noF, dropF, fzF, fzs, fz, unpF, xvE, itemC, cI, lt2, le2, gt2, ge2, boolD, notD, negD, callC, resC, isiE, isi_tup, isi_listCh, isi_listL, isi_int, isi_boolI, isi_strS, lenD_Pi, isN, notN, intO, slF, startD, List.replicate, scal_int, scal_str, scal_bl, scal_non, scal_L, scal_Pi, scal_Ch, scal_lst, scal_tup, itemsE_L, itemsE_Ch, itemsE_lst, andE_t, andE_f, lenD_L, lenD_Ch, lenD_lst, lenD_tup, forF, sc, hz, mulC, sm64_r, pk, it, e]
    rfl
  · obtain ⟨z', m2', x', ds, e, f⟩ := fr_nu (s0 := some (.d true (.int z))) (s1 := some (.d false (iL bs))) (m := false) bs z [] true none h (by simpa using hl)
    refine ⟨ds, ?_, f⟩
    unfold φ__law_numbers phi
    simp [g__law_numbers, seqF, ownF, consA, un1, mp, bi, vE, vB, cellD, cellB, addC, frz, dC, tupD, nilA, augF, subF, modF, fdivF, powF, oI, yes2, ownC, setF, ifF, andF, orF, blE, retF, retNF, nxF, noF, dropF, fzF, fzs, fz, unpF, xvE, itemC, cI, lt2, le2, gt2, ge2, boolD, notD, negD, callC, resC, isiE, isi_tup, isi_listCh, isi_listL, isi_int, isi_boolI, isi_strS, lenD_Pi, isN, notN, intO, slF, startD, List.replicate, scal_int, scal_str, scal_bl, scal_non, scal_L, scal_Pi, scal_Ch, scal_lst, scal_tup, itemsE_L, itemsE_Ch, itemsE_lst, andE_t, andE_f, lenD_L, lenD_Ch, lenD_lst, lenD_tup, forF, sc, hz, mulC, sm64_r, it, e]
    rfl
theorem φ_li : φ__law_lines [] = some (.ok true (L LL)) := rfl
end K06
end
section
set_option Elab.async false
set_option linter.all false
set_option maxRecDepth 100000
set_option maxHeartbeats 4000000
namespace K06
open PySem Dl
theorem Ap.le {l l' : Int} (h : l' ≤ l) : ∀ {c : List Pc}, Ap l c → Ap l' c
  | [], _ => trivial
  | p :: c, ⟨h1, h2⟩ => ⟨by omega, h2⟩
theorem Ap.gt {l : Int} : ∀ {c : List Pc}, Ap l c → ∀ p ∈ c, l < p.1
  | p :: c, ⟨h1, h2⟩, q, hq => by
    rcases List.mem_cons.mp hq with z | z
    · rw [z]; exact h1
    · have := Ap.gt h2 q z
      omega
/-! ### heights -/
def rowF (prev : Nat → Nat) (m : Nat → Bool) : Nat → Nat
  | 0 => prev 0 + 1
  | j + 1 => if m j = true then prev j else min (prev (j + 1)) (rowF prev m j) + 1
def Dm (a b : List Str) : Nat → Nat → Nat
  | 0 => fun j => j
  | i + 1 => rowF (Dm a b i) fun j => decide (a[i]? = b[j]?)
variable {a b : List Str}
theorem Dm_0 {j : Nat} : Dm a b 0 j = j := rfl
theorem Dm_s0 {i : Nat} : Dm a b (i + 1) 0 = Dm a b i 0 + 1 := rfl
theorem Dm_i0 : ∀ i : Nat, Dm a b i 0 = i
  | 0 => rfl
  | i + 1 => by rw [Dm_s0, Dm_i0 i]
theorem Dm_eq {i j : Nat} (h : a[i]? = b[j]?) : Dm a b (i + 1) (j + 1) = Dm a b i j := by
  show (if decide (a[i]? = b[j]?) = true then _ else _) = _
  rw [if_pos (by simpa using h)]
theorem Dm_ne {i j : Nat} (h : ¬ a[i]? = b[j]?) : Dm a b (i + 1) (j + 1) = min (Dm a b i (j + 1)) (Dm a b (i + 1) j) + 1 := by
  show (if decide (a[i]? = b[j]?) = true then _ else _) = _
  rw [if_neg (by simpa using h)]
  rfl
theorem Dm_lip : ∀ i : Nat, (∀ j, Dm a b i (j + 1) ≤ Dm a b i j + 1 ∧ Dm a b i j ≤ Dm a b i (j + 1) + 1)
  | 0 => fun j => by simp only [Dm_0]; omega
  | i + 1 => fun j => by
    have ih := Dm_lip i
    have two : ∀ j, Dm a b (i + 1) j ≤ Dm a b i j + 1 ∧ Dm a b i j ≤ Dm a b (i + 1) j + 1 := by
      intro j
      induction j with
      | zero => rw [Dm_s0]; omega
      | succ j h2 =>
        have h1 := ih j
        by_cases h : a[i]? = b[j]?
        · rw [Dm_eq h]; omega
        · rw [Dm_ne h]; omega
    have h1 := ih j
    have h2 := two j
    by_cases h : a[i]? = b[j]?
    · rw [Dm_eq h]; omega
    · rw [Dm_ne h]; omega
theorem Dm_lip2 (i : Nat) : ∀ j, Dm a b (i + 1) j ≤ Dm a b i j + 1 ∧ Dm a b i j ≤ Dm a b (i + 1) j + 1 := by
  have ih := Dm_lip (a := a) (b := b) i
  intro j
  induction j with
  | zero => rw [Dm_s0]; omega
  | succ j h2 =>
    have h1 := ih j
    by_cases h : a[i]? = b[j]?
    · rw [Dm_eq h]; omega
    · rw [Dm_ne h]; omega
/-! ### the lines kept -/
def bt (a b : List Str) : Nat → Nat → Nat → List (Nat × Nat)
  | 0, _, _ => []
  | f + 1, 0, _ => []
  | f + 1, _ + 1, 0 => []
  | f + 1, i + 1, j + 1 => if a[i]? = b[j]? then (i, j) :: bt a b f i j else if Dm a b i (j + 1) < Dm a b (i + 1) (j + 1) then bt a b f i (j + 1) else bt a b f (i + 1) j
theorem bt_len : ∀ (f i j : Nat), i + j ≤ f → Dm a b i j + 2 * (bt a b f i j).length = i + j
  | 0, i, j, h => by
    have : i = 0 := by omega
    subst this
    have : j = 0 := by omega
    subst this
    rfl
  | f + 1, 0, j, h => by simp [bt, Dm_0]
  | f + 1, i + 1, 0, h => by simp [bt, Dm_i0]
  | f + 1, i + 1, j + 1, h => by
    unfold bt
    by_cases h0 : a[i]? = b[j]?
    · rw [if_pos h0, Dm_eq h0, List.length_cons]
      have := bt_len f i j (by omega)
      omega
    · rw [if_neg h0]
      by_cases h1 : Dm a b i (j + 1) < Dm a b (i + 1) (j + 1)
      · rw [if_pos h1]
        have := bt_len f i (j + 1) (by omega)
        have e := Dm_ne h0
        omega
      · rw [if_neg h1]
        have := bt_len f (i + 1) j (by omega)
        have e := Dm_ne h0
        omega
/-- descending pairs of like lines below i, j -/
def Kd (a b : List Str) : Nat → Nat → List (Nat × Nat) → Prop
  | _, _, [] => True
  | i, j, (p, q) :: k => p < i ∧ q < j ∧ a[p]? = b[q]? ∧ Kd a b p q k
theorem Kd.mono : ∀ {k : List (Nat × Nat)} {i j i' j' : Nat}, Kd a b i j k → i ≤ i' → j ≤ j' → Kd a b i' j' k
  | [], _, _, _, _, _, _, _ => trivial
  | (p, q) :: k, _, _, _, _, ⟨h1, h2, h3, h4⟩, h, h' => ⟨by omega, by omega, h3, h4⟩
theorem bt_ok : ∀ (f i j : Nat), Kd a b i j (bt a b f i j)
  | 0, i, j => trivial
  | f + 1, 0, j => trivial
  | f + 1, i + 1, 0 => trivial
  | f + 1, i + 1, j + 1 => by
    unfold bt
    by_cases h0 : a[i]? = b[j]?
    · rw [if_pos h0]
      exact ⟨by omega, by omega, h0, bt_ok f i j⟩
    · rw [if_neg h0]
      split
      · exact (bt_ok f i (j + 1)).mono (by omega) (by omega)
      · exact (bt_ok f (i + 1) j).mono (by omega) (by omega)
/-- ascending -/
def Ku (a b : List Str) : Nat → Nat → List (Nat × Nat) → Prop
  | p, q, [] => p ≤ a.length ∧ q ≤ b.length
  | p, q, (i, j) :: k => p ≤ i ∧ q ≤ j ∧ i < a.length ∧ j < b.length ∧ a[i]? = b[j]? ∧ Ku a b (i + 1) (j + 1) k
theorem Ku.mono : ∀ {k : List (Nat × Nat)} {p q p' q' : Nat}, Ku a b p q k → p' ≤ p → q' ≤ q → Ku a b p' q' k
  | [], _, _, _, _, ⟨h1, h2⟩, h, h' => ⟨by omega, by omega⟩
  | (i, j) :: k, _, _, _, _, ⟨h1, h2, h3⟩, h, h' => ⟨by omega, by omega, h3⟩
theorem Kd_rev : ∀ (k acc : List (Nat × Nat)) (i j : Nat), i ≤ a.length → j ≤ b.length → Kd a b i j k → Ku a b i j acc → Ku a b 0 0 (k.reverse ++ acc)
  | [], acc, i, j, _, _, _, h => h.mono (by omega) (by omega)
  | (p, q) :: k, acc, i, j, hi, hj, ⟨h1, h2, h3, h4⟩, h => by
    rw [List.reverse_cons, List.append_assoc]
    exact Kd_rev k ([(p, q)] ++ acc) p q (by omega) (by omega) h4 ⟨by omega, by omega, by omega, by omega, h3, h.mono (by omega) (by omega)⟩
/-! ### the change between -/
def fl (a b : List Str) (p q i j : Nat) : List Pc := if p < i ∨ q < j then [((p : Int), (a.drop p).take (i - p), (b.drop q).take (j - q))] else []
def cb (a b : List Str) : Nat → Nat → List (Nat × Nat) → List Pc
  | p, q, [] => fl a b p q a.length b.length
  | p, q, (i, j) :: k => fl a b p q i j ++ cb a b (i + 1) (j + 1) k
theorem FitD.pre : ∀ {c : List Pc} {k : Int} {u pg : List Str}, FitD (k + u.length) pg c → FitD k (u ++ pg) c
  | [], _, _, _, _ => trivial
  | p :: c, k, u, pg, ⟨g, r, e1, e2, h⟩ => ⟨u ++ g, r, by rw [e1]; simp, by rw [e2, List.length_append]; omega, h⟩
theorem repl_pre : ∀ {c : List Pc} {k : Int} {u pg : List Str}, FitD (k + u.length) pg c → repl k (u ++ pg) c = u ++ repl (k + u.length) pg c
  | [], _, _, _, _ => rfl
  | p :: c, k, u, pg, ⟨g, r, e1, e2, h⟩ => by
    subst e1
    rw [repl_cons e2, ← List.append_assoc, repl_cons (s := k) (g := u ++ g) (by rw [e2, List.length_append]; omega)]
    simp
def sz (c : List Pc) : Nat := (c.map fun p => p.2.1.length + p.2.2.length).sum
theorem sz_app {c d : List Pc} : sz (c ++ d) = sz c + sz d := by simp [sz]
theorem cut_drop {xs : List Str} {p i : Nat} (h : p ≤ i) : xs.drop p = (xs.drop p).take (i - p) ++ xs.drop i := by
  have : xs.drop i = (xs.drop p).drop (i - p) := by rw [List.drop_drop]; congr 1; omega
  rw [this, List.take_append_drop]
theorem cut_len {xs : List Str} {p i : Nat} (h : p ≤ i) (hi : i ≤ xs.length) : ((xs.drop p).take (i - p)).length = i - p := by
  rw [List.length_take, List.length_drop]; omega
/-- what is known of a change from p, q on -/
structure Cb (a b : List Str) (p q : Nat) (c : List Pc) : Prop where
  fit : FitD p (a.drop p) c
  rep : repl p (a.drop p) c = b.drop q
  ap : Ap ((p : Int) - 1) c
  bd : ∀ x ∈ c, x.2.1.length ≤ a.length ∧ x.2.2.length ≤ b.length ∧ 0 < x.2.1.length + x.2.2.length
  ln : Ln a → Ln b → LnC c
theorem fl_cb {p q i j : Nat} {c : List Pc} (hp : p ≤ i) (hq : q ≤ j) (hi : i ≤ a.length) (hj : j ≤ b.length) (f : FitD i (a.drop i) c) (r : repl i (a.drop i) c = b.drop j) (ap : Ap (i : Int) c)
    (bd : ∀ x ∈ c, x.2.1.length ≤ a.length ∧ x.2.2.length ≤ b.length ∧ 0 < x.2.1.length + x.2.2.length) (ln : Ln a → Ln b → LnC c) : Cb a b p q (fl a b p q i j ++ c) ∧ sz (fl a b p q i j) = (i - p) + (j - q) := by
  unfold fl
  by_cases h : p < i ∨ q < j
  · rw [if_pos h]
    have la := cut_len (xs := a) hp hi
    have lb := cut_len (xs := b) hq hj
    have ea := cut_drop (xs := a) hp
    have eb := cut_drop (xs := b) hq
    have e : (p : Int) + (((a.drop p).take (i - p)).length : Int) = (i : Int) := by rw [la]; omega
    refine ⟨⟨⟨[], a.drop i, ea, by simp, ?_⟩, ?_, ⟨by show (p : Int) - 1 < (p : Int); omega, ?_⟩, ?_, ?_⟩, ?_⟩
    · show FitD ((p : Int) + (((a.drop p).take (i - p)).length : Int)) _ _
      rw [e]; exact f
    · show repl p (a.drop p) (((p : Int), (a.drop p).take (i - p), (b.drop q).take (j - q)) :: c) = _
      have := repl_cons' (s := (p : Int)) (pl := (p : Int)) (g := []) (ta := (a.drop p).take (i - p)) (r := a.drop i) (pu := (b.drop q).take (j - q)) (c := c) (by simp)
      rw [List.nil_append, ← ea, e, r, List.nil_append, ← eb] at this
      exact this
    · show Ap ((p : Int) + (((a.drop p).take (i - p)).length : Int)) c
      rw [e]; exact ap
    · intro x hx
      rcases List.mem_cons.mp hx with z | z
      · rw [z]
        dsimp only
        rw [la, lb]
        omega
      · exact bd x z
    · intro ha hb x hx
      rcases List.mem_cons.mp hx with z | z
      · rw [z]
        exact ⟨fun y hy => ha y (List.mem_of_mem_drop (List.mem_of_mem_take hy)), fun y hy => hb y (List.mem_of_mem_drop (List.mem_of_mem_take hy))⟩
      · exact ln ha hb x z
    · simp only [sz, List.map_cons, List.map_nil, List.sum_cons, List.sum_nil, la, lb]
      omega
  · rw [if_neg h]
    have e1 : p = i := by omega
    have e2 : q = j := by omega
    subst e1
    subst e2
    exact ⟨⟨f, r, Ap.le (by omega) ap, bd, ln⟩, by simp [sz]⟩
theorem cb_ok : ∀ (k : List (Nat × Nat)) (p q : Nat), Ku a b p q k → Cb a b p q (cb a b p q k) ∧ sz (cb a b p q k) + 2 * k.length = (a.length - p) + (b.length - q)
  | [], p, q, ⟨h1, h2⟩ => by
    have := fl_cb (a := a) (b := b) (c := []) h1 h2 (Nat.le_refl _) (Nat.le_refl _) trivial (by rw [List.drop_length, List.drop_length]; rfl) trivial (fun _ h => nomatch h) (fun _ _ _ h => nomatch h)
    rw [List.append_nil] at this
    exact ⟨this.1, by show sz (fl a b p q a.length b.length) + 2 * 0 = _; omega⟩
  | (i, j) :: k, p, q, ⟨h1, h2, h3, h4, h5, h6⟩ => by
    obtain ⟨c1, c2⟩ := cb_ok k (i + 1) (j + 1) h6
    have da : a.drop i = [a[i]] ++ a.drop (i + 1) := by rw [List.drop_eq_getElem_cons h3]; rfl
    have db : b.drop j = [a[i]] ++ b.drop (j + 1) := by
      rw [List.getElem?_eq_getElem h3, List.getElem?_eq_getElem h4] at h5
      rw [List.drop_eq_getElem_cons h4, ← Option.some.inj h5]; rfl
    have f0 : FitD ((i : Int) + (([a[i]] : List Str).length : Int)) (a.drop (i + 1)) (cb a b (i + 1) (j + 1) k) := by
      have := c1.fit
      rw [show (((i + 1 : Nat)) : Int) = (i : Int) + (([a[i]] : List Str).length : Int) from by simp] at this
      exact this
    have r0 : repl ((i : Int) + (([a[i]] : List Str).length : Int)) (a.drop (i + 1)) (cb a b (i + 1) (j + 1) k) = b.drop (j + 1) := by
      have := c1.rep
      rw [show (((i + 1 : Nat)) : Int) = (i : Int) + (([a[i]] : List Str).length : Int) from by simp] at this
      exact this
    have := fl_cb (a := a) (b := b) (c := cb a b (i + 1) (j + 1) k) h1 h2 (by omega) (by omega) (by rw [da]; exact FitD.pre f0) (by rw [da, repl_pre f0, r0, ← db]) (Ap.le (by omega) c1.ap) c1.bd c1.ln
    refine ⟨this.1, ?_⟩
    show sz (fl a b p q i j ++ cb a b (i + 1) (j + 1) k) + 2 * (k.length + 1) = _
    rw [sz_app, this.2]
    omega
/-- the change that is told -/
def kp (a b : List Str) : List (Nat × Nat) := (bt a b (a.length + b.length) a.length b.length).reverse
def mk (a b : List Str) : List Pc := cb a b 0 0 (kp a b)
theorem mk_ok : Cb a b 0 0 (mk a b) ∧ sz (mk a b) = Dm a b a.length b.length := by
  have h := Kd_rev (a := a) (b := b) (bt a b (a.length + b.length) a.length b.length) [] a.length b.length (Nat.le_refl _) (Nat.le_refl _) (bt_ok _ _ _) ⟨Nat.le_refl _, Nat.le_refl _⟩
  rw [List.append_nil] at h
  obtain ⟨h1, h2⟩ := cb_ok (a := a) (b := b) (kp a b) 0 0 h
  refine ⟨h1, ?_⟩
  have h3 := bt_len (a := a) (b := b) (a.length + b.length) a.length b.length (Nat.le_refl _)
  have h4 : (kp a b).length = (bt a b (a.length + b.length) a.length b.length).length := by unfold kp; rw [List.length_reverse]
  unfold mk
  omega
end K06
end
section
set_option Elab.async false
set_option linter.all false
set_option maxRecDepth 100000
set_option maxHeartbeats 4000000
namespace K06
open PySem Dl
theorem listC_L {m : Bool} {a : List Str} : listC (m, L a) = some (.own true (a.map .str)) := by
  show some (C.own (m || allScal (a.map D.str)) (a.map D.str)) = _
  rw [scalStr, Bool.or_true]
theorem lcD_map {vs : List Nat} {t : TgD} {c : FT} {e : FE} {τ : DS} {m : Bool} {f : D → D} : ∀ (ds : List D), (∀ d ∈ ds, ∃ τ1, t (m || scal d, d) (wD τ vs) = some τ1 ∧ c τ1 = some true ∧ e τ1 = some (true, f d)) → lcD vs t c e τ (flag m ds) = some (true, ds.map f)
  | [], _ => rfl
  | d :: ds, h => by
    obtain ⟨τ1, h1, h2, h3⟩ := h d (List.mem_cons_self ..)
    rw [flag_cons, lcD, h1, Option.bind_some, h2, Option.bind_some, if_pos rfl, h3, Option.bind_some, lcD_map ds fun q hq => h q (List.mem_cons_of_mem _ hq)]
    rfl
/-! ### the law's own look at a change -/
theorem itemC_Pi1 {m : Bool} {p : Pc} : itemC (some (some (.d m (Pi p)))) (.int 1) = some (m || false, L p.2.1) := rfl
theorem itemC_Pi2 {m : Bool} {p : Pc} : itemC (some (some (.d m (Pi p)))) (.int 2) = some (m || false, L p.2.2) := rfl
theorem itemC_Pi0 {m : Bool} {p : Pc} : itemC (some (some (.d m (Pi p)))) (.int 0) = some (m || true, .int p.1) := rfl
theorem itemB_Pi1 {p : Pc} : itemB (Pi p) (.int 1) = some (L p.2.1) := rfl
theorem itemB_Pi2 {p : Pc} : itemB (Pi p) (.int 2) = some (L p.2.2) := rfl
theorem addC_L {m n : Bool} {a b : List Str} (h : a.length + b.length ≤ lim) : addC (m, L a) (n, L b) = some (.own (m && n) ((a ++ b).map .str)) := by
  show (if (a.map D.str).length + (b.map D.str).length ≤ lim then some (C.own (m && n) (a.map D.str ++ b.map D.str)) else none) = _
  rw [List.length_map, List.length_map, if_pos h, List.map_append]
theorem eqD_ne {ls : List Str} (h : Ln ls) (hn : 0 < ls.length) : eqD (.lst (ls.map .str)) (.lst []) = some false := by
  have e2 : okEq (.lst []) = true := rfl
  unfold eqD
  rw [show D.lst (ls.map .str) = L ls from rfl, okEq_L h, e2, Bool.and_self, if_pos rfl]
  cases ls with
  | nil => cases hn
  | cons x r => rfl
theorem lb_ic {c0 : Option C} {last : Int} {p : Pc} {m n : Bool} (h : last < p.1) (ha : Ln p.2.1) (hb : Ln p.2.2) (hn : 0 < p.2.1.length + p.2.2.length) (hl : p.2.1.length + p.2.2.length ≤ lim) :
    lb__law_is_change_1 [c0, some (.d m (.int last)), some (.d n (Pi p))] = some (.nx [c0, some (.d true (.int (p.1 + p.2.1.length))), some (.d n (Pi p))]) := by
  have e : ¬ p.1 ≤ last := by omega
  have e2 := eqD_ne (ls := p.2.1 ++ p.2.2) (fun x hx => (List.mem_append.mp hx).elim (ha x) (hb x)) (by rw [List.length_append]; exact hn)
  rw [List.map_append] at e2
  simp only [lb__law_is_change_1]
  rw [seqF_nx (τ' := [c0, some (.d m (.int last)), some (.d n (Pi p))]), seqF_nx (τ' := [c0, some (.d m (.int last)), some (.d n (Pi p))])]
  · simp [setF, bi, xvE, un1, mp, vB, cellB, itemC_Pi0, itemB_Pi1, lenD_L, addC, frz]
  · simp [ifF, orF, mp, un1, bi, vB, cellB, frz, itemB_Pi1, itemB_Pi2, isiE, isi_listL, boolD, xvE, itemC_Pi1, itemC_Pi2, addC_L hl, e2, nxF, nilA, ownC]
  · simp [ifF, orF, mp, un1, bi, vB, cellB, frz, itemB_Pi0, isiE, isi_tup, isi_boolI, boolD, lenD_Pi, neD_int, cI, le2, e, nxF]
theorem fr_ic {c0 : Option C} {n : Bool} : ∀ (c : List Pc) (last : Int) (m : Bool) (x : Option C), Ap last c → LnC c → (∀ p ∈ c, 0 < p.2.1.length + p.2.2.length ∧ p.2.1.length + p.2.2.length ≤ lim) →
    ∃ y x', forD tg__law_is_change_1 lb__law_is_change_1 (flag n (c.map Pi)) [c0, some (.d m (.int last)), x] = some (.nx [c0, y, x'])
  | [], last, m, x, _, _, _ => ⟨_, x, rfl⟩
  | p :: c, last, m, x, ⟨h1, h2⟩, hL, hb => by
    obtain ⟨y, x', ih⟩ := fr_ic (c0 := c0) (n := n) c _ true (some (.d n (Pi p))) h2 (fun q hq => hL q (List.mem_cons_of_mem _ hq)) fun q hq => hb q (List.mem_cons_of_mem _ hq)
    have hp := List.mem_cons_self (a := p) (l := c)
    refine ⟨y, x', ?_⟩
    rw [List.map_cons, flag_cons, forD_nx (τ1 := [c0, some (.d m (.int last)), some (.d n (Pi p))]) ?_ (lb_ic h1 (hL p hp).1 (hL p hp).2 (hb p hp).1 (hb p hp).2), ih]
    simp [tg__law_is_change_1, nameT, scal_Pi]
theorem φ_ic {c : List Pc} (ha : Ap (-1) c) (hL : LnC c) (hb : ∀ p ∈ c, 0 < p.2.1.length + p.2.2.length ∧ p.2.1.length + p.2.2.length ≤ lim) : φ__law_is_change [Ch c] = some (.ok true (.bl true)) := by
  obtain ⟨y, x', e⟩ := fr_ic (c0 := some (.d false (Ch c))) (n := false) c (-1) true none ha hL hb
  refine phi_rt (n := 3) (g := g__law_is_change) ?_
  simp [g__law_is_change, seqF, ownF, consA, un1, mp, bi, vE, vB, cellD, cellB, addC, frz, dC, tupD, nilA, augF, subF, modF, fdivF, powF, oI, yes2, ownC, setF, ifF, andF, orF, blE, retF, retNF, nxF, noF, dropF, fzF, fzs, fz, unpF, xvE, itemC, cI, lt2, le2, gt2, ge2, boolD, notD, negD, callC, resC, isiE, isi_tup, isi_listCh, isi_listL, isi_int, isi_boolI, isi_strS, lenD_Pi, isN, notN, intO, slF, startD, List.replicate, scal_int, scal_str, scal_bl, scal_non, scal_L, scal_Pi, scal_Ch, scal_lst, scal_tup, itemsE_L, itemsE_Ch, itemsE_lst, andE_t, andE_f, lenD_L, lenD_Ch, lenD_lst, lenD_tup, forF, e]
end K06
end
section
set_option Elab.async false
set_option linter.all false
set_option maxRecDepth 100000
set_option maxHeartbeats 4000000
namespace K06
open PySem Dl
/-! ### the law's page -/
theorem itemC_iLp {ds : List Int} {k : Nat} {d : Int} (h : ds[k]? = some d) : itemC (some (some (.dp (iL ds)))) (.int k) = some (true, .int d) := by
  have hn := lt_of_some h
  show (L2.atI (ds.map D.int) (k : Int)).bind (fun d => if scal d then some (true, d) else none) = _
  rw [atI_nat (by rw [List.length_map]; exact hn), List.getElem?_map, h]
  rfl
theorem itemC_iLd {ds : List Int} {k : Nat} {d : Int} {m : Bool} (h : ds[k]? = some d) : itemC (some (some (.d m (iL ds)))) (.int k) = some (true, .int d) := by
  have hn := lt_of_some h
  show (L2.atI (ds.map D.int) (k : Int)).map (fun d => (m || scal d, d)) = _
  rw [atI_nat (by rw [List.length_map]; exact hn), List.getElem?_map, h]
  cases m <;> rfl
def lnAt (r : Int) : Str := LL.getD r.toNat ""
theorem lnAt_in {r : Int} (h0 : 0 ≤ r) (h : r < 12) : lnAt r ∈ LL := by
  have : r.toNat < LL.length := by show r.toNat < 12; omega
  unfold lnAt
  rw [List.getD_eq_getElem?_getD, List.getElem?_eq_getElem this]
  exact List.getElem_mem this
theorem itemC_LL {r : Int} (h0 : 0 ≤ r) (h : r < 12) : itemC (some (some (.dp (L LL)))) (.int r) = some (true, .str (lnAt r)) := by
  have hr : r.toNat < LL.length := by show r.toNat < 12; omega
  have e : ((r.toNat : Nat) : Int) = r := by omega
  have e2 : LL[r.toNat]? = some (lnAt r) := by
    unfold lnAt
    rw [List.getD_eq_getElem?_getD, List.getElem?_eq_getElem hr]
    rfl
  have key : (L2.atI (LL.map D.str) ((r.toNat : Nat) : Int)).bind (fun d => if scal d then some (true, d) else none) = some (true, D.str (lnAt r)) := by
    rw [atI_nat (by rw [List.length_map]; exact hr), List.getElem?_map, e2]
    rfl
  rw [e] at key
  exact key
theorem itemC_LLd {r : Int} {m : Bool} (h0 : 0 ≤ r) (h : r < 12) : itemC (some (some (.d m (L LL)))) (.int r) = some (true, .str (lnAt r)) := by
  have hr : r.toNat < LL.length := by show r.toNat < 12; omega
  have e : ((r.toNat : Nat) : Int) = r := by omega
  have e2 : LL[r.toNat]? = some (lnAt r) := by
    unfold lnAt
    rw [List.getD_eq_getElem?_getD, List.getElem?_eq_getElem hr]
    rfl
  have := itemE_L (m := m) e2
  rw [e] at this
  exact this
theorem φ_pg (z : Int) : ∃ pg, φ__law_page [.int z, .int 24] = some (.ok true (L pg)) ∧ Ln pg ∧ pg.length ≤ 24 := by
  obtain ⟨ds, e1, f1⟩ := φ_nu z [25, 12, 4] (by decide) (by decide)
  cases f1 with | cons h0 f1 => cases f1 with | cons h1 f1 => cases f1 with | cons h2 f1 => cases f1 with | nil =>
  rename_i d0 d1 d2
  obtain ⟨v, hv, ev⟩ : ∃ v, (0 < v ∧ v < 1073741824) ∧ itemE (true, .lst [.int 2, .int 3, .int 5, .int 12]) (.int d2) = some (true, .int v) := by
    have : d2 = 0 ∨ d2 = 1 ∨ d2 = 2 ∨ d2 = 3 := by omega
    rcases this with h | h | h | h <;> subst h
    · exact ⟨2, by decide, rfl⟩
    · exact ⟨3, by decide, rfl⟩
    · exact ⟨5, by decide, rfl⟩
    · exact ⟨12, by decide, rfl⟩
  have n0 : d0.toNat ≤ 24 := by omega
  obtain ⟨os, e2, f2⟩ := φ_nu (z / 3 + 5) (List.replicate d0.toNat v) (fun b hb => by rw [(List.mem_replicate.mp hb).2]; exact hv) (by rw [List.length_replicate]; show _ ≤ 16777216; omega)
  have ol : os.length = d0.toNat := by
    have : ∀ {a b : List Int}, Dg a b → a.length = b.length := fun {a b} h => by
      induction h with
      | nil => rfl
      | cons _ _ ih => rw [List.length_cons, List.length_cons, ih]
    rw [this f2, List.length_replicate]
  have mul : mulC (true, .lst [.int v]) (true, .int d0) = some (.own true (List.replicate d0.toNat (.int v))) := by
    show (if _ then some (C.own true (List.replicate d0.toNat [D.int v]).flatten) else none) = _
    rw [if_pos ?_, List.flatten_replicate_singleton]
    simp only [Bool.and_eq_true, decide_eq_true_eq]
    refine ⟨⟨by omega, by omega⟩, ?_⟩
    show 1 * d0.toNat ≤ 16777216
    omega
  have e1' : φ__law_numbers [.int z, .lst [.int 25, .int 12, .int 4]] = some (.ok true (iL [d0, d1, d2])) := e1
  have e2' : φ__law_numbers [.int (z / 3 + 5), .lst (List.replicate d0.toNat (.int v))] = some (.ok true (iL os)) := by
    rw [← List.map_replicate]; exact e2
  refine ⟨os.map fun o => lnAt ((d1 + o) % 12), ?_, fun x hx => ?_, by rw [List.length_map, ol]; exact n0⟩
  · refine phi_rt (n := 6) (g := g__law_page) ?_
    have st : startD 6 [.int z, .int 24] = [some (.d true (.int z)), some (.d true (.int 24)), none, none, none, none] := rfl
    rw [st]
    unfold g__law_page
    have i2 : itemC (some (some (.dp (iL [d0, d1, d2])))) (.int 2) = some (true, .int d2) := itemC_iLp (k := 2) rfl
    have i0 : itemC (some (some (.dp (iL [d0, d1, d2])))) (.int 0) = some (true, .int d0) := itemC_iLp (k := 0) rfl
    have i1 : itemC (some (some (.dp (iL [d0, d1, d2])))) (.int 1) = some (true, .int d1) := itemC_iLp (k := 1) rfl
    refine (seqF_nx (τ' := [some (.d true (.int z)), some (.d true (.int 24)), some (.dp (iL [d0, d1, d2])), none, none, none]) ?_).trans
      ((seqF_nx (τ' := [some (.d true (.int z)), some (.d true (.int 24)), some (.dp (iL [d0, d1, d2])), some (.dp (L LL)), none, none]) ?_).trans
      ((seqF_nx (τ' := [some (.d true (.int z)), some (.d true (.int 24)), some (.dp (iL [d0, d1, d2])), some (.dp (L LL)), some (.dp (iL os)), none]) ?_).trans ?_))
    · simp [setF, callC, consA, vE, cellD, bi, mp, addC, frz, un1, ownC, nilA, lim, e1', resC]
    · simp [setF, callC, nilA, φ_li, resC]
    · simp only [setF, callC, consA, fdivF, oI, vB, cellB, bi, mp, addC, frz, un1, ownC, nilA, resC]
      simp [fdivF, bi, vB, cellB, oI, frz, lim, ownC, xvE, i2, i0, ev, mul, e2', resC]
    · have el : lcD [5] tg__law_page_1 (fun _ => some true) el__law_page_1 [some (.d true (.int z)), some (.d true (.int 24)), some (.dp (iL [d0, d1, d2])), some (.dp (L LL)), some (.d true (iL os)), none] (flag true (os.map .int)) = some (true, (os.map D.int).map fun d => match d with
          | D.int o => D.str (lnAt ((d1 + o) % 12))
          | _ => D.non) := lcD_map _ fun d hd => by
        obtain ⟨o, ho, rfl⟩ := List.mem_map.mp hd
        refine ⟨[some (.d true (.int z)), some (.d true (.int 24)), some (.dp (iL [d0, d1, d2])), some (.dp (L LL)), some (.d true (iL os)), some (.d true (.int o))], rfl, rfl, ?_⟩
        have r0 := Int.emod_nonneg (d1 + o) (b := 12) (by decide)
        have r1 := Int.emod_lt_of_pos (d1 + o) (b := 12) (by decide)
        simp [el__law_page_1, xvE, modF, bi, mp, vE, cellD, addC, frz, oI, i1, itemC_LL r0 r1]
      have il : itemsE (true, iL os) = some (flag true (os.map .int)) := rfl
      have fl : (flag true (os.map D.int)).length ≤ lim := by unfold flag; rw [List.length_map, List.length_map, ol]; show _ ≤ 16777216; omega
      simp [fzF, fzs, fz, frz, retF, mp, lcF, un1, vE, cellD, il, fl, el]
      simp [L, Function.comp_def]
  · obtain ⟨o, _, rfl⟩ := List.mem_map.mp hx
    exact lnAt_in (Int.emod_nonneg _ (by decide)) (Int.emod_lt_of_pos _ (by decide))
end K06
end
section
set_option Elab.async false
set_option linter.all false
set_option maxRecDepth 100000
set_option maxHeartbeats 4000000
namespace K06
open PySem Dl
theorem un1_of {α β : Type} {f : DS → Option α} {g : α → Option β} {τ : DS} {x : α} {z : Option β} (h : f τ = some x) (e : g x = z) : un1 f g τ = z := by unfold un1; rw [h]; exact e
theorem forD_rt {t : TgD} {gb : FS} {p : Bool × D} {ps : List (Bool × D)} {τ τ1 : DS} {n : Bool} {d : D} (h : t p τ = some τ1) (k : gb τ1 = some (.rt n d)) : forD t gb (p :: ps) τ = some (.rt n d) := by
  rw [forD, h]
  show (gb τ1).bind _ = _
  rw [k]
  rfl
theorem eqv_str {x y : Str} : PyData.eqv (py (.str x)) (py (.str y)) = (x == y) := rfl
theorem neD_str {x y : Str} (hx : x ∈ LL) (hy : y ∈ LL) (h : x ≠ y) : neD (.str x) (.str y) = some true := by
  unfold neD
  rw [okEq_str hx, okEq_str hy, Bool.and_self, if_pos rfl, eqv_str]
  rw [beq_eq_false_iff_ne.mpr h]
  rfl
/-! ### the law's own doing -/
theorem lb_ld {pre g ta r pu : List Str} {acc : List Str} {n m0 m1 m2 m3 m4 : Bool} {s1 : Option C} (h : acc.length + (g.length + pu.length) ≤ lim) :
    lb__law_done_1 [some (.d m0 (L (pre ++ (g ++ (ta ++ r))))), s1, some (.own n (acc.map .str)), some (.d m1 (.int pre.length)), some (.d m2 (.int ((pre.length : Int) + (g.length : Int)))), some (.d m3 (L ta)), some (.d m4 (L pu))] =
      some (.nx [some (.d m0 (L (pre ++ (g ++ (ta ++ r))))), s1, some (.own (n && m4) ((acc ++ (g ++ pu)).map .str)), some (.d true (.int ((pre.length : Int) + (g.length : Int) + (ta.length : Int)))), some (.d m2 (.int ((pre.length : Int) + (g.length : Int)))), some (.d m3 (L ta)), some (.d m4 (L pu))]) := by
  have a1 : addC (n, .lst (acc.map .str)) (true, .lst (g.map .str)) = some (.own (n && true) ((acc ++ g).map .str)) := addC_L (a := acc) (b := g) (by omega)
  have a2 : addC (n && true, .lst ((acc ++ g).map .str)) (m4, L pu) = some (.own (n && true && m4) ((acc ++ g ++ pu).map .str)) := addC_L (a := acc ++ g) (b := pu) (by rw [List.length_append]; omega)
  rw [Bool.and_true] at a1 a2
  simp only [List.append_assoc] at a2
  unfold lb__law_done_1
  refine (seqF_nx (τ' := [some (.d m0 (L (pre ++ (g ++ (ta ++ r))))), s1, some (.own (n && m4) ((acc ++ (g ++ pu)).map .str)), some (.d m1 (.int pre.length)), some (.d m2 (.int ((pre.length : Int) + (g.length : Int)))), some (.d m3 (L ta)), some (.d m4 (L pu))]) ?_).trans ?_
  · simp only [fzF, fzs, fz, setF, bi, mp, slF, un1, vE, vB, cellD, cellB, frz, intO, List.getElem?_cons_zero, List.getElem?_cons_succ, List.set_cons_succ, List.set_cons_zero, Option.bind_some, Option.map_some, cutC_L, cut_mid, a1, a2]
  · simp [setF, bi, vE, vB, cellD, cellB, frz, un1, lenD_L, addC]
theorem fr_ld {pgA : List Str} {m m0 : Bool} {s1 : Option C} : ∀ (c : List Pc) (pre cur acc : List Str) (n m1 : Bool) (x y z : Option C), pgA = pre ++ cur → FitD pre.length cur c → acc.length + (repl pre.length cur c).length ≤ lim →
    ∃ pre' cur' acc' n' m1' x' y' z', forD tg__law_done_1 lb__law_done_1 (flag m (c.map Pi)) [some (.d m0 (L pgA)), s1, some (.own n (acc.map .str)), some (.d m1 (.int pre.length)), x, y, z] =
      some (.nx [some (.d m0 (L pgA)), s1, some (.own n' (acc'.map .str)), some (.d m1' (.int (List.length pre'))), x', y', z']) ∧ pgA = pre' ++ cur' ∧ acc' ++ cur' = acc ++ repl pre.length cur c
  | [], pre, cur, acc, n, m1, x, y, z, e, _, _ => ⟨pre, cur, acc, n, m1, x, y, z, rfl, e, rfl⟩
  | (pl, ta, pu) :: c, pre, cur, acc, n, m1, x, y, z, e, h, hl => by
    obtain ⟨g, r, e1, e2, h⟩ := h
    dsimp only at e1 e2 h
    subst e1
    have ep : (pl + (ta.length : Int)) = ((pre ++ (g ++ ta)).length : Int) := by rw [e2]; simp; omega
    rw [repl_cons' e2] at hl
    rw [ep] at h hl
    rw [List.length_append, List.length_append] at hl
    obtain ⟨pre', cur', acc', n', m1', x', y', z', ih, f1, f2⟩ := fr_ld (pgA := pgA) (m := m) (m0 := m0) (s1 := s1) c (pre ++ (g ++ ta)) r (acc ++ (g ++ pu)) (n && m) true (some (.d true (.int pl))) (some (.d m (L ta))) (some (.d m (L pu))) (by rw [e]; simp) h (by rw [List.length_append, List.length_append]; omega)
    refine ⟨pre', cur', acc', n', m1', x', y', z', ?_, f1, by rw [f2, repl_cons' e2, ep]; simp⟩
    rw [List.map_cons, flag_cons, forD_nx (τ1 := [some (.d m0 (L pgA)), s1, some (.own n (acc.map .str)), some (.d m1 (.int pre.length)), some (.d true (.int pl)), some (.d m (L ta)), some (.d m (L pu))])
      (τ2 := [some (.d m0 (L pgA)), s1, some (.own (n && m) ((acc ++ (g ++ pu)).map .str)), some (.d true (.int (List.length (pre ++ (g ++ ta))))), some (.d true (.int pl)), some (.d m (L ta)), some (.d m (L pu))]) ?_ ?_, ih]
    · simp [tg__law_done_1, tupT, consT, nameT, nilT, flag_cons, flag_nil, scal_int, scal_L, Pi, scal_tup]
    · have := lb_ld (pre := pre) (g := g) (ta := ta) (r := r) (pu := pu) (acc := acc) (n := n) (m0 := m0) (m1 := m1) (m2 := true) (m3 := m) (m4 := m) (s1 := s1) (by omega)
      rw [← e] at this
      rw [e2, this]
      congr 6
      simp
      omega
theorem φ_ld {pg : List Str} {c : List Pc} (h : FitD 0 pg c) (hl : (repl 0 pg c).length ≤ lim) : ∃ m, φ__law_done [L pg, Ch c] = some (.ok m (L (repl 0 pg c))) := by
  obtain ⟨pre', cur', acc', n', m1', x', y', z', e, f1, f2⟩ := fr_ld (pgA := pg) (m := false) (m0 := false) (s1 := some (.d false (Ch c))) c [] pg [] true true none none none rfl h (by simpa using hl)
  have hz : acc'.length + cur'.length ≤ lim := by
    have := congrArg List.length f2
    simp at this
    omega
  have ee : forD tg__law_done_1 lb__law_done_1 (flag false (List.map Pi c)) [some (C.d false (L pg)), some (C.d false (Ch c)), some (C.own true []), some (C.d true (D.int 0)), none, none, none] = _ := e
  have f3 : cutL pg (some (pre'.length : Int)) none = cur' := by rw [f1, cut_end]
  have f4 : acc' ++ cur' = repl 0 pg c := f2
  have a1 : addC (n', .lst (acc'.map .str)) (true, .lst (cur'.map .str)) = some (.own (n' && true) ((acc' ++ cur').map .str)) := addC_L (a := acc') (b := cur') hz
  refine ⟨n' && true, phi_rt (n := 7) (g := g__law_done) ?_⟩
  have st : startD 7 [L pg, Ch c] = [some (.d false (L pg)), some (.d false (Ch c)), none, none, none, none, none] := rfl
  rw [st]
  unfold g__law_done
  refine (seqF_nx (τ' := [some (.d false (L pg)), some (.d false (Ch c)), some (.own true []), none, none, none, none]) rfl).trans
    ((seqF_nx (τ' := [some (.d false (L pg)), some (.d false (Ch c)), some (.own true []), some (.d true (.int 0)), none, none, none]) rfl).trans
    ((seqF_nx (τ' := _) (by unfold forF; rw [un1_of (x := (false, Ch c)) rfl itemsE_Ch]; exact ee)).trans ?_))
  simp only [fzF, fzs, fz, retF, bi, mp, slF, un1, vE, vB, cellD, cellB, frz, intO, List.getElem?_cons_zero, List.getElem?_cons_succ, List.set_cons_succ, List.set_cons_zero, Option.bind_some, Option.map_some, cutC_L, f3, a1, f4]
  rfl
end K06
end
section
set_option Elab.async false
set_option linter.all false
set_option maxRecDepth 100000
set_option maxHeartbeats 4000000
namespace K06
open PySem Dl
theorem atI_last {α : Type} {xs : List α} {x : α} : L2.atI (xs ++ [x]) (-1) = some x := by
  unfold L2.atI L2.ixN
  rw [if_neg (by decide), if_pos (by rw [List.length_append, List.length_singleton]; omega)]
  rw [List.length_append, List.length_singleton, Option.bind_some, show ((-1 : Int) + ((xs.length + 1 : Nat) : Int)).toNat = xs.length by omega, List.getElem?_append_right (Nat.le_refl _), Nat.sub_self]
  rfl
theorem eqD_str {x y : Str} (hx : x ∈ LL) (hy : y ∈ LL) : eqD (.str x) (.str y) = some (decide (x = y)) := by
  unfold eqD
  rw [okEq_str hx, okEq_str hy, Bool.and_self, if_pos rfl, eqv_str]
  rfl
/-! ### rows of numbers -/
def rw_ (f : Nat → Int) (n : Nat) : List D := (List.range n).map fun j => D.int (f j)
def R (f : Nat → Int) (n : Nat) : D := .lst (rw_ f n)
theorem rw_len {f : Nat → Int} {n : Nat} : (rw_ f n).length = n := by unfold rw_; rw [List.length_map, List.length_range]
theorem rw_s {f : Nat → Int} {n : Nat} : rw_ f (n + 1) = rw_ f n ++ [.int (f n)] := by unfold rw_; rw [List.range_succ, List.map_append]; rfl
theorem rw_at {f : Nat → Int} {n k : Nat} (h : k < n) : L2.atI (rw_ f n) (k : Int) = some (.int (f k)) := by
  rw [atI_nat (by rw [rw_len]; exact h)]
  unfold rw_
  rw [List.getElem?_map, List.getElem?_range h]
  rfl
theorem scal_R {f : Nat → Int} {n : Nat} : scal (R f n) = false := rfl
theorem lenD_R {f : Nat → Int} {n : Nat} : lenD (R f n) = some (true, .int n) := by
  show some (true, D.int ((rw_ f n).length : Nat)) = _
  rw [rw_len]
theorem scalR (f : Nat → Int) (n : Nat) : allScal (rw_ f n) = true := by
  unfold rw_
  induction List.range n with
  | nil => rfl
  | cons x r ih => exact ih
theorem itemE_R {m : Bool} {f : Nat → Int} {n k : Nat} (h : k < n) : itemE (m, R f n) (.int k) = some (true, .int (f k)) := by
  show (L2.atI (rw_ f n) (k : Int)).map _ = _
  rw [rw_at h]
  cases m <;> rfl
theorem itemB_R {f : Nat → Int} {n k : Nat} (h : k < n) : itemB (R f n) (.int k) = some (.int (f k)) := rw_at h
theorem itemC_R {m : Bool} {f : Nat → Int} {n k : Nat} (h : k < n) : itemC (some (some (.d m (R f n)))) (.int k) = some (true, .int (f k)) := itemE_R h
theorem itemC_own {m : Bool} {f : Nat → Int} {n k : Nat} (h : k < n) : itemC (some (some (.own m (rw_ f n)))) (.int k) = some (true, .int (f k)) := by
  show (L2.atI (rw_ f n) (k : Int)).map _ = _
  rw [rw_at h]
  cases m <;> rfl
/-! ### the next row -/
def stp (f g : Nat → Int) (x y : Str) (k : Nat) : Int := if x = y then f k else (if g k < f (k + 1) then g k else f (k + 1)) + 1
theorem lb_nr {f g : Nat → Int} {n k : Nat} {x y : Str} {m0 m1 m2 m5 : Bool} {bd : D} (hx : x ∈ LL) (hy : y ∈ LL) (hn : k + 1 < n) (hl : n ≤ 1000) (hg : g (k + 1) = stp f g x y k) :
    lb__next_row_1 [some (.d m0 (R f n)), some (.d m1 (.str x)), some (.d m2 bd), some (.own true (rw_ g (k + 1))), some (.d true (.int k)), some (.d m5 (.str y))] =
      some (.nx [some (.d m0 (R f n)), some (.d m1 (.str x)), some (.d m2 bd), some (.own true (rw_ g (k + 2))), some (.d true (.int k)), some (.d m5 (.str y))]) := by
  have e0 := eqD_str hx hy
  have i0 : itemC (some (some (.d m0 (R f n)))) (.int k) = some (true, .int (f k)) := itemC_R (by omega)
  have i1 : itemC (some (some (.d m0 (R f n)))) (.int ((k : Int) + 1)) = some (true, .int (f (k + 1))) := itemC_R (k := k + 1) (by omega)
  have i2 : itemC (some (some (.own true (rw_ g (k + 1))))) (.int k) = some (true, .int (g k)) := itemC_own (by omega)
  have hl2 : k + 1 < 16777216 := by omega
  have e2 : rw_ g (k + 2) = rw_ g (k + 1) ++ [.int (stp f g x y k)] := by rw [rw_s, hg]
  rw [e2]
  unfold stp
  by_cases h : x = y
  · rw [if_pos h]
    have e0 : eqD (D.str x) (D.str y) = some true := by rw [e0, decide_eq_true h]
    simp [lb__next_row_1, ifF, bi, vB, cellB, frz, e0, ownF, consA, xvE, vE, cellD, i0, nilA, appOp, rw_len, hl2, lim]
  · rw [if_neg h]
    simp [lb__next_row_1, ifF, bi, vB, cellB, e0, h, ownF, consA, xvE, vE, cellD, mp, addC, frz, un1, minD, i1, i2, nilA, appOp, rw_len, hl2, lim]
theorem fr_nr {f g : Nat → Int} {n : Nat} {x : Str} {m m0 m1 m2 : Bool} {bd : D} (hx : x ∈ LL) (hl : n ≤ 1000) : ∀ (ys : List Str) (k : Nat) (u v : Option C), Ln ys → k + ys.length < n → (∀ i y, ys[i]? = some y → g (k + i + 1) = stp f g x y (k + i)) →
    ∃ u' v', forD tg__next_row_1 lb__next_row_1 (enumI m k (ys.map .str)) [some (.d m0 (R f n)), some (.d m1 (.str x)), some (.d m2 bd), some (.own true (rw_ g (k + 1))), u, v] =
      some (.nx [some (.d m0 (R f n)), some (.d m1 (.str x)), some (.d m2 bd), some (.own true (rw_ g (k + ys.length + 1))), u', v'])
  | [], k, u, v, _, _, _ => ⟨u, v, rfl⟩
  | y :: ys, k, u, v, hL, hn, hg => by
    rw [List.length_cons] at hn
    obtain ⟨u', v', ih⟩ := fr_nr (f := f) (g := g) (n := n) (x := x) (m := m) (m0 := m0) (m1 := m1) (m2 := m2) (bd := bd) hx hl ys (k + 1) (some (.d true (.int k))) (some (.d true (.str y))) (fun z hz => hL z (List.mem_cons_of_mem _ hz)) (by omega) fun i z hz => by
      have := hg (i + 1) z (by rw [List.getElem?_cons_succ]; exact hz)
      rw [show k + (i + 1) = k + 1 + i by omega] at this
      exact this
    refine ⟨u', v', ?_⟩
    have h0 := hg 0 y rfl
    rw [List.map_cons, enumI_cons, forD_nx (τ1 := [some (.d m0 (R f n)), some (.d m1 (.str x)), some (.d m2 bd), some (.own true (rw_ g (k + 1))), some (.d true (.int k)), some (.d true (.str y))]) ?_ (lb_nr hx (hL y (List.mem_cons_self ..)) (by omega) hl h0), ih, List.length_cons, show k + 1 + ys.length = k + (ys.length + 1) by omega]
    simp [tg__next_row_1, tupT, consT, nameT, nilT, flag_cons, flag_nil, scal_int, scal_str]
theorem φ_nr {f g : Nat → Int} {x : Str} {b : List Str} (hx : x ∈ LL) (hb : Ln b) (hl : b.length < 1000) (h0 : g 0 = f 0 + 1) (hg : ∀ i y, b[i]? = some y → g (i + 1) = stp f g x y i) :
    φ__next_row [R f (b.length + 1), .str x, L b] = some (.ok true (R g (b.length + 1))) := by
  obtain ⟨u', v', e⟩ := fr_nr (f := f) (g := g) (n := b.length + 1) (x := x) (m := false) (m0 := false) (m1 := true) (m2 := false) (bd := L b) hx (by omega) b 0 none none hb (by omega) fun i y hy => by rw [Nat.zero_add]; exact hg i y hy
  rw [Nat.zero_add] at e
  refine phi_rt (n := 6) (g := g__next_row) ?_
  have st : startD 6 [R f (b.length + 1), .str x, L b] = [some (.d false (R f (b.length + 1))), some (.d true (.str x)), some (.d false (L b)), none, none, none] := rfl
  rw [st]
  unfold g__next_row
  have i0 : itemC (some (some (.d false (R f (b.length + 1))))) (.int 0) = some (true, .int (f 0)) := itemC_R (k := 0) (by omega)
  have r1 : [D.int (f 0 + 1)] = rw_ g 1 := by show _ = [D.int (g 0)]; rw [h0]
  have en : enumF (false, [L b]) = some (enumI false 0 (b.map D.str)) := rfl
  refine (seqF_nx (τ' := [some (.d false (R f (b.length + 1))), some (.d true (.str x)), some (.d false (L b)), some (.own true (rw_ g (0 + 1))), none, none]) ?_).trans ((seqF_nx (τ' := _) (by
    unfold forF
    rw [un1_of (x := (false, [L b])) (z := some (enumI false 0 (b.map D.str))) (by simp [consA, vE, cellD, nilA]) rfl]
    exact e)).trans ?_)
  · simp [setF, un1, consA, mp, bi, xvE, i0, addC, frz, nilA, ownC, r1, lim, rw_len]
  · simp [fzF, fzs, fz, frz, retF, vE, cellD, R]
end K06
end
section
set_option Elab.async false
set_option linter.all false
set_option maxRecDepth 100000
set_option maxHeartbeats 4000000
namespace K06
open PySem Dl
/-! ### the table -/
def DI (a b : List Str) (i j : Nat) : Int := (Dm a b i j : Nat)
theorem DI_stp {a b : List Str} {i j : Nat} {x y : Str} (hx : a[i]? = some x) (hy : b[j]? = some y) : DI a b (i + 1) (j + 1) = stp (DI a b i) (DI a b (i + 1)) x y j := by
  unfold stp DI
  by_cases h : x = y
  · rw [if_pos h, Dm_eq (by rw [hx, hy, h])]
  · rw [if_neg h, Dm_ne (by rw [hx, hy]; exact fun z => h (Option.some.inj z))]
    split <;> omega
theorem DI_s0 {a b : List Str} {i : Nat} : DI a b (i + 1) 0 = DI a b i 0 + 1 := by
  unfold DI
  rw [Dm_s0]
  omega
def tabL (a b : List Str) (n : Nat) : List D := (List.range n).map fun i => R (DI a b i) (b.length + 1)
def tab (a b : List Str) : D := .lst (tabL a b (a.length + 1))
theorem tab_len {a b : List Str} {n : Nat} : (tabL a b n).length = n := by unfold tabL; rw [List.length_map, List.length_range]
theorem tab_s {a b : List Str} {n : Nat} : tabL a b (n + 1) = tabL a b n ++ [R (DI a b n) (b.length + 1)] := by unfold tabL; rw [List.range_succ, List.map_append]; rfl
theorem tab_at {a b : List Str} {n k : Nat} (h : k < n) : L2.atI (tabL a b n) (k : Int) = some (R (DI a b k) (b.length + 1)) := by
  rw [atI_nat (by rw [tab_len]; exact h)]
  unfold tabL
  rw [List.getElem?_map, List.getElem?_range h]
  rfl
theorem lrg_ok {n : Nat} (h : n ≤ lim) : lrgD (.int (n : Int)) = some (.own true (rgL (n : Int))) := by
  have h1 : (n : Int) ≤ (lim : Int) := Int.ofNat_le.mpr h
  have h2 : -(lim : Int) ≤ (n : Int) := by
    generalize lim = l
    omega
  simp only [lrgD, h1, h2, and_self, if_true]
theorem row0 {a b : List Str} : rgL ((b.length : Int) + 1) = rw_ (DI a b 0) (b.length + 1) := by
  unfold rgL rw_
  rw [show ((b.length : Int) + 1).toNat = b.length + 1 by omega]
  rfl
/-! ### fewest lines -/
theorem lb_fl {a b : List Str} {k : Nat} {x : Str} {s0 : Option C} {m1 : Bool} (hk : a[k]? = some x) (hx : x ∈ LL) (hb : Ln b) (hl : b.length < 1000) (hk2 : k < 1000) :
    lb__fewest_lines_1 [s0, some (.d m1 (L b)), some (.own true (tabL a b (k + 1))), some (.d true (.str x))] = some (.nx [s0, some (.d m1 (L b)), some (.own true (tabL a b (k + 1 + 1))), some (.d true (.str x))]) := by
  have e := φ_nr (f := DI a b k) (g := DI a b (k + 1)) hx hb hl DI_s0 fun i y hy => DI_stp hk hy
  have i0 : itemC (some (some (.own true (tabL a b (k + 1))))) (.int (-1)) = some (true, R (DI a b k) (b.length + 1)) := by
    show (L2.atI (tabL a b (k + 1)) (-1)).map _ = _
    rw [tab_s, atI_last]
    rfl
  have hl2 : k + 1 < 16777216 := by omega
  rw [tab_s (n := k + 1)]
  simp [lb__fewest_lines_1, ownF, consA, mp, callC, xvE, un1, negD, i0, vE, cellD, nilA, e, resC, frz, appOp, tab_len, hl2, lim]
theorem fr_fl {a b : List Str} {s0 : Option C} {m m1 : Bool} (hb : Ln b) (hl : b.length < 1000) (ha : a.length < 1000) : ∀ (xs : List Str) (k : Nat) (u : Option C), Ln xs → k + xs.length ≤ a.length → (∀ i, i < xs.length → a[k + i]? = xs[i]?) →
    ∃ u', forD tg__fewest_lines_1 lb__fewest_lines_1 (flag m (xs.map .str)) [s0, some (.d m1 (L b)), some (.own true (tabL a b (k + 1))), u] = some (.nx [s0, some (.d m1 (L b)), some (.own true (tabL a b (k + xs.length + 1))), u'])
  | [], k, u, _, _, _ => ⟨u, rfl⟩
  | x :: xs, k, u, hL, hn, hg => by
    rw [List.length_cons] at hn
    obtain ⟨u', ih⟩ := fr_fl (a := a) (b := b) (s0 := s0) (m := m) (m1 := m1) hb hl ha xs (k + 1) (some (.d true (.str x))) (fun z hz => hL z (List.mem_cons_of_mem _ hz)) (by omega) fun i hi => by
      have := hg (i + 1) (by rw [List.length_cons]; omega)
      rw [List.getElem?_cons_succ] at this
      rw [← this]
      congr 1
      omega
    refine ⟨u', ?_⟩
    have h0 := hg 0 (by rw [List.length_cons]; omega)
    rw [List.map_cons, flag_cons, forD_nx (τ1 := [s0, some (.d m1 (L b)), some (.own true (tabL a b (k + 1))), some (.d true (.str x))]) ?_ (lb_fl h0 (hL x (List.mem_cons_self ..)) hb hl (by omega)), ih, List.length_cons, show k + 1 + xs.length = k + (xs.length + 1) by omega]
    simp [tg__fewest_lines_1, nameT, scal_str]
theorem st_fl {Bd : D} {n : Int} {r : List D} {s0 s2 s3 : Option C} {m : Bool} (hl : lenD Bd = some (true, .int n)) (h : lrgD (.int (n + 1)) = some (.own true r)) :
    setF 2 (un1 (consA (mp (un1 (mp (mp (bi (un1 (vB 1) lenD) (fun _ => some (true, D.int 1)) addC) frz) (·.2)) lrgD) frz) nilA) ownC) [s0, some (.d m Bd), s2, s3] = some (.nx [s0, some (.d m Bd), some (.own true [.lst r]), s3]) := by
  simp [setF, un1, consA, mp, bi, vB, cellB, hl, addC, frz, h, nilA, ownC, lim]
theorem lr_fl {a b : List Str} (hl : b.length < 1000) : lrgD (.int ((b.length : Int) + 1)) = some (.own true (rw_ (DI a b 0) (b.length + 1))) := by
  have := lrg_ok (n := b.length + 1) (by show _ ≤ 16777216; omega)
  rw [show ((b.length + 1 : Nat) : Int) = (b.length : Int) + 1 from rfl, row0 (a := a)] at this
  exact this
theorem en_fl {s0 s1 s3 : Option C} {r : List D} : fzF [2] (retF (vE 2)) [s0, s1, some (.own true r), s3] = some (.rt true (.lst r)) := by
  simp [fzF, fzs, fz, frz, retF, vE, cellD]
theorem tab_1 {a b : List Str} : tabL a b (0 + 1) = [.lst (rw_ (DI a b 0) (b.length + 1))] := by rw [tab_s]; rfl
theorem φ_fl {a b : List Str} (ha : Ln a) (hb : Ln b) (hl : a.length < 1000) (hl2 : b.length < 1000) : φ__fewest_lines [L a, L b] = some (.ok true (tab a b)) := by
  obtain ⟨u', e⟩ := fr_fl (a := a) (b := b) (s0 := some (.d false (L a))) (m := false) (m1 := false) hb hl2 hl a 0 none ha (by omega) fun i hi => by rw [Nat.zero_add]
  rw [tab_1, Nat.zero_add] at e
  refine phi_rt (n := 4) (g := g__fewest_lines) ?_
  have st : startD 4 [L a, L b] = [some (.d false (L a)), some (.d false (L b)), none, none] := rfl
  rw [st]
  unfold g__fewest_lines
  refine (seqF_nx (st_fl lenD_L (lr_fl (a := a) hl2))).trans ((seqF_nx (τ' := [some (.d false (L a)), some (.d false (L b)), some (.own true (tabL a b (a.length + 1))), u']) (by
    unfold forF
    rw [un1_of (x := (false, L a)) rfl itemsE_L]
    exact e)).trans en_fl)
/-! ### lines kept -/
section
variable {T A B : D} {m0 m1 m2 : Bool} {ks : List D} {I J i j : Int} {x y : Str}
theorem lb_k1 (hi : I - 1 = i) (hj : J - 1 = j) (e1 : itemB A (.int i) = some (.str x)) (e2 : itemB B (.int j) = some (.str y)) (e : eqD (.str x) (.str y) = some true) (hl : ks.length < 1000) :
    lb__lines_kept_1 [some (.d m0 T), some (.d m1 A), some (.d m2 B), some (.own true ks), some (.d true (.int I)), some (.d true (.int J))] = some (.nx [some (.d m0 T), some (.d m1 A), some (.d m2 B), some (.own true (ks ++ [.tup [.int i, .int j]])), some (.d true (.int i)), some (.d true (.int j))]) := by
  have hl2 : ks.length < 16777216 := by omega
  simp [lb__lines_kept_1, ifF, bi, vB, cellB, frz, subF, oI, yes2, mp, hi, hj, e1, e2, e, seqF, ausF, cellD, fzF, fzs, fz, ownF, consA, un1, vE, nilA, tupD, appOp, hl2, lim]
theorem lb_k2 {r0 r1 : D} {h0 h1 : Int} (hi : I - 1 = i) (hj : J - 1 = j) (e1 : itemB A (.int i) = some (.str x)) (e2 : itemB B (.int j) = some (.str y)) (e : eqD (.str x) (.str y) = some false)
    (f0 : itemB T (.int i) = some r0) (f1 : itemB r0 (.int J) = some (.int h0)) (f2 : itemB T (.int I) = some r1) (f3 : itemB r1 (.int J) = some (.int h1)) :
    lb__lines_kept_1 [some (.d m0 T), some (.d m1 A), some (.d m2 B), some (.own true ks), some (.d true (.int I)), some (.d true (.int J))] = if h0 < h1 then some (.nx [some (.d m0 T), some (.d m1 A), some (.d m2 B), some (.own true ks), some (.d true (.int i)), some (.d true (.int J))])
      else some (.nx [some (.d m0 T), some (.d m1 A), some (.d m2 B), some (.own true ks), some (.d true (.int I)), some (.d true (.int j))]) := by
  by_cases h : h0 < h1
  · rw [if_pos h]
    simp [lb__lines_kept_1, ifF, bi, vB, cellB, frz, subF, oI, yes2, mp, hi, hj, e1, e2, e, f0, f1, f2, f3, cI, lt2, h, ausF, cellD]
  · rw [if_neg h]
    simp [lb__lines_kept_1, ifF, bi, vB, cellB, frz, subF, oI, yes2, mp, hi, hj, e1, e2, e, f0, f1, f2, f3, cI, lt2, h, ausF, cellD]
theorem cd_k {s0 s1 s2 s3 : Option C} : if__lines_kept_1 [s0, s1, s2, s3, some (.d true (.int I)), some (.d true (.int J))] = some (decide (0 < I) && decide (0 < J)) := by
  by_cases h : 0 < I
  · simp [if__lines_kept_1, andF, bi, vB, cellB, frz, mp, cI, gt2, h]
  · simp [if__lines_kept_1, andF, bi, vB, cellB, frz, mp, cI, gt2, h]
end
theorem whileD_nx {c : FT} {gb : FS} {n : Nat} {τ τ2 : DS} (h : c τ = some true) (k : gb τ = some (.nx τ2)) : whileD c gb (n + 1) τ = whileD c gb n τ2 := by
  rw [whileD, h, Option.bind_some, if_pos rfl, k]
  rfl
theorem whileD_end {c : FT} {gb : FS} {n : Nat} {τ : DS} (h : c τ = some false) : whileD c gb (n + 1) τ = some (.nx τ) := by
  rw [whileD, h, Option.bind_some, if_neg (by decide)]
def pr (p : Nat × Nat) : D := .tup [.int p.1, .int p.2]
theorem wl_k {a b : List Str} {m0 m1 m2 : Bool} (ha : Ln a) (hb : Ln b) : ∀ (f i j n : Nat) (ks : List (Nat × Nat)), i + j ≤ f → f < n → i ≤ a.length → j ≤ b.length → ks.length + f < 1000 →
    ∃ i' j' : Int, whileD if__lines_kept_1 lb__lines_kept_1 n [some (.d m0 (tab a b)), some (.d m1 (L a)), some (.d m2 (L b)), some (.own true (ks.map pr)), some (.d true (.int i)), some (.d true (.int j))] =
      some (.nx [some (.d m0 (tab a b)), some (.d m1 (L a)), some (.d m2 (L b)), some (.own true ((ks ++ bt a b f i j).map pr)), some (.d true (.int i')), some (.d true (.int j'))])
  | f, i, j, 0, ks, _, h, _, _, _ => absurd h (by omega)
  | f, 0, j, n + 1, ks, _, _, _, _, _ => ⟨((0 : Nat) : Int), (j : Int), by
    rw [whileD_end (by rw [cd_k]; simp)]
    have : bt a b f 0 j = [] := by cases f <;> rfl
    rw [this, List.append_nil]⟩
  | f, i + 1, 0, n + 1, ks, _, _, _, _, _ => ⟨((i + 1 : Nat) : Int), ((0 : Nat) : Int), by
    rw [whileD_end (by rw [cd_k]; simp)]
    have : bt a b f (i + 1) 0 = [] := by cases f <;> rfl
    rw [this, List.append_nil]⟩
  | 0, i + 1, j + 1, n + 1, ks, h, _, _, _, _ => absurd h (by omega)
  | f + 1, i + 1, j + 1, n + 1, ks, h, hn, hi, hj, hk => by
    have cd : if__lines_kept_1 [some (.d m0 (tab a b)), some (.d m1 (L a)), some (.d m2 (L b)), some (.own true (ks.map pr)), some (.d true (.int ((i + 1 : Nat) : Int))), some (.d true (.int ((j + 1 : Nat) : Int)))] = some true := by
      rw [cd_k]
      rw [decide_eq_true (by omega), decide_eq_true (by omega)]
      rfl
    have e1 : itemB (L a) (.int (i : Int)) = some (.str a[i]) := itemB_L (List.getElem?_eq_getElem (by omega))
    have e2 : itemB (L b) (.int (j : Int)) = some (.str b[j]) := itemB_L (List.getElem?_eq_getElem (by omega))
    have e0 := eqD_str (ha a[i] (List.getElem_mem _)) (hb b[j] (List.getElem_mem _))
    have hi1 : ((i + 1 : Nat) : Int) - 1 = (i : Int) := by omega
    have hj1 : ((j + 1 : Nat) : Int) - 1 = (j : Int) := by omega
    by_cases h0 : a[i] = b[j]
    · have h1 : a[i]? = b[j]? := by rw [List.getElem?_eq_getElem (show i < a.length by omega), List.getElem?_eq_getElem (show j < b.length by omega), h0]
      obtain ⟨i', j', ih⟩ := wl_k (a := a) (b := b) (m0 := m0) (m1 := m1) (m2 := m2) ha hb f i j n (ks ++ [(i, j)]) (by omega) (by omega) (by omega) (by omega) (by rw [List.length_append, List.length_singleton]; omega)
      refine ⟨i', j', ?_⟩
      rw [whileD_nx cd (lb_k1 hi1 hj1 e1 e2 (by rw [e0, decide_eq_true h0]) (by rw [List.length_map]; omega))]
      rw [List.map_append] at ih
      rw [bt, if_pos h1]
      rw [List.append_assoc] at ih
      exact ih
    · have h1 : ¬ a[i]? = b[j]? := by rw [List.getElem?_eq_getElem (show i < a.length by omega), List.getElem?_eq_getElem (show j < b.length by omega)]; exact fun z => h0 (Option.some.inj z)
      have lb := lb_k2 (T := tab a b) (m0 := m0) (m1 := m1) (m2 := m2) (ks := ks.map pr) hi1 hj1 e1 e2 (by rw [e0, decide_eq_false h0]) (show itemB (tab a b) (.int (i : Int)) = some _ from tab_at (by omega)) (itemB_R (k := j + 1) (by omega)) (show itemB (tab a b) (.int ((i + 1 : Nat) : Int)) = some _ from tab_at (by omega)) (itemB_R (k := j + 1) (by omega))
      rw [bt, if_neg h1]
      by_cases h2 : Dm a b i (j + 1) < Dm a b (i + 1) (j + 1)
      · rw [if_pos (by unfold DI; omega)] at lb
        rw [if_pos h2, whileD_nx cd lb]
        exact wl_k ha hb f i (j + 1) n ks (by omega) (by omega) (by omega) (by omega) (by omega)
      · rw [if_neg (by unfold DI; omega)] at lb
        rw [if_neg h2, whileD_nx cd lb]
        exact wl_k ha hb f (i + 1) j n ks (by omega) (by omega) (by omega) (by omega) (by omega)
theorem scalPr (ks : List (Nat × Nat)) : (D.lst (ks.map pr) : D) = .lst (ks.map pr) := rfl
theorem φ_lk {a b : List Str} (ha : Ln a) (hb : Ln b) (hl : a.length + b.length < 1000) : φ__lines_kept [tab a b, L a, L b] = some (.ok true (.lst ((kp a b).map pr))) := by
  obtain ⟨i', j', e⟩ := wl_k (a := a) (b := b) (m0 := false) (m1 := false) (m2 := false) ha hb (a.length + b.length) a.length b.length lim [] (Nat.le_refl _) (by show _ < 16777216; omega) (Nat.le_refl _) (Nat.le_refl _) (by simpa using hl)
  refine phi_rt (n := 6) (g := g__lines_kept) ?_
  have st : startD 6 [tab a b, L a, L b] = [some (.d false (tab a b)), some (.d false (L a)), some (.d false (L b)), none, none, none] := rfl
  rw [st]
  unfold g__lines_kept
  refine (seqF_nx (τ' := [some (.d false (tab a b)), some (.d false (L a)), some (.d false (L b)), some (.own true []), none, none]) rfl).trans
    ((seqF_nx (τ' := [some (.d false (tab a b)), some (.d false (L a)), some (.d false (L b)), some (.own true []), some (.d true (.int a.length)), none]) ?_).trans
    ((seqF_nx (τ' := [some (.d false (tab a b)), some (.d false (L a)), some (.d false (L b)), some (.own true []), some (.d true (.int a.length)), some (.d true (.int b.length))]) ?_).trans
    ((seqF_nx (τ' := _) (by unfold whileF; exact e)).trans ?_)))
  · simp [setF, mp, un1, vB, cellB, frz, lenD_L, dC]
  · simp [setF, mp, un1, vB, cellB, frz, lenD_L, dC]
  · simp [fzF, fzs, fz, frz, retF, mp, un1, vE, cellD, revC, kp]
/-! ### the change between -/
theorem cut_n {xs : List Str} {p i : Nat} (h : p ≤ i) (hi : i ≤ xs.length) : cutL xs (some (p : Int)) (some (i : Int)) = (xs.drop p).take (i - p) := by
  unfold cutL
  rw [sIx_n (by omega), sIx_n (by omega)]
theorem lb_cb {a b : List Str} {p q i j : Nat} {acc : List Pc} {s0 : Option C} {m1 m2 : Bool} (hp : p ≤ i) (hq : q ≤ j) (hi : i ≤ a.length) (hj : j ≤ b.length) (hl : acc.length < 1000) :
    lb__change_between_1 [s0, some (.d m1 (L a)), some (.d m2 (L b)), some (.own true (acc.map Pi)), some (.d true (.int p)), some (.d true (.int q)), some (.d true (.int i)), some (.d true (.int j))] =
      some (.nx [s0, some (.d m1 (L a)), some (.d m2 (L b)), some (.own true ((acc ++ fl a b p q i j).map Pi)), some (.d true (.int ((i : Int) + 1))), some (.d true (.int ((j : Int) + 1))), some (.d true (.int i)), some (.d true (.int j))]) := by
  have hl2 : acc.length < 16777216 := by omega
  have c1 := cut_n (xs := a) hp hi
  have c2 := cut_n (xs := b) hq hj
  have b1 : ifF (orF (bi (vB 6) (vB 4) (cI gt2)) (bi (vB 7) (vB 5) (cI gt2))) (fzF [4] (ownF 3 (consA (un1 (consA (vE 4) (consA (mp (slF (vE 1) (un1 (vB 4) intO) (un1 (vB 6) intO) cutC) frz) (consA (mp (slF (vE 2) (un1 (vB 5) intO) (un1 (vB 7) intO) cutC) frz) nilA))) tupD) nilA) appOp)) nxF [s0, some (.d m1 (L a)), some (.d m2 (L b)), some (.own true (acc.map Pi)), some (.d true (.int p)), some (.d true (.int q)), some (.d true (.int i)), some (.d true (.int j))] =
      some (.nx [s0, some (.d m1 (L a)), some (.d m2 (L b)), some (.own true ((acc ++ fl a b p q i j).map Pi)), some (.d true (.int p)), some (.d true (.int q)), some (.d true (.int i)), some (.d true (.int j))]) := by
    unfold fl
    by_cases h : p < i
    · rw [if_pos (.inl h)]
      have h' : (p : Int) < (i : Int) := by omega
      simp [ifF, orF, bi, vB, cellB, frz, cI, gt2, h', h, fzF, fzs, fz, ownF, consA, un1, vE, cellD, mp, slF, intO, cutC_L, c1, c2, nilA, tupD, appOp, hl2, lim]
      simp [Pi, L]
    · by_cases h2 : q < j
      · rw [if_pos (.inr h2)]
        have h' : ¬ (p : Int) < (i : Int) := by omega
        have h2' : (q : Int) < (j : Int) := by omega
        simp [ifF, orF, bi, vB, cellB, frz, cI, gt2, h', h, h2, h2', fzF, fzs, fz, ownF, consA, un1, vE, cellD, mp, slF, intO, cutC_L, c1, c2, nilA, tupD, appOp, hl2, lim]
        simp [Pi, L]
      · rw [if_neg (by omega), List.append_nil]
        have h' : ¬ (p : Int) < (i : Int) := by omega
        have h2' : ¬ (q : Int) < (j : Int) := by omega
        simp [ifF, orF, bi, vB, cellB, frz, cI, gt2, h', h, h2, h2', nxF]
  unfold lb__change_between_1
  refine (seqF_nx b1).trans ?_
  simp [seqF, setF, bi, vE, cellD, addC]
theorem fr_cb {a b : List Str} {s0 : Option C} {m m1 m2 : Bool} : ∀ (k : List (Nat × Nat)) (p q : Nat) (acc : List Pc) (u v : Option C), Ku a b p q k → acc.length + k.length < 1000 →
    ∃ x y u' v', forD tg__change_between_1 lb__change_between_1 (flag m ((k ++ [(a.length, b.length)]).map pr)) [s0, some (.d m1 (L a)), some (.d m2 (L b)), some (.own true (acc.map Pi)), some (.d true (.int p)), some (.d true (.int q)), u, v] =
      some (.nx [s0, some (.d m1 (L a)), some (.d m2 (L b)), some (.own true ((acc ++ cb a b p q k).map Pi)), x, y, u', v'])
  | [], p, q, acc, u, v, ⟨h1, h2⟩, hl => by
    refine ⟨some (.d true (.int ((a.length : Int) + 1))), some (.d true (.int ((b.length : Int) + 1))), some (.d true (.int a.length)), some (.d true (.int b.length)), ?_⟩
    rw [List.nil_append, List.map_cons, flag_cons, forD_nx (τ1 := [s0, some (.d m1 (L a)), some (.d m2 (L b)), some (.own true (acc.map Pi)), some (.d true (.int p)), some (.d true (.int q)), some (.d true (.int a.length)), some (.d true (.int b.length))]) ?_ (lb_cb h1 h2 (Nat.le_refl _) (Nat.le_refl _) (by simpa using hl))]
    · rfl
    · simp [tg__change_between_1, tupT, consT, nameT, nilT, pr, flag_cons, flag_nil, scal_int, scal_tup]
  | (i, j) :: k, p, q, acc, u, v, ⟨h1, h2, h3, h4, h5, h6⟩, hl => by
    rw [List.length_cons] at hl
    have fll : (fl a b p q i j).length ≤ 1 := by unfold fl; split <;> simp
    obtain ⟨x, y, u', v', ih⟩ := fr_cb (a := a) (b := b) (s0 := s0) (m := m) (m1 := m1) (m2 := m2) k (i + 1) (j + 1) (acc ++ fl a b p q i j) (some (.d true (.int i))) (some (.d true (.int j))) h6 (by rw [List.length_append]; omega)
    refine ⟨x, y, u', v', ?_⟩
    rw [List.cons_append, List.map_cons, flag_cons, forD_nx (τ1 := [s0, some (.d m1 (L a)), some (.d m2 (L b)), some (.own true (acc.map Pi)), some (.d true (.int p)), some (.d true (.int q)), some (.d true (.int i)), some (.d true (.int j))]) ?_ (lb_cb h1 h2 (by omega) (by omega) (by omega))]
    · rw [List.append_assoc] at ih
      exact ih
    · simp [tg__change_between_1, tupT, consT, nameT, nilT, pr, flag_cons, flag_nil, scal_int, scal_tup]
theorem Ku.len {a b : List Str} : ∀ {k : List (Nat × Nat)} {p q : Nat}, Ku a b p q k → k.length ≤ a.length - p
  | [], _, _, _ => by simp
  | (i, j) :: k, p, q, ⟨h1, h2, h3, h4, h5, h6⟩ => by
    have := Ku.len h6
    rw [List.length_cons]
    omega
theorem kp_u {a b : List Str} : Ku a b 0 0 (kp a b) := by
  have h := Kd_rev (a := a) (b := b) (bt a b (a.length + b.length) a.length b.length) [] a.length b.length (Nat.le_refl _) (Nat.le_refl _) (bt_ok _ _ _) ⟨Nat.le_refl _, Nat.le_refl _⟩
  rw [List.append_nil] at h
  exact h
theorem φ_cb {a b : List Str} (hl : a.length < 500) : φ__change_between [.lst ((kp a b).map pr), L a, L b] = some (.ok true (Ch (mk a b))) := by
  have hk := (kp_u (a := a) (b := b)).len
  obtain ⟨x, y, u', v', e⟩ := fr_cb (a := a) (b := b) (s0 := some (.d false (.lst ((kp a b).map pr)))) (m := false) (m1 := false) (m2 := false) (kp a b) 0 0 [] none none kp_u (by simp; omega)
  refine phi_rt (n := 8) (g := g__change_between) ?_
  have st : startD 8 [.lst ((kp a b).map pr), L a, L b] = [some (.d false (.lst ((kp a b).map pr))), some (.d false (L a)), some (.d false (L b)), none, none, none, none, none] := rfl
  rw [st]
  unfold g__change_between
  have it : (un1 (mp (bi (vE 0) (mp (un1 (consA (un1 (consA (un1 (vB 1) lenD) (consA (un1 (vB 2) lenD) nilA)) tupD) nilA) ownC) frz) addC) frz) itemsE) [some (.d false (.lst ((kp a b).map pr))), some (.d false (L a)), some (.d false (L b)), some (.own true []), some (.d true (.int 0)), some (.d true (.int 0)), none, none] = some (flag false ((kp a b ++ [(a.length, b.length)]).map pr)) := by
    have hz : (kp a b).length + 1 ≤ 16777216 := by omega
    simp [un1, mp, bi, vE, cellD, consA, vB, cellB, frz, lenD_L, nilA, tupD, ownC, addC, hz, lim, itemsE, pr]
  refine (seqF_nx (τ' := [some (.d false (.lst ((kp a b).map pr))), some (.d false (L a)), some (.d false (L b)), some (.own true []), none, none, none, none]) rfl).trans
    ((seqF_nx (τ' := [some (.d false (.lst ((kp a b).map pr))), some (.d false (L a)), some (.d false (L b)), some (.own true []), some (.d true (.int 0)), none, none, none]) rfl).trans
    ((seqF_nx (τ' := [some (.d false (.lst ((kp a b).map pr))), some (.d false (L a)), some (.d false (L b)), some (.own true []), some (.d true (.int 0)), some (.d true (.int 0)), none, none]) rfl).trans
    ((seqF_nx (τ' := _) (by unfold forF; rw [it]; exact e)).trans ?_)))
  simp [fzF, fzs, fz, frz, retF, vE, cellD, Ch, mk]
end K06
end
section
set_option Elab.async false
set_option linter.all false
set_option maxRecDepth 100000
set_option maxHeartbeats 4000000
namespace K06
open PySem Dl
/-! ### lists of texts that are compared -/
theorem eqv_strs : ∀ xs ys : List Str, PyData.eqvAll (pyL (xs.map D.str)) (pyL (ys.map D.str)) = decide (xs = ys)
  | [], [] => rfl
  | [], y :: ys => rfl
  | x :: xs, [] => rfl
  | x :: xs, y :: ys => by
    have ih := eqv_strs xs ys
    show PyData.eqvAll (py (.str x) :: pyL (xs.map D.str)) (py (.str y) :: pyL (ys.map D.str)) = _
    rw [PyData.eqvAll, ih, eqv_str, Bool.eq_iff_iff]
    simp
theorem eqD_L {xs ys : List Str} (hx : Ln xs) (hy : Ln ys) : eqD (L xs) (L ys) = some (decide (xs = ys)) := by
  have e : PyData.eqv (py (L xs)) (py (L ys)) = PyData.eqvAll (pyL (xs.map D.str)) (pyL (ys.map D.str)) := by simp only [L, py, PyData.eqv]
  unfold eqD
  rw [okEq_L hx, okEq_L hy, Bool.and_self, if_pos rfl, e, eqv_strs]
theorem neD_L {xs ys : List Str} (hx : Ln xs) (hy : Ln ys) : neD (L xs) (L ys) = some (!decide (xs = ys)) := by
  have e : PyData.eqv (py (L xs)) (py (L ys)) = PyData.eqvAll (pyL (xs.map D.str)) (pyL (ys.map D.str)) := by simp only [L, py, PyData.eqv]
  unfold neD
  rw [okEq_L hx, okEq_L hy, Bool.and_self, if_pos rfl, e, eqv_strs]
theorem eqD_int {x y : Int} : eqD (.int x) (.int y) = some (decide (x = y)) := by
  unfold eqD
  simp [okEq, plainD, py, SeqAt.shaped, PyData.eqv, PyData.canLay0, PyData.depth, Bool.beq_eq_decide_eq]
/-! ### copied -/
section
variable {φ : Phi} {ds : List D}
theorem el_c1 {s0 : Option C} {m : Bool} {d : D} (h : φ [d] = some (.ok true d)) : el__copied_1 φ [s0, some (.d m d)] = some (true, d) := by
  simp [el__copied_1, mp, callC, consA, vE, cellD, nilA, h, resC, frz]
theorem el_c2 {s0 : Option C} {m : Bool} {d : D} (h : φ [d] = some (.ok true d)) : el__copied_2 φ [s0, some (.d m d)] = some (true, d) := by
  simp [el__copied_2, mp, callC, consA, vE, cellD, nilA, h, resC, frz]
theorem cp_lst (h : ∀ d ∈ ds, φ [d] = some (.ok true d)) (hl : ds.length ≤ lim) : phi 2 (g__copied φ) [.lst ds] = some (.ok true (.lst ds)) := by
  have e : lcD [1] tg__copied_1 (fun _ => some true) (el__copied_1 φ) [some (.d false (.lst ds)), none] (flag false ds) = some (true, ds.map id) := lcD_map _ fun d hd => ⟨[some (.d false (.lst ds)), some (.d (false || scal d) d)], rfl, rfl, el_c1 (h d hd)⟩
  rw [List.map_id] at e
  have e2 : (flag false ds).length ≤ lim := by unfold flag; rw [List.length_map]; exact hl
  refine phi_rt (n := 2) (g := g__copied φ) ?_
  have st : startD 2 [.lst ds] = [some (.d false (.lst ds)), none] := rfl
  rw [st]
  unfold g__copied
  refine seqF_rt ?_
  have i1 : isi .list (.lst ds) = some true := rfl
  simp [ifF, un1, mp, vB, cellB, frz, isiE, i1, boolD, retF, lcF, vE, cellD, itemsE_lst, e, e2]
theorem cp_tup (h : ∀ d ∈ ds, φ [d] = some (.ok true d)) (hl : ds.length ≤ lim) : phi 2 (g__copied φ) [.tup ds] = some (.ok true (.tup ds)) := by
  have e : lcD [1] tg__copied_2 (fun _ => some true) (el__copied_2 φ) [some (.d false (.tup ds)), none] (flag false ds) = some (true, ds.map id) := lcD_map _ fun d hd => ⟨[some (.d false (.tup ds)), some (.d (false || scal d) d)], rfl, rfl, el_c2 (h d hd)⟩
  rw [List.map_id] at e
  have e2 : (flag false ds).length ≤ lim := by unfold flag; rw [List.length_map]; exact hl
  refine phi_rt (n := 2) (g := g__copied φ) ?_
  have st : startD 2 [.tup ds] = [some (.d false (.tup ds)), none] := rfl
  rw [st]
  unfold g__copied
  have i1 : isi .list (.tup ds) = some false := rfl
  have i2 : isi .tuple (.tup ds) = some true := rfl
  have it : itemsT (false, .tup ds) = some (flag false ds) := rfl
  refine (seqF_nx (τ' := [some (.d false (.tup ds)), none]) ?_).trans (seqF_rt ?_)
  · simp [ifF, un1, mp, vB, cellB, frz, isiE, i1, boolD, nxF]
  · simp [ifF, un1, mp, vB, cellB, frz, isiE, i2, boolD, retF, lcF, vE, cellD, it, e, e2, tupL]
end
theorem cp_int {n : Nat} {i : Int} : φn__copied (n + 1) [.int i] = some (.ok true (.int i)) := rfl
theorem cp_str {n : Nat} {i : Str} : φn__copied (n + 1) [.str i] = some (.ok true (.str i)) := rfl
theorem cp_L {n : Nat} {ls : List Str} (h : ls.length ≤ lim) : φn__copied (n + 2) [L ls] = some (.ok true (L ls)) := cp_lst (φ := φn__copied (n + 1)) (fun d hd => by
  obtain ⟨x, _, rfl⟩ := List.mem_map.mp hd
  exact cp_str) (by rw [List.length_map]; exact h)
theorem cp_R {n m : Nat} {f : Nat → Int} (h : m ≤ lim) : φn__copied (n + 2) [R f m] = some (.ok true (R f m)) := cp_lst (φ := φn__copied (n + 1)) (fun d hd => by
  obtain ⟨x, _, rfl⟩ := List.mem_map.mp hd
  exact cp_int) (by rw [rw_len]; exact h)
theorem cp_Pi {n : Nat} {p : Pc} (h1 : p.2.1.length ≤ lim) (h2 : p.2.2.length ≤ lim) : φn__copied (n + 3) [Pi p] = some (.ok true (Pi p)) := cp_tup (φ := φn__copied (n + 2)) (fun d hd => by
  rcases List.mem_cons.mp hd with z | z
  · rw [z]; exact cp_int
  · rcases List.mem_cons.mp z with z | z
    · rw [z]; exact cp_L h1
    · rcases List.mem_cons.mp z with z | z
      · rw [z]; exact cp_L h2
      · cases z) (by show 3 ≤ 16777216; omega)
theorem cp_Ch {c : List Pc} (h : ∀ p ∈ c, p.2.1.length ≤ lim ∧ p.2.2.length ≤ lim) (hl : c.length ≤ lim) : φ__copied [Ch c] = some (.ok true (Ch c)) := cp_lst (φ := φn__copied 4) (fun d hd => by
  obtain ⟨p, hp, rfl⟩ := List.mem_map.mp hd
  exact cp_Pi (n := 1) (h p hp).1 (h p hp).2) (by rw [List.length_map]; exact hl)
theorem cp_tab {a b : List Str} (ha : a.length < 1000) (hb : b.length < 1000) : φ__copied [tab a b] = some (.ok true (tab a b)) := cp_lst (φ := φn__copied 4) (fun d hd => by
  obtain ⟨x, _, rfl⟩ := List.mem_map.mp hd
  exact cp_R (n := 2) (by show _ ≤ 16777216; omega)) (by rw [tab_len]; show _ ≤ 16777216; omega)
/-! ### made -/
theorem cb_ct {a b : List Str} : ∀ (k : List (Nat × Nat)) (p q : Nat), (cb a b p q k).length ≤ k.length + 1
  | [], p, q => by show (fl a b p q a.length b.length).length ≤ 1; unfold fl; split <;> simp
  | (i, j) :: k, p, q => by
    have := cb_ct (a := a) (b := b) k (i + 1) (j + 1)
    have fll : (fl a b p q i j).length ≤ 1 := by unfold fl; split <;> simp
    show (fl a b p q i j ++ cb a b (i + 1) (j + 1) k).length ≤ _
    rw [List.length_append, List.length_cons]
    omega
theorem mk_ct {a b : List Str} : (mk a b).length ≤ a.length + 1 := by
  have h1 := cb_ct (a := a) (b := b) (kp a b) 0 0
  have h2 := (kp_u (a := a) (b := b)).len
  unfold mk
  omega
def DM (CA : Str → Addr) (a b : List Str) : D := .ins (CA "Made") ["change", "heights"] [Ch (mk a b), tab a b]
theorem ini_eq {d1 d2 : D} (s1 : scal d1 = false) (s2 : scal d2 = false) (h1 : φ__copied [d1] = some (.ok true d1)) (h2 : φ__copied [d2] = some (.ok true d2)) : ini_Made [d1, d2] = some [d1, d2] := by
  have st : startD 2 [d1, d2] = [some (.d false d1), some (.d false d2)] := by simp [startD, s1, s2]
  unfold ini_Made iniD
  rw [st]
  simp [evalI, mp, callC, consA, vE, cellD, nilA, h1, h2, resC, frz]
theorem made_g {CA : Str → Addr} {A B T K c : D} {n m : Int} (sA : scal A = false) (sB : scal B = false) (cA : φ_check_page [A] = some (.ok true .non)) (cB : φ_check_page [B] = some (.ok true .non))
    (lA : lenD A = some (true, .int n)) (lB : lenD B = some (true, .int m)) (hn : n ≤ 40) (hm : m ≤ 40) (e1 : φ__fewest_lines [A, B] = some (.ok true T)) (e2 : φ__lines_kept [T, A, B] = some (.ok true K)) (e3 : φ__change_between [K, A, B] = some (.ok true c))
    (e4 : ini_Made [c, T] = some [c, T]) : φ_made CA [A, B] = some (.ok true (.ins (CA "Made") ["change", "heights"] [c, T])) := by
  have h1 : ¬ 40 < n := by omega
  have h2 : ¬ 40 < m := by omega
  refine phi_rt (n := 3) (g := g_made CA) ?_
  have st : startD 3 [A, B] = [some (.d false A), some (.d false B), none] := by simp [startD, sA, sB]
  rw [st]
  unfold g_made
  refine (seqF_nx (τ' := [some (.d false A), some (.d false B), none]) ?_).trans ((seqF_nx (τ' := [some (.d false A), some (.d false B), none]) ?_).trans ((seqF_nx (τ' := [some (.d false A), some (.d false B), none]) ?_).trans
    ((seqF_nx (τ' := [some (.d false A), some (.d false B), some (.dp T)]) ?_).trans ?_)))
  · simp [dropF, callC, consA, vE, cellD, nilA, cA, resC]
  · simp [dropF, callC, consA, vE, cellD, nilA, cB, resC]
  · simp [ifF, orF, bi, mp, un1, vB, cellB, frz, lA, lB, cI, gt2, h1, h2, nxF]
  · simp [setF, callC, consA, vE, cellD, nilA, e1, resC]
  · simp [fzF, fzs, fz, frz, retF, mp, makeF, callC, consA, vE, cellD, nilA, e2, e3, e4, resC]
theorem φ_mk {CA : Str → Addr} {a b : List Str} (ha : Ln a) (hb : Ln b) (hl : a.length ≤ 40) (hl2 : b.length ≤ 40) : φ_made CA [L a, L b] = some (.ok true (DM CA a b)) := by
  have hc := mk_ok (a := a) (b := b)
  refine made_g scal_L scal_L (φ_ckp ha (by omega)) (φ_ckp hb (by omega)) lenD_L lenD_L (by omega) (by omega) (φ_fl ha hb (by omega) (by omega)) (φ_lk ha hb (by omega)) (φ_cb (by omega)) (ini_eq scal_Ch rfl (cp_Ch (fun p hp => ?_) ?_) (cp_tab (by omega) (by omega)))
  · have := hc.1.bd p hp
    exact ⟨by show _ ≤ 16777216; omega, by show _ ≤ 16777216; omega⟩
  · have := mk_ct (a := a) (b := b)
    show _ ≤ 16777216
    omega
/-! ### what it says of itself -/
theorem mk_vc {a b : List Str} (ha : Ln a) (hb : Ln b) : Vc (mk a b) := ⟨mk_ok.1.ap, mk_ok.1.ln ha hb, fun p hp => (mk_ok.1.bd p hp).2.2, fun p hp => by have := Ap.gt mk_ok.1.ap p hp; omega⟩
theorem mk_fit {a b : List Str} : ∀ p ∈ mk a b, FitAt a p := FitD.all (pre := []) rfl mk_ok.1.fit
theorem mk_rep {a b : List Str} : repl 0 a (mk a b) = b := mk_ok.1.rep
theorem φ_le {a b d : List Str} (ha : Ln a) (hb : Ln b) (hd : Ln d) (hl : b.length ≤ 40) : φ__leads [Ch (mk a b), L a, L d] = some (.ok true (.bl (decide (b = d)))) := by
  have t1 := φ_told (mk_vc ha hb)
  have t2 := φ_fu (pg := a) (c := mk a b) fun p hp => ⟨mk_fit p hp, ((mk_vc ha hb).ln p hp).1⟩
  obtain ⟨m, t3⟩ := φ_re (pg := a) (c := mk a b) mk_ok.1.fit (by rw [mk_rep]; show _ ≤ 16777216; omega)
  rw [mk_rep] at t3
  have t4 := eqD_L hb hd
  refine phi_rt (n := 3) (g := g__leads) ?_
  have st : startD 3 [Ch (mk a b), L a, L d] = [some (.d false (Ch (mk a b))), some (.d false (L a)), some (.d false (L d))] := rfl
  rw [st]
  generalize mk a b = c at *
  cases m <;> simp [g__leads, retF, andE, mp, callC, consA, vE, vB, cellD, cellB, nilA, t1, t2, t3, t4, resC, frz, blE, bi, isN]
theorem sum_li {m : Bool} {s0 : Option C} : ∀ (c : List Pc) (z : Int), sumD [1, 2, 3] tg__lines_in_1 (fun _ => some true) el__lines_in_1 [s0, none, none, none] z (flag m (c.map Pi)) = some (z + (sz c : Nat))
  | [], z => by show some z = _; simp [sz]
  | p :: c, z => by
    have ih := sum_li (m := m) (s0 := s0) c (z + ((p.2.1.length : Int) + (p.2.2.length : Int)))
    have tg : tg__lines_in_1 (m || scal (Pi p), Pi p) (wD [s0, none, none, none] [1, 2, 3]) = some [s0, some (.d true (.int p.1)), some (.d m (L p.2.1)), some (.d m (L p.2.2))] := by
      simp [tg__lines_in_1, tupT, consT, nameT, nilT, Pi, flag_cons, flag_nil, scal_int, scal_L, scal_tup, wD]
    have el : el__lines_in_1 [s0, some (.d true (.int p.1)), some (.d m (L p.2.1)), some (.d m (L p.2.2))] = some (true, .int ((p.2.1.length : Int) + (p.2.2.length : Int))) := by
      simp [el__lines_in_1, mp, bi, un1, vB, cellB, frz, lenD_L, addC]
    rw [List.map_cons, flag_cons, sumD, tg, Option.bind_some, Option.bind_some, if_pos rfl, el]
    refine ih.trans ?_
    congr 1
    simp only [sz, List.map_cons, List.sum_cons]
    omega
theorem φ_li_ {c : List Pc} : φ__lines_in [Ch c] = some (.ok true (.int (sz c : Nat))) := by
  have e := sum_li (m := false) (s0 := some (.d false (Ch c))) c 0
  rw [Int.zero_add] at e
  refine phi_rt (n := 4) (g := g__lines_in) ?_
  have st : startD 4 [Ch c] = [some (.d false (Ch c)), none, none, none] := rfl
  rw [st]
  generalize ((sz c : Nat) : Int) = z at e
  simp [g__lines_in, retF, sumF, un1, vE, cellD, itemsE_Ch, e]
end K06
end
section
set_option Elab.async false
set_option linter.all false
set_option maxRecDepth 100000
set_option maxHeartbeats 4000000
namespace K06
open PySem Dl
/-! ### is it a table of heights -/
theorem lenD_tab {a b : List Str} : lenD (tab a b) = some (true, .int ((a.length : Int) + 1)) := by
  show some (true, D.int ((tabL a b (a.length + 1)).length : Nat)) = _
  rw [tab_len]
  rfl
theorem lenD_R' {f : Nat → Int} {n : Nat} : lenD (R f (n + 1)) = some (true, .int ((n : Int) + 1)) := lenD_R
theorem tab_mem {a b : List Str} {n : Nat} {d : D} (h : d ∈ tabL a b n) : ∃ i, i < n ∧ d = R (DI a b i) (b.length + 1) := by
  obtain ⟨i, hi, rfl⟩ := List.mem_map.mp h
  exact ⟨i, List.mem_range.mp hi, rfl⟩
theorem rw_mem {f : Nat → Int} {n : Nat} {d : D} (h : d ∈ rw_ f n) : ∃ i, i < n ∧ d = .int (f i) := by
  obtain ⟨i, hi, rfl⟩ := List.mem_map.mp h
  exact ⟨i, List.mem_range.mp hi, rfl⟩
theorem el_it {s0 s1 : Option C} {m : Bool} {f : Nat → Int} {n : Nat} {N : Int} (h : (n : Int) = N) : el__is_table_1 [s0, s1, some (.d true (.int N)), some (.d m (R f n))] = some (true, .bl true) := by
  have i1 : isi .list (R f n) = some true := rfl
  have e : eqD (.int (n : Int)) (.int N) = some true := by rw [eqD_int, h]; simp
  simp [el__is_table_1, andE, un1, vB, cellB, frz, isiE, i1, blE, bi, mp, lenD_R, e]
theorem φ_it {a b : List Str} : φ__is_table [tab a b, .int ((a.length : Int) + 1), .int ((b.length : Int) + 1)] = some (.ok true (.bl true)) := by
  have st : startD 4 [tab a b, .int ((a.length : Int) + 1), .int ((b.length : Int) + 1)] = [some (.d false (tab a b)), some (.d true (.int ((a.length : Int) + 1))), some (.d true (.int ((b.length : Int) + 1))), none] := rfl
  have e : allD [3] tg__is_table_1 (fun _ => some true) el__is_table_1 [some (.d false (tab a b)), some (.d true (.int ((a.length : Int) + 1))), some (.d true (.int ((b.length : Int) + 1))), none] (flag false (tabL a b (a.length + 1))) = some true := allD_ok _ fun p hp => by
    obtain ⟨d, hd, rfl⟩ := flag_mem hp
    obtain ⟨i, _, rfl⟩ := tab_mem hd
    exact ⟨[some (.d false (tab a b)), some (.d true (.int ((a.length : Int) + 1))), some (.d true (.int ((b.length : Int) + 1))), some (.d false (R (DI a b i) (b.length + 1)))], true, rfl, rfl, el_it rfl⟩
  have it : itemsE (false, tab a b) = some (flag false (tabL a b (a.length + 1))) := rfl
  have l := lenD_tab (a := a) (b := b)
  have i1 : isi .list (tab a b) = some true := rfl
  refine phi_rt (n := 4) (g := g__is_table) ?_
  rw [st]
  generalize (a.length : Int) + 1 = N at *
  generalize (b.length : Int) + 1 = M at *
  have ne : neD (.int N) (.int N) = some false := by rw [neD_int]; simp
  unfold g__is_table
  refine (seqF_nx (τ' := [some (.d false (tab a b)), some (.d true (.int N)), some (.d true (.int M)), none]) ?_).trans ?_
  · simp [ifF, orF, mp, un1, vB, cellB, frz, isiE, i1, boolD, bi, l, ne, nxF]
  · simp [retF, allF, un1, vE, cellD, it, e]
theorem allD2_ok {vs vs1 : List Nat} {t t1 : TgD} {c c1 : FT} {fi1 : FI} {e : FE} {τ : DS} : ∀ (items : List (Bool × D)), (∀ p ∈ items, ∃ τ1 qs, t p (wD τ vs) = some τ1 ∧ c τ1 = some true ∧ fi1 τ1 = some qs ∧ allD vs1 t1 c1 e τ1 qs = some true) → allD2 vs t c fi1 vs1 t1 c1 e τ items = some true
  | [], _ => rfl
  | p :: ps, h => by
    obtain ⟨τ1, qs, h1, h2, h3, h4⟩ := h p (List.mem_cons_self ..)
    rw [allD2, h1, Option.bind_some, h2, Option.bind_some, if_pos rfl, h3, Option.bind_some, h4, Option.bind_some, if_pos rfl]
    exact allD2_ok ps fun q hq => h q (List.mem_cons_of_mem _ hq)
theorem el_ih {s0 s1 s2 s3 : Option C} {m : Bool} {i : Int} : el__is_height_table_1 [s0, s1, s2, s3, some (.d m (.int i))] = some (true, .bl true) := by
  have e : φ_is_number [.int i] = some (.ok true (.bl true)) := φ_num
  simp [el__is_height_table_1, mp, callC, consA, vE, cellD, nilA, e, resC, frz]
theorem φ_ih {a b : List Str} : φ__is_height_table [tab a b, L a, L b] = some (.ok true (.bl true)) := by
  have st : startD 5 [tab a b, L a, L b] = [some (.d false (tab a b)), some (.d false (L a)), some (.d false (L b)), none, none] := rfl
  have e : allD2 [3, 4] tg__is_height_table_1 (fun _ => some true) (un1 (vE 3) itemsE) [4] tg__is_height_table_2 (fun _ => some true) el__is_height_table_1 [some (.d false (tab a b)), some (.d false (L a)), some (.d false (L b)), none, none] (flag false (tabL a b (a.length + 1))) = some true := allD2_ok _ fun p hp => by
    obtain ⟨d, hd, rfl⟩ := flag_mem hp
    obtain ⟨i, _, rfl⟩ := tab_mem hd
    refine ⟨[some (.d false (tab a b)), some (.d false (L a)), some (.d false (L b)), some (.d false (R (DI a b i) (b.length + 1))), none], flag false (rw_ (DI a b i) (b.length + 1)), rfl, rfl, rfl, ?_⟩
    refine allD_ok _ fun q hq => ?_
    obtain ⟨d, hd, rfl⟩ := flag_mem hq
    obtain ⟨j, _, rfl⟩ := rw_mem hd
    exact ⟨[some (.d false (tab a b)), some (.d false (L a)), some (.d false (L b)), some (.d false (R (DI a b i) (b.length + 1))), some (.d true (.int (DI a b i j)))], true, rfl, rfl, el_ih⟩
  have it : itemsE (false, tab a b) = some (flag false (tabL a b (a.length + 1))) := rfl
  have l1 := lenD_L (i := a)
  have l2 := lenD_L (i := b)
  have e1 := φ_it (a := a) (b := b)
  refine phi_rt (n := 5) (g := g__is_height_table) ?_
  rw [st]
  generalize (a.length : Int) = N at l1 e1
  generalize (b.length : Int) = M at l2 e1
  unfold g__is_height_table
  refine (seqF_nx (τ' := [some (.d false (tab a b)), some (.d false (L a)), some (.d false (L b)), none, none]) ?_).trans ?_
  · simp [ifF, mp, un1, callC, consA, vE, cellD, bi, vB, cellB, frz, l1, l2, addC, nilA, e1, resC, boolD, nxF]
  · simp [retF, allF2, un1, vE, cellD, it, e]
/-! ### the steps -/
theorem zip_mem {m : Bool} : ∀ {xs ys : List D} {p : Bool × D}, p ∈ zipI m xs ys → ∃ (k : Nat) (nw : Bool) (d e : D), xs[k]? = some d ∧ ys[k]? = some e ∧ p = (nw, .tup [d, e])
  | x :: xs, y :: ys, p, h => by
    rw [zipI_cons] at h
    rcases List.mem_cons.mp h with z | z
    · exact ⟨0, _, x, y, rfl, rfl, z⟩
    · obtain ⟨k, nw, d, e, h1, h2, h3⟩ := zip_mem z
      exact ⟨k + 1, nw, d, e, h1, h2, h3⟩
theorem rw_get {f : Nat → Int} {n k : Nat} {d : D} (h : (rw_ f n)[k]? = some d) : k < n ∧ d = .int (f k) := by
  have hk := lt_of_some h
  rw [rw_len] at hk
  unfold rw_ at h
  rw [List.getElem?_map, List.getElem?_range hk] at h
  exact ⟨hk, (Option.some.inj h).symm⟩
theorem cut_1 {α : Type} {xs : List α} (h : 1 ≤ xs.length) : cutL xs (some 1) none = xs.drop 1 := by
  unfold cutL
  rw [show HT.sIx xs.length 0 (some 1) = 1 from sIx_n (k := 1) h, HT.sIx_none, List.take_of_length_le (by rw [List.length_drop]; omega)]
theorem lb_rs {s0 : Option C} {u v : Int} (h : v ≤ u + 1) : lb__rises_by_one_1 [s0, some (.d true (.int u)), some (.d true (.int v))] = some (.nx [s0, some (.d true (.int u)), some (.d true (.int v))]) := by
  have h' : ¬ u + 1 < v := by omega
  simp [lb__rises_by_one_1, ifF, bi, vB, cellB, frz, mp, vE, cellD, addC, cI, gt2, h', nxF]
theorem fr_rs {s0 : Option C} : ∀ (items : List (Bool × D)) (x y : Option C), (∀ p ∈ items, ∃ nw u v, p = (nw, .tup [.int u, .int v]) ∧ v ≤ u + 1) → ∃ x' y', forD tg__rises_by_one_1 lb__rises_by_one_1 items [s0, x, y] = some (.nx [s0, x', y'])
  | [], x, y, _ => ⟨x, y, rfl⟩
  | p :: ps, x, y, h => by
    obtain ⟨nw, u, v, rfl, h1⟩ := h p (List.mem_cons_self ..)
    obtain ⟨x', y', ih⟩ := fr_rs (s0 := s0) ps (some (.d true (.int u))) (some (.d true (.int v))) fun q hq => h q (List.mem_cons_of_mem _ hq)
    refine ⟨x', y', ?_⟩
    rw [forD_nx (τ1 := [s0, some (.d true (.int u)), some (.d true (.int v))]) ?_ (lb_rs h1), ih]
    simp [tg__rises_by_one_1, tupT, consT, nameT, nilT, flag_cons, flag_nil, scal_int]
theorem φ_rs {f : Nat → Int} {n : Nat} (h : ∀ j, f (j + 1) ≤ f j + 1) : φ__rises_by_one [R f (n + 1)] = some (.ok true (.bl true)) := by
  obtain ⟨x', y', e⟩ := fr_rs (s0 := some (.d false (R f (n + 1)))) (zipI false (rw_ f (n + 1)) ((rw_ f (n + 1)).drop 1)) none none fun p hp => by
    obtain ⟨k, nw, d, e, h1, h2, h3⟩ := zip_mem hp
    rw [List.getElem?_drop] at h2
    obtain ⟨_, rfl⟩ := rw_get h1
    obtain ⟨_, rfl⟩ := rw_get h2
    refine ⟨nw, _, _, h3, ?_⟩
    rw [Nat.add_comm 1 k]
    exact h k
  have c1 : cutC (false, R f (n + 1)) (some 1) none = some (.own true ((rw_ f (n + 1)).drop 1)) := by
    show some (C.own (false || allScal (rw_ f (n + 1))) (cutL (rw_ f (n + 1)) (some 1) none)) = _
    rw [cut_1 (by rw [rw_len]; omega), scalR]
    rfl
  have z1 : zipF (false, [R f (n + 1), .lst ((rw_ f (n + 1)).drop 1)]) = some (zipI false (rw_ f (n + 1)) ((rw_ f (n + 1)).drop 1)) := rfl
  refine phi_rt (n := 3) (g := g__rises_by_one) ?_
  have st : startD 3 [R f (n + 1)] = [some (.d false (R f (n + 1))), none, none] := rfl
  rw [st]
  unfold g__rises_by_one
  refine (seqF_nx (τ' := _) (by
    unfold forF
    rw [un1_of (x := (false, [R f (n + 1), .lst ((rw_ f (n + 1)).drop 1)])) (z := some (zipI false (rw_ f (n + 1)) ((rw_ f (n + 1)).drop 1))) ?_ z1]
    · exact e
    · simp [consA, vE, cellD, mp, slF, un1, intO, c1, frz, nilA])).trans rfl
theorem lb_f1 {s0 s1 s2 s3 s6 s7 : Option C} {u v : Int} (h : v ≤ u + 1) : lb__row_follows_1 [s0, s1, s2, s3, some (.d true (.int v)), some (.d true (.int u)), s6, s7] = some (.nx [s0, s1, s2, s3, some (.d true (.int v)), some (.d true (.int u)), s6, s7]) := by
  have h' : ¬ u + 1 < v := by omega
  simp [lb__row_follows_1, ifF, bi, vB, cellB, frz, mp, vE, cellD, addC, cI, gt2, h', nxF]
theorem fr_f1 {s0 s1 s2 s3 s6 s7 : Option C} : ∀ (items : List (Bool × D)) (x y : Option C), (∀ p ∈ items, ∃ nw u v, p = (nw, .tup [.int v, .int u]) ∧ v ≤ u + 1) → ∃ x' y', forD tg__row_follows_1 lb__row_follows_1 items [s0, s1, s2, s3, x, y, s6, s7] = some (.nx [s0, s1, s2, s3, x', y', s6, s7])
  | [], x, y, _ => ⟨x, y, rfl⟩
  | p :: ps, x, y, h => by
    obtain ⟨nw, u, v, rfl, h1⟩ := h p (List.mem_cons_self ..)
    obtain ⟨x', y', ih⟩ := fr_f1 (s0 := s0) (s1 := s1) (s2 := s2) (s3 := s3) (s6 := s6) (s7 := s7) ps (some (.d true (.int v))) (some (.d true (.int u))) fun q hq => h q (List.mem_cons_of_mem _ hq)
    refine ⟨x', y', ?_⟩
    rw [forD_nx (τ1 := [s0, s1, s2, s3, some (.d true (.int v)), some (.d true (.int u)), s6, s7]) ?_ (lb_f1 h1), ih]
    simp [tg__row_follows_1, tupT, consT, nameT, nilT, flag_cons, flag_nil, scal_int]
theorem lb_f2 {s3 s4 s5 : Option C} {m0 m1 m2 m7 : Bool} {f g : Nat → Int} {n k : Nat} {x y : Str} (hx : x ∈ LL) (hy : y ∈ LL) (hk : k < n) (h : x = y → g (k + 1) ≤ f k) :
    lb__row_follows_2 [some (.d m0 (R f (n + 1))), some (.d m1 (R g (n + 1))), some (.d m2 (.str x)), s3, s4, s5, some (.d true (.int k)), some (.d m7 (.str y))] = some (.nx [some (.d m0 (R f (n + 1))), some (.d m1 (R g (n + 1))), some (.d m2 (.str x)), s3, s4, s5, some (.d true (.int k)), some (.d m7 (.str y))]) := by
  have e0 := eqD_str hy hx
  have i0 : itemB (R f (n + 1)) (.int k) = some (.int (f k)) := itemB_R (by omega)
  have i1 : itemB (R g (n + 1)) (.int ((k : Int) + 1)) = some (.int (g (k + 1))) := itemB_R (k := k + 1) (by omega)
  by_cases hc : y = x
  · have e0 : eqD (.str y) (.str x) = some true := by rw [e0, decide_eq_true hc]
    have h' : ¬ f k < g (k + 1) := by have := h hc.symm; omega
    simp [lb__row_follows_2, ifF, andF, bi, vB, cellB, frz, e0, mp, vE, cellD, addC, i0, i1, cI, gt2, h', nxF]
  · have e0 : eqD (.str y) (.str x) = some false := by rw [e0, decide_eq_false hc]
    simp [lb__row_follows_2, ifF, andF, bi, vB, cellB, frz, e0, nxF]
theorem fr_f2 {s3 s4 s5 : Option C} {m m0 m1 m2 : Bool} {f g : Nat → Int} {n : Nat} {x : Str} (hx : x ∈ LL) : ∀ (ys : List Str) (k : Nat) (u v : Option C), Ln ys → k + ys.length ≤ n → (∀ i, ys[i]? = some x → g (k + i + 1) ≤ f (k + i)) →
    ∃ u' v', forD tg__row_follows_2 lb__row_follows_2 (enumI m k (ys.map .str)) [some (.d m0 (R f (n + 1))), some (.d m1 (R g (n + 1))), some (.d m2 (.str x)), s3, s4, s5, u, v] = some (.nx [some (.d m0 (R f (n + 1))), some (.d m1 (R g (n + 1))), some (.d m2 (.str x)), s3, s4, s5, u', v'])
  | [], k, u, v, _, _, _ => ⟨u, v, rfl⟩
  | y :: ys, k, u, v, hL, hn, hg => by
    rw [List.length_cons] at hn
    obtain ⟨u', v', ih⟩ := fr_f2 (s3 := s3) (s4 := s4) (s5 := s5) (m := m) (m0 := m0) (m1 := m1) (m2 := m2) (f := f) (g := g) (n := n) hx ys (k + 1) (some (.d true (.int k))) (some (.d true (.str y))) (fun z hz => hL z (List.mem_cons_of_mem _ hz)) (by omega) fun i hz => by
      have := hg (i + 1) (by rw [List.getElem?_cons_succ]; exact hz)
      rw [show k + (i + 1) = k + 1 + i by omega] at this
      exact this
    refine ⟨u', v', ?_⟩
    rw [List.map_cons, enumI_cons, forD_nx (τ1 := [some (.d m0 (R f (n + 1))), some (.d m1 (R g (n + 1))), some (.d m2 (.str x)), s3, s4, s5, some (.d true (.int k)), some (.d true (.str y))]) ?_ (lb_f2 hx (hL y (List.mem_cons_self ..)) (by omega) fun z => hg 0 (by rw [z]; rfl)), ih]
    simp [tg__row_follows_2, tupT, consT, nameT, nilT, flag_cons, flag_nil, scal_int, scal_str]
theorem φ_rf {f g : Nat → Int} {x : Str} {b : List Str} (hx : x ∈ LL) (hb : Ln b) (h : ∀ j, g j ≤ f j + 1) (hm : ∀ j, b[j]? = some x → g (j + 1) ≤ f j) :
    φ__row_follows [R f (b.length + 1), R g (b.length + 1), .str x, L b] = some (.ok true (.bl true)) := by
  obtain ⟨x4, x5, e1⟩ := fr_f1 (s0 := some (.d false (R f (b.length + 1)))) (s1 := some (.d false (R g (b.length + 1)))) (s2 := some (.d true (.str x))) (s3 := some (.d false (L b))) (s6 := none) (s7 := none) (zipI false (rw_ g (b.length + 1)) (rw_ f (b.length + 1))) none none fun p hp => by
    obtain ⟨k, nw, d, e, h1, h2, h3⟩ := zip_mem hp
    obtain ⟨_, rfl⟩ := rw_get h1
    obtain ⟨_, rfl⟩ := rw_get h2
    exact ⟨nw, _, _, h3, h k⟩
  obtain ⟨x6, x7, e2⟩ := fr_f2 (s3 := some (.d false (L b))) (s4 := x4) (s5 := x5) (m := false) (m0 := false) (m1 := false) (m2 := true) (f := f) (g := g) (n := b.length) hx b 0 none none hb (by omega) fun i hi => by rw [Nat.zero_add]; exact hm i hi
  refine phi_rt (n := 8) (g := g__row_follows) ?_
  have st : startD 8 [R f (b.length + 1), R g (b.length + 1), .str x, L b] = [some (.d false (R f (b.length + 1))), some (.d false (R g (b.length + 1))), some (.d true (.str x)), some (.d false (L b)), none, none, none, none] := rfl
  have z1 : zipF (false, [R g (b.length + 1), R f (b.length + 1)]) = some (zipI false (rw_ g (b.length + 1)) (rw_ f (b.length + 1))) := rfl
  rw [st]
  unfold g__row_follows
  refine (seqF_nx (τ' := _) (by
    unfold forF
    rw [un1_of (x := (false, [R g (b.length + 1), R f (b.length + 1)])) (z := some (zipI false (rw_ g (b.length + 1)) (rw_ f (b.length + 1)))) ?_ z1]
    · exact e1
    · simp [consA, vE, cellD, nilA])).trans ((seqF_nx (τ' := _) (by
    unfold forF
    rw [un1_of (x := (false, [L b])) (z := some (enumI false 0 (b.map D.str))) ?_ rfl]
    · exact e2
    · simp [consA, vE, cellD, nilA])).trans rfl)
theorem itemC_tab {a b : List Str} {m : Bool} {k : Nat} (h : k < a.length + 1) : itemC (some (some (.d m (tab a b)))) (.int k) = some (m, R (DI a b k) (b.length + 1)) := by
  show (L2.atI (tabL a b (a.length + 1)) (k : Int)).map (fun d => (m || scal d, d)) = _
  rw [tab_at h]
  show some (m || false, _) = _
  rw [Bool.or_false]
theorem lb_ns {a b : List Str} {k : Nat} {x : Str} {s1 s5 : Option C} {m0 m2 m4 : Bool} (hk : a[k]? = some x) (hx : x ∈ LL) (hb : Ln b) :
    lb__are_no_steps_too_high_1 [some (.d m0 (tab a b)), s1, some (.d m2 (L b)), some (.d true (.int k)), some (.d m4 (.str x)), s5] = some (.nx [some (.d m0 (tab a b)), s1, some (.d m2 (L b)), some (.d true (.int k)), some (.d m4 (.str x)), s5]) := by
  have hl := lt_of_some hk
  have e := φ_rf (f := DI a b k) (g := DI a b (k + 1)) (x := x) (b := b) hx hb (fun j => by unfold DI; have := (Dm_lip2 (a := a) (b := b) k j).1; omega) fun j hj => by unfold DI; rw [Dm_eq (by rw [hk, hj])]; omega
  have i0 : itemC (some (some (.d m0 (tab a b)))) (.int k) = _ := itemC_tab (by omega)
  have i1 : itemC (some (some (.d m0 (tab a b)))) (.int ((k : Int) + 1)) = _ := itemC_tab (k := k + 1) (by omega)
  simp [lb__are_no_steps_too_high_1, ifF, mp, un1, callC, consA, xvE, vE, cellD, i0, i1, bi, addC, frz, nilA, e, resC, boolD, nxF]
theorem fr_ns {a b : List Str} {m m0 m2 : Bool} {s1 s5 : Option C} (hb : Ln b) : ∀ (xs : List Str) (k : Nat) (u v : Option C), Ln xs → k + xs.length ≤ a.length → (∀ i, i < xs.length → a[k + i]? = xs[i]?) →
    ∃ u' v', forD tg__are_no_steps_too_high_2 lb__are_no_steps_too_high_1 (enumI m k (xs.map .str)) [some (.d m0 (tab a b)), s1, some (.d m2 (L b)), u, v, s5] = some (.nx [some (.d m0 (tab a b)), s1, some (.d m2 (L b)), u', v', s5])
  | [], k, u, v, _, _, _ => ⟨u, v, rfl⟩
  | x :: xs, k, u, v, hL, hn, hg => by
    rw [List.length_cons] at hn
    obtain ⟨u', v', ih⟩ := fr_ns (a := a) (b := b) (m := m) (m0 := m0) (m2 := m2) (s1 := s1) (s5 := s5) hb xs (k + 1) (some (.d true (.int k))) (some (.d true (.str x))) (fun z hz => hL z (List.mem_cons_of_mem _ hz)) (by omega) fun i hi => by
      have := hg (i + 1) (by rw [List.length_cons]; omega)
      rw [List.getElem?_cons_succ] at this
      rw [← this]
      congr 1
      omega
    refine ⟨u', v', ?_⟩
    have h0 := hg 0 (by rw [List.length_cons]; omega)
    rw [List.map_cons, enumI_cons, forD_nx (τ1 := [some (.d m0 (tab a b)), s1, some (.d m2 (L b)), some (.d true (.int k)), some (.d true (.str x)), s5]) ?_ (lb_ns h0 (hL x (List.mem_cons_self ..)) hb), ih]
    simp [tg__are_no_steps_too_high_2, tupT, consT, nameT, nilT, flag_cons, flag_nil, scal_int, scal_str]
theorem φ_ns {a b : List Str} (ha : Ln a) (hb : Ln b) : φ__are_no_steps_too_high [tab a b, L a, L b] = some (.ok true (.bl true)) := by
  have st : startD 6 [tab a b, L a, L b] = [some (.d false (tab a b)), some (.d false (L a)), some (.d false (L b)), none, none, none] := rfl
  have e : allD [5] tg__are_no_steps_too_high_1 (fun _ => some true) el__are_no_steps_too_high_1 [some (.d false (tab a b)), some (.d false (L a)), some (.d false (L b)), none, none, none] (flag false (tabL a b (a.length + 1))) = some true := allD_ok _ fun p hp => by
    obtain ⟨d, hd, rfl⟩ := flag_mem hp
    obtain ⟨i, _, rfl⟩ := tab_mem hd
    refine ⟨[some (.d false (tab a b)), some (.d false (L a)), some (.d false (L b)), none, none, some (.d false (R (DI a b i) (b.length + 1)))], true, rfl, rfl, ?_⟩
    have e := φ_rs (f := DI a b i) (n := b.length) fun j => by unfold DI; have := (Dm_lip (a := a) (b := b) i j).1; omega
    simp [el__are_no_steps_too_high_1, mp, callC, consA, vE, cellD, nilA, e, resC, frz]
  have it : itemsE (false, tab a b) = some (flag false (tabL a b (a.length + 1))) := rfl
  obtain ⟨u', v', e2⟩ := fr_ns (a := a) (b := b) (m := false) (m0 := false) (m2 := false) (s1 := some (.d false (L a))) (s5 := none) hb a 0 none none ha (by omega) fun i hi => by rw [Nat.zero_add]
  refine phi_rt (n := 6) (g := g__are_no_steps_too_high) ?_
  rw [st]
  unfold g__are_no_steps_too_high
  refine (seqF_nx (τ' := [some (.d false (tab a b)), some (.d false (L a)), some (.d false (L b)), none, none, none]) ?_).trans ((seqF_nx (τ' := _) (by
    unfold forF
    rw [un1_of (x := (false, [L a])) (z := some (enumI false 0 (a.map D.str))) ?_ rfl]
    · exact e2
    · simp [consA, vE, cellD, nilA])).trans rfl)
  simp [ifF, mp, un1, allF, vE, cellD, it, e, boolD, nxF]
/-! ### shows -/
theorem fld_c {C : Addr} {x y : D} : fldD [C] "change" (.ins C ["change", "heights"] [x, y]) = some x := by
  simp [fldD, lookF]
theorem fld_h {C : Addr} {x y : D} : fldD [C] "heights" (.ins C ["change", "heights"] [x, y]) = some y := by
  have : ("heights" : Str) ≠ "change" := by decide
  simp [fldD, lookF, this]
theorem itemB_tab {a b : List Str} {k : Nat} (h : k < a.length + 1) : itemB (tab a b) (.int k) = some (R (DI a b k) (b.length + 1)) := tab_at h
theorem itemB_tabE {a b : List Str} : itemB (tab a b) (.int (-1)) = some (R (DI a b a.length) (b.length + 1)) := by
  show L2.atI (tabL a b (a.length + 1)) (-1) = _
  rw [tab_s, atI_last]
theorem itemB_RE {f : Nat → Int} {n : Nat} : itemB (R f (n + 1)) (.int (-1)) = some (.int (f n)) := by
  show L2.atI (rw_ f (n + 1)) (-1) = _
  rw [rw_s, atI_last]
theorem shows_no {CA : Str → Addr} {A Z T c : D} (sA : scal A = false) (sZ : scal Z = false) (sc : scal c = false) (cA : φ_check_page [A] = some (.ok true .non)) (cZ : φ_check_page [Z] = some (.ok true .non))
    (h : φ__leads [c, A, Z] = some (.ok true (.bl false))) : φ_Made_shows CA [.ins (CA "Made") ["change", "heights"] [c, T], A, Z] = some (.ok true (.bl false)) := by
  refine phi_rt (n := 3) (g := g_Made_shows CA) ?_
  have st : startD 3 [.ins (CA "Made") ["change", "heights"] [c, T], A, Z] = [some (.d false (.ins (CA "Made") ["change", "heights"] [c, T])), some (.d false A), some (.d false Z)] := by simp [startD, sA, sZ, show scal (.ins (CA "Made") ["change", "heights"] [c, T]) = false from rfl]
  rw [st]
  unfold g_Made_shows
  refine (seqF_nx (τ' := [some (.d false (.ins (CA "Made") ["change", "heights"] [c, T])), some (.d false A), some (.d false Z)]) ?_).trans ((seqF_nx (τ' := [some (.d false (.ins (CA "Made") ["change", "heights"] [c, T])), some (.d false A), some (.d false Z)]) ?_).trans (seqF_rt ?_))
  · simp [dropF, callC, consA, vE, cellD, nilA, cA, resC]
  · simp [dropF, callC, consA, vE, cellD, nilA, cZ, resC]
  · simp [ifF, orF, mp, un1, callC, consA, fldF, vE, cellD, fld_c, nilA, h, resC, frz, boolD, retF]
theorem shows_yes {CA : Str → Addr} {A Z T c r0 r1 : D} {z : Int} (sA : scal A = false) (sZ : scal Z = false) (sc : scal c = false) (cA : φ_check_page [A] = some (.ok true .non)) (cZ : φ_check_page [Z] = some (.ok true .non))
    (h : φ__leads [c, A, Z] = some (.ok true (.bl true))) (h2 : φ__is_height_table [T, A, Z] = some (.ok true (.bl true))) (h3 : itemB T (.int 0) = some r0) (h4 : itemB r0 (.int 0) = some (.int 0)) (h5 : itemB T (.int (-1)) = some r1) (h6 : itemB r1 (.int (-1)) = some (.int z))
    (h7 : φ__lines_in [c] = some (.ok true (.int z))) (h8 : φ__are_no_steps_too_high [T, A, Z] = some (.ok true (.bl true))) : φ_Made_shows CA [.ins (CA "Made") ["change", "heights"] [c, T], A, Z] = some (.ok true (.bl true)) := by
  refine phi_rt (n := 3) (g := g_Made_shows CA) ?_
  have st : startD 3 [.ins (CA "Made") ["change", "heights"] [c, T], A, Z] = [some (.d false (.ins (CA "Made") ["change", "heights"] [c, T])), some (.d false A), some (.d false Z)] := by simp [startD, sA, sZ, show scal (.ins (CA "Made") ["change", "heights"] [c, T]) = false from rfl]
  have n0 : neD (.int 0) (.int 0) = some false := by rw [neD_int]; simp
  have nz : neD (.int z) (.int z) = some false := by rw [neD_int]; simp
  rw [st]
  unfold g_Made_shows
  refine (seqF_nx (τ' := [some (.d false (.ins (CA "Made") ["change", "heights"] [c, T])), some (.d false A), some (.d false Z)]) ?_).trans ((seqF_nx (τ' := [some (.d false (.ins (CA "Made") ["change", "heights"] [c, T])), some (.d false A), some (.d false Z)]) ?_).trans
    ((seqF_nx (τ' := [some (.d false (.ins (CA "Made") ["change", "heights"] [c, T])), some (.d false A), some (.d false Z)]) ?_).trans ((seqF_nx (τ' := [some (.d false (.ins (CA "Made") ["change", "heights"] [c, T])), some (.d false A), some (.d false Z)]) ?_).trans ?_)))
  · simp [dropF, callC, consA, vE, cellD, nilA, cA, resC]
  · simp [dropF, callC, consA, vE, cellD, nilA, cZ, resC]
  · simp [ifF, orF, mp, un1, callC, consA, fldF, vE, cellD, fld_c, fld_h, nilA, h, h2, resC, frz, boolD, nxF]
  · simp [ifF, orF, bi, fldB, vB, cellB, frz, fld_c, fld_h, mp, h3, h4, n0, un1, negD, h5, h6, callC, consA, fldF, vE, cellD, nilA, h7, resC, nz, nxF]
  · simp [retF, mp, callC, consA, fldF, vE, cellD, fld_h, nilA, h8, resC, frz]
theorem φ_sh {CA : Str → Addr} {a b d : List Str} (ha : Ln a) (hb : Ln b) (hd : Ln d) (hl : a.length ≤ 40) (hl2 : b.length ≤ 40) (hl3 : d.length ≤ 40) : φ_Made_shows CA [DM CA a b, L a, L d] = some (.ok true (.bl (decide (b = d)))) := by
  have e := φ_le ha hb hd hl2
  by_cases h : b = d
  · subst h
    rw [decide_eq_true rfl] at *
    refine shows_yes (z := DI a b a.length b.length) scal_L scal_L scal_Ch (φ_ckp ha (by omega)) (φ_ckp hb (by omega)) e φ_ih (itemB_tab (k := 0) (by omega)) (itemB_R (k := 0) (by omega)) itemB_tabE itemB_RE ?_ (φ_ns ha hb)
    rw [φ_li_, mk_ok.2]
    rfl
  · rw [decide_eq_false h] at *
    exact shows_no scal_L scal_L scal_Ch (φ_ckp ha (by omega)) (φ_ckp hd (by omega)) e
end K06
end
section
set_option Elab.async false
set_option linter.all false
set_option maxRecDepth 100000
set_option maxHeartbeats 4000000
namespace K06
open PySem Dl
/-! ### ranges -/
def rI (j : Nat) : Bool × D := (true, .int (j : Int))
theorem rng_L {m : Bool} {n : Nat} (h : n ≤ 1000) : rng1 (m, [.int (n : Int)]) = some ((List.range' 0 n).map rI) := by
  show (if in62 (n : Int) = true then some (rngItems 0 (n : Int).toNat) else none) = _
  rw [if_pos (by unfold in62; rw [Bool.and_eq_true, decide_eq_true_eq, decide_eq_true_eq]; omega)]
  unfold rngItems
  rw [List.range_eq_range']
  simp only [Int.zero_add, Int.toNat_natCast]
  rfl
theorem rI_mem {n : Nat} {p : Bool × D} (h : p ∈ (List.range' 0 n).map rI) : ∃ k, k < n ∧ p = (true, .int (k : Int)) := by
  obtain ⟨k, hk, rfl⟩ := List.mem_map.mp h
  rw [List.mem_range'_1] at hk
  exact ⟨k, by omega, rfl⟩
theorem forF_rng {f : FA} {t : TgD} {gb : FS} {τ : DS} {n : Nat} {j : Int} {o : Option Out} (h : f τ = some (true, [.int j])) (hj : (n : Int) = j) (hl : n ≤ 1000) (e : forD t gb ((List.range' 0 n).map rI) τ = o) : forF (un1 f rng1) t gb τ = o := by
  subst hj
  unfold forF un1
  rw [h, Option.bind_some, rng_L hl, Option.bind_some, e]
/-! ### the law's own fits -/
theorem FitAt.get {pg : List Str} {p : Pc} (h : FitAt pg p) : ∃ g : Nat, p.1 = g ∧ g ≤ pg.length ∧ ∀ t, t < p.2.1.length → pg[g + t]? = p.2.1[t]? := by
  obtain ⟨g, r, e1, e2⟩ := h
  refine ⟨g.length, e2, by rw [e1, List.length_append]; omega, fun t ht => ?_⟩
  rw [e1, List.getElem?_append_right (by omega), List.getElem?_append_left (by omega)]
  congr 1
  omega
theorem lb_lf1 {A T : D} {s1 s2 s5 : Option C} {m0 m4 : Bool} {n g t z : Int} {x : Str} (hz : g + t = z) (lA : lenD A = some (true, .int n)) (hn : z < n) (e1 : itemB A (.int z) = some (.str x)) (e2 : itemB T (.int t) = some (.str x)) (hx : x ∈ LL) :
    lb__law_fits_1 [some (.d m0 A), s1, s2, some (.d true (.int g)), some (.d m4 T), s5, some (.d true (.int t))] = some (.nx [some (.d m0 A), s1, s2, some (.d true (.int g)), some (.d m4 T), s5, some (.d true (.int t))]) := by
  have h' : ¬ n ≤ z := by omega
  have e3 := neD_self (okEq_str hx)
  simp [lb__law_fits_1, ifF, orF, bi, mp, vE, cellD, addC, hz, frz, vB, cellB, un1, lA, cI, ge2, h', e1, e2, e3, nxF]
theorem fr_lf1 {A T : D} {s1 s2 s5 : Option C} {m0 m4 : Bool} {n g : Int} (lA : lenD A = some (true, .int n)) : ∀ (items : List (Bool × D)) (x : Option C), (∀ p ∈ items, ∃ (t z : Int) (y : Str), p = (true, .int t) ∧ g + t = z ∧ z < n ∧ itemB A (.int z) = some (.str y) ∧ itemB T (.int t) = some (.str y) ∧ y ∈ LL) →
    ∃ x', forD tg__law_fits_1 lb__law_fits_1 items [some (.d m0 A), s1, s2, some (.d true (.int g)), some (.d m4 T), s5, x] = some (.nx [some (.d m0 A), s1, s2, some (.d true (.int g)), some (.d m4 T), s5, x'])
  | [], x, _ => ⟨x, rfl⟩
  | p :: ps, x, h => by
    obtain ⟨t, z, y, rfl, h1, h2, h3, h4, h5⟩ := h p (List.mem_cons_self ..)
    obtain ⟨x', ih⟩ := fr_lf1 (A := A) (T := T) (s1 := s1) (s2 := s2) (s5 := s5) (m0 := m0) (m4 := m4) (n := n) (g := g) lA ps (some (.d true (.int t))) fun q hq => h q (List.mem_cons_of_mem _ hq)
    exact ⟨x', by rw [forD_nx (τ1 := [some (.d m0 A), s1, s2, some (.d true (.int g)), some (.d m4 T), s5, some (.d true (.int t))]) rfl (lb_lf1 h1 lA h2 h3 h4 h5), ih]⟩
theorem lb_lf2 {pg : List Str} {c : List Pc} {k : Nat} {p : Pc} {m0 m1 : Bool} {s3 s4 s5 s6 : Option C} (hk : c[k]? = some p) (hf : FitAt pg p) (hL : Ln p.2.1) (hl : pg.length ≤ 1000) :
    ∃ s3' s4' s5' s6', lb__law_fits_2 [some (.d m0 (L pg)), some (.d m1 (Ch c)), some (.d true (.int k)), s3, s4, s5, s6] = some (.nx [some (.d m0 (L pg)), some (.d m1 (Ch c)), some (.d true (.int k)), s3', s4', s5', s6']) := by
  obtain ⟨g, e1, e2, e3⟩ := hf.get
  have hta : p.2.1.length ≤ 1000 := by
    obtain ⟨g', r, q1, _⟩ := hf
    have := congrArg List.length q1
    rw [List.length_append, List.length_append] at this
    omega
  have i1 : itemC (some (some (.d m1 (Ch c)))) (.int k) = some (m1, Pi p) := by
    show (L2.atI (c.map Pi) (k : Int)).map _ = _
    rw [atI_nat (by rw [List.length_map]; exact lt_of_some hk), List.getElem?_map, hk]
    cases m1 <;> rfl
  obtain ⟨x', e⟩ := fr_lf1 (A := L pg) (T := L p.2.1) (s1 := some (.d m1 (Ch c))) (s2 := some (.d true (.int k))) (s5 := some (.d m1 (L p.2.2))) (m0 := m0) (m4 := m1) (n := pg.length) (g := p.1) lenD_L ((List.range' 0 p.2.1.length).map rI) s6 fun q hq => by
    obtain ⟨t, ht, rfl⟩ := rI_mem hq
    have h1 := e3 t ht
    rw [List.getElem?_eq_getElem ht] at h1
    have h2 := lt_of_some h1
    refine ⟨(t : Int), ((g + t : Nat) : Int), p.2.1[t], rfl, by rw [e1]; omega, by omega, itemB_L h1, itemB_L (List.getElem?_eq_getElem ht), hL _ (List.getElem_mem _)⟩
  refine ⟨some (.d true (.int p.1)), some (.d m1 (L p.2.1)), some (.d m1 (L p.2.2)), x', ?_⟩
  unfold lb__law_fits_2
  refine (seqF_nx (τ' := [some (.d m0 (L pg)), some (.d m1 (Ch c)), some (.d true (.int k)), some (.d true (.int p.1)), some (.d m1 (L p.2.1)), some (.d m1 (L p.2.2)), s6]) ?_).trans ((seqF_nx (forF_rng (by simp [consA, un1, vB, cellB, frz, lenD_L, nilA]) rfl hta e)).trans ?_)
  · simp [unpF, xvE, vE, cellD, i1, unp3]
  · have h' : ¬ (pg.length : Int) < p.1 := by omega
    simp [ifF, bi, vB, cellB, frz, mp, un1, lenD_L, cI, gt2, h', nxF]
theorem fr_lf2 {pg : List Str} {c : List Pc} {m0 m1 : Bool} (hl : pg.length ≤ 1000) (hf : ∀ p ∈ c, FitAt pg p ∧ Ln p.2.1) : ∀ (items : List (Bool × D)) (s2 s3 s4 s5 s6 : Option C), (∀ p ∈ items, ∃ k, k < c.length ∧ p = (true, .int (k : Int))) →
    ∃ s2' s3' s4' s5' s6', forD tg__law_fits_2 lb__law_fits_2 items [some (.d m0 (L pg)), some (.d m1 (Ch c)), s2, s3, s4, s5, s6] = some (.nx [some (.d m0 (L pg)), some (.d m1 (Ch c)), s2', s3', s4', s5', s6'])
  | [], s2, s3, s4, s5, s6, _ => ⟨s2, s3, s4, s5, s6, rfl⟩
  | p :: ps, s2, s3, s4, s5, s6, h => by
    obtain ⟨k, hk, rfl⟩ := h p (List.mem_cons_self ..)
    have hp := hf c[k] (List.getElem_mem _)
    obtain ⟨t3, t4, t5, t6, lb⟩ := lb_lf2 (c := c) (k := k) (m0 := m0) (m1 := m1) (s3 := s3) (s4 := s4) (s5 := s5) (s6 := s6) (List.getElem?_eq_getElem hk) hp.1 hp.2 hl
    obtain ⟨s2', s3', s4', s5', s6', ih⟩ := fr_lf2 (m0 := m0) (m1 := m1) hl hf ps (some (.d true (.int k))) t3 t4 t5 t6 fun q hq => h q (List.mem_cons_of_mem _ hq)
    exact ⟨s2', s3', s4', s5', s6', by rw [forD_nx (τ1 := [some (.d m0 (L pg)), some (.d m1 (Ch c)), some (.d true (.int k)), s3, s4, s5, s6]) rfl lb, ih]⟩
theorem φ_lf {pg : List Str} {c : List Pc} (hl : pg.length ≤ 1000) (hc : c.length ≤ 1000) (hf : ∀ p ∈ c, FitAt pg p ∧ Ln p.2.1) : φ__law_fits [L pg, Ch c] = some (.ok true .non) := by
  obtain ⟨s2', s3', s4', s5', s6', e⟩ := fr_lf2 (m0 := false) (m1 := false) hl hf ((List.range' 0 c.length).map rI) none none none none none fun p hp => rI_mem hp
  refine phi_rt (n := 7) (g := g__law_fits) ?_
  have st : startD 7 [L pg, Ch c] = [some (.d false (L pg)), some (.d false (Ch c)), none, none, none, none, none] := rfl
  rw [st]
  unfold g__law_fits
  refine (seqF_nx (forF_rng (by simp [consA, un1, vB, cellB, frz, lenD_Ch, nilA]) rfl hc e)).trans rfl
/-! ### whole numbers -/
theorem lcD_mapX {α : Type} {vs : List Nat} {t : TgD} {c : FT} {e : FE} {τ : DS} {m : Bool} {g f : α → D} : ∀ (xs : List α), (∀ x ∈ xs, ∃ τ1, t (m || scal (g x), g x) (wD τ vs) = some τ1 ∧ c τ1 = some true ∧ e τ1 = some (true, f x)) → lcD vs t c e τ (flag m (xs.map g)) = some (true, xs.map f)
  | [], _ => rfl
  | x :: xs, h => by
    obtain ⟨τ1, h1, h2, h3⟩ := h x (List.mem_cons_self ..)
    rw [List.map_cons, flag_cons, lcD, h1, Option.bind_some, h2, Option.bind_some, if_pos rfl, h3, Option.bind_some, lcD_mapX xs fun q hq => h q (List.mem_cons_of_mem _ hq)]
    rfl
theorem allB_t {α : Type} : ∀ (xs : List α), allB (fun bs => bs.all id) (.lst (xs.map fun _ => D.bl true)) = some (true, .bl true) := fun xs => by
  have : ∃ bs, unbl (xs.map fun _ => D.bl true) = some bs ∧ bs.all id = true := by
    induction xs with
    | nil => exact ⟨[], rfl, rfl⟩
    | cons x r ih =>
      obtain ⟨bs, h1, h2⟩ := ih
      refine ⟨true :: bs, ?_, by rw [List.all_cons, h2]; rfl⟩
      show (unbl (r.map fun _ => D.bl true)).map (true :: ·) = _
      rw [h1]
      rfl
  obtain ⟨bs, h1, h2⟩ := this
  show (unbl _).map _ = _
  rw [h1, Option.map_some]
  show some (true, D.bl (bs.all id)) = _
  rw [h2]
theorem el_w {s0 s1 : Option C} {m : Bool} {i : Int} : el__law_whole_1 [s0, s1, some (.d m (.int i))] = some (true, .bl true) := by
  simp [el__law_whole_1, andE, un1, vB, cellB, frz, isiE, isi_int, mp, isi_boolI, notD]
theorem lb_w {s0 s2 : Option C} {m : Bool} {f : Nat → Int} {n : Nat} (hn : n ≤ 1000) : lb__law_whole_1 [s0, some (.d m (R f n)), s2] = some (.nx [s0, some (.d m (R f n)), s2]) := by
  have e : lcD [2] tg__law_whole_1 (fun _ => some true) el__law_whole_1 [s0, some (.d m (R f n)), s2] (flag m (rw_ f n)) = some (true, (List.range n).map fun _ => D.bl true) := lcD_mapX (g := fun j => D.int (f j)) _ fun j _ => ⟨[s0, some (.d m (R f n)), some (.d true (.int (f j)))], by simp [tg__law_whole_1, nameT, scal_int, wD], rfl, el_w⟩
  have a := allB_t (List.range n)
  have i1 : isi .list (R f n) = some true := rfl
  have it : itemsE (m, R f n) = some (flag m (rw_ f n)) := rfl
  have hl : (flag m (rw_ f n)).length ≤ lim := by unfold flag; rw [List.length_map, rw_len]; show _ ≤ 16777216; omega
  simp [lb__law_whole_1, ifF, orF, mp, un1, vB, cellB, frz, isiE, i1, boolD, lcF, vE, cellD, it, hl, e, a, nxF]
theorem fr_w {s0 : Option C} {m : Bool} {a b : List Str} (hb : b.length < 1000) : ∀ (items : List (Bool × D)) (s1 s2 : Option C), (∀ p ∈ items, ∃ i, p = (m, R (DI a b i) (b.length + 1))) → ∃ s1', forD tg__law_whole_2 lb__law_whole_1 items [s0, s1, s2] = some (.nx [s0, s1', s2])
  | [], s1, s2, _ => ⟨s1, rfl⟩
  | p :: ps, s1, s2, h => by
    obtain ⟨i, rfl⟩ := h p (List.mem_cons_self ..)
    obtain ⟨s1', ih⟩ := fr_w (s0 := s0) (m := m) (a := a) hb ps (some (.d m (R (DI a b i) (b.length + 1)))) s2 fun q hq => h q (List.mem_cons_of_mem _ hq)
    exact ⟨s1', by rw [forD_nx (τ1 := [s0, some (.d m (R (DI a b i) (b.length + 1))), s2]) rfl (lb_w (by omega)), ih]⟩
theorem φ_w {a b : List Str} (hb : b.length < 1000) : φ__law_whole [tab a b] = some (.ok true (.bl true)) := by
  obtain ⟨s1', e⟩ := fr_w (s0 := some (.d false (tab a b))) (m := false) (a := a) hb (flag false (tabL a b (a.length + 1))) none none fun p hp => by
    obtain ⟨d, hd, rfl⟩ := flag_mem hp
    obtain ⟨i, _, rfl⟩ := tab_mem hd
    exact ⟨i, rfl⟩
  refine phi_rt (n := 3) (g := g__law_whole) ?_
  have st : startD 3 [tab a b] = [some (.d false (tab a b)), none, none] := rfl
  have it : itemsE (false, tab a b) = some (flag false (tabL a b (a.length + 1))) := rfl
  have i1 : isi .list (tab a b) = some true := rfl
  rw [st]
  unfold g__law_whole
  refine (seqF_nx (τ' := _) (by
    unfold forF
    rw [un1_of (x := (false, tab a b)) rfl it]
    exact e)).trans ?_
  simp [retF, un1, vB, cellB, frz, isiE, i1]
/-! ### the law's look at the heights -/
theorem hr_b {A B T r r' : D} {s2 s6 s7 s8 s9 : Option C} {m0 m1 m3 e : Bool} {I J i j z u v w : Int} {x y : Str} (hi : I - 1 = i) (hj : J - 1 = j) (f0 : itemB T (.int I) = some r) (f1 : itemB r (.int J) = some (.int z)) (g0 : itemC (some (some (.d m3 T))) (.int I) = some (m3, r))
    (c1 : 0 < I → itemC (some (some (.d m3 T))) (.int i) = some (m3, r') ∧ itemE (m3, r') (.int J) = some (true, .int u) ∧ z ≤ u + 1) (c2 : 0 < J → itemE (m3, r) (.int j) = some (true, .int v) ∧ z ≤ v + 1)
    (c3 : 0 < I → 0 < J → itemB A (.int i) = some (.str x) ∧ itemB B (.int j) = some (.str y) ∧ eqD (.str x) (.str y) = some e ∧ itemB T (.int i) = some r' ∧ itemB r' (.int j) = some (.int w) ∧ (e = true → z ≤ w)) :
    lb__law_heights_right_1 [some (.d m0 A), some (.d m1 B), s2, some (.d m3 T), some (.d true (.int I)), some (.d true (.int J)), s6, s7, s8, s9] = some (.nx [some (.d m0 A), some (.d m1 B), s2, some (.d m3 T), some (.d true (.int I)), some (.d true (.int J)), s6, s7, s8, s9]) := by
  unfold lb__law_heights_right_1
  refine (seqF_nx (τ' := [some (.d m0 A), some (.d m1 B), s2, some (.d m3 T), some (.d true (.int I)), some (.d true (.int J)), s6, s7, s8, s9]) ?_).trans ?_
  · by_cases h : 0 < I
    · obtain ⟨k1, k2, k3⟩ := c1 h
      have k3 : ¬ u + 1 < z := by omega
      by_cases h2 : 0 < J
      · obtain ⟨l1, l2⟩ := c2 h2
        have l2 : ¬ v + 1 < z := by omega
        simp [ifF, orF, andF, bi, vB, cellB, frz, mp, cI, gt2, h, h2, f0, f1, xvE, subF, oI, yes2, hi, hj, k1, k2, vE, cellD, addC, k3, g0, l1, l2, nxF]
      · simp [ifF, orF, andF, bi, vB, cellB, frz, mp, cI, gt2, h, h2, f0, f1, xvE, subF, oI, yes2, hi, hj, k1, k2, vE, cellD, addC, k3, nxF]
    · by_cases h2 : 0 < J
      · obtain ⟨l1, l2⟩ := c2 h2
        have l2 : ¬ v + 1 < z := by omega
        simp [ifF, orF, andF, bi, vB, cellB, frz, mp, cI, gt2, h, h2, f0, f1, xvE, subF, oI, yes2, hi, hj, vE, cellD, addC, g0, l1, l2, nxF]
      · simp [ifF, orF, andF, bi, vB, cellB, frz, mp, cI, gt2, h, h2, nxF]
  · by_cases h : 0 < I
    · by_cases h2 : 0 < J
      · obtain ⟨k1, k2, k3, k4, k5, k6⟩ := c3 h h2
        cases e with
        | false => simp [ifF, andF, bi, vB, cellB, frz, mp, cI, gt2, h, h2, subF, oI, yes2, hi, hj, k1, k2, k3, nxF]
        | true =>
          have k6 : ¬ w < z := by have := k6 rfl; omega
          simp [ifF, andF, bi, vB, cellB, frz, mp, cI, gt2, h, h2, subF, oI, yes2, hi, hj, k1, k2, k3, f0, f1, k4, k5, k6, nxF]
      · simp [ifF, andF, bi, vB, cellB, frz, mp, cI, gt2, h, h2, nxF]
    · simp [ifF, andF, bi, vB, cellB, frz, mp, cI, gt2, h, nxF]
theorem hr_ij {a b : List Str} {s2 s6 s7 s8 s9 : Option C} {m0 m1 m3 : Bool} {i j : Nat} (ha : Ln a) (hb : Ln b) (hi : i < a.length + 1) (hj : j < b.length + 1) :
    lb__law_heights_right_1 [some (.d m0 (L a)), some (.d m1 (L b)), s2, some (.d m3 (tab a b)), some (.d true (.int i)), some (.d true (.int j)), s6, s7, s8, s9] = some (.nx [some (.d m0 (L a)), some (.d m1 (L b)), s2, some (.d m3 (tab a b)), some (.d true (.int i)), some (.d true (.int j)), s6, s7, s8, s9]) := by
  have lo : ∀ n : Nat, ((n + 1 : Nat) : Int) - 1 = (n : Int) := fun n => by omega
  refine hr_b (r := R (DI a b i) (b.length + 1)) (r' := R (DI a b (i - 1)) (b.length + 1)) (z := DI a b i j) (u := DI a b (i - 1) j) (v := DI a b i (j - 1)) (w := DI a b (i - 1) (j - 1)) (x := (a[i - 1]?).getD "") (y := (b[j - 1]?).getD "") (e := decide (a[i - 1]? = b[j - 1]?)) rfl rfl (itemB_tab hi) (itemB_R hj) (itemC_tab hi) (fun h => ?_) (fun h => ?_) fun h h2 => ?_
  · obtain ⟨i, rfl⟩ : ∃ k, i = k + 1 := ⟨i - 1, by omega⟩
    rw [lo, Nat.add_sub_cancel]
    exact ⟨itemC_tab (by omega), itemE_R hj, by unfold DI; have := (Dm_lip2 (a := a) (b := b) i j).1; omega⟩
  · obtain ⟨j, rfl⟩ : ∃ k, j = k + 1 := ⟨j - 1, by omega⟩
    rw [lo, Nat.add_sub_cancel]
    exact ⟨itemE_R (by omega), by unfold DI; have := (Dm_lip (a := a) (b := b) i j).1; omega⟩
  · obtain ⟨i, rfl⟩ : ∃ k, i = k + 1 := ⟨i - 1, by omega⟩
    obtain ⟨j, rfl⟩ : ∃ k, j = k + 1 := ⟨j - 1, by omega⟩
    rw [lo, lo, Nat.add_sub_cancel, Nat.add_sub_cancel]
    have ga := List.getElem?_eq_getElem (show i < a.length by omega)
    have gb := List.getElem?_eq_getElem (show j < b.length by omega)
    refine ⟨by rw [ga]; exact itemB_L ga, by rw [gb]; exact itemB_L gb, ?_, itemB_tab (by omega), itemB_R (by omega), fun h => ?_⟩
    · rw [ga, gb]
      show eqD (.str a[i]) (.str b[j]) = _
      rw [eqD_str (ha _ (List.getElem_mem _)) (hb _ (List.getElem_mem _))]
      congr 1
      rw [Bool.eq_iff_iff]
      simp
    · unfold DI
      rw [Dm_eq (of_decide_eq_true h)]
      omega
theorem fr_hj {a b : List Str} {s2 s6 s7 s8 s9 : Option C} {m0 m1 m3 : Bool} {i : Nat} (ha : Ln a) (hb : Ln b) (hi : i < a.length + 1) : ∀ (items : List (Bool × D)) (s5 : Option C), (∀ p ∈ items, ∃ j, j < b.length + 1 ∧ p = (true, .int (j : Int))) →
    ∃ s5', forD tg__law_heights_right_2 lb__law_heights_right_1 items [some (.d m0 (L a)), some (.d m1 (L b)), s2, some (.d m3 (tab a b)), some (.d true (.int i)), s5, s6, s7, s8, s9] = some (.nx [some (.d m0 (L a)), some (.d m1 (L b)), s2, some (.d m3 (tab a b)), some (.d true (.int i)), s5', s6, s7, s8, s9])
  | [], s5, _ => ⟨s5, rfl⟩
  | p :: ps, s5, h => by
    obtain ⟨j, hj, rfl⟩ := h p (List.mem_cons_self ..)
    obtain ⟨s5', ih⟩ := fr_hj (s2 := s2) (s6 := s6) (s7 := s7) (s8 := s8) (s9 := s9) (m0 := m0) (m1 := m1) (m3 := m3) ha hb hi ps (some (.d true (.int j))) fun q hq => h q (List.mem_cons_of_mem _ hq)
    exact ⟨s5', by rw [forD_nx (τ1 := [some (.d m0 (L a)), some (.d m1 (L b)), s2, some (.d m3 (tab a b)), some (.d true (.int i)), some (.d true (.int j)), s6, s7, s8, s9]) rfl (hr_ij ha hb hi hj), ih]⟩
theorem ra_1 {τ : DS} {t : TgD} {gb : FS} {o : Option Out} {Z : D} {z : Int} {n k : Nat} (h : vB k τ = some Z) (lz : lenD Z = some (true, .int z)) (hz : ((n + 1 : Nat) : Int) = z + 1) (hl : n < 1000) (e : forD t gb ((List.range' 0 (n + 1)).map rI) τ = o) : forF (un1 (consA (mp (bi (un1 (vB k) lenD) (fun _ => some (true, D.int 1)) addC) frz) nilA) rng1) t gb τ = o := by
  have e2 : un1 (vB k) lenD τ = some (true, .int z) := un1_of h lz
  refine forF_rng (j := z + 1) ?_ hz (by omega) e
  simp [consA, mp, bi, e2, addC, frz, nilA]
theorem fr_hi {a b : List Str} {s2 s6 s7 s8 s9 : Option C} {m0 m1 m3 : Bool} (ha : Ln a) (hb : Ln b) (hl : b.length < 1000) : ∀ (items : List (Bool × D)) (s4 s5 : Option C), (∀ p ∈ items, ∃ i, i < a.length + 1 ∧ p = (true, .int (i : Int))) →
    ∃ s4' s5', forD tg__law_heights_right_3 lb__law_heights_right_2 items [some (.d m0 (L a)), some (.d m1 (L b)), s2, some (.d m3 (tab a b)), s4, s5, s6, s7, s8, s9] = some (.nx [some (.d m0 (L a)), some (.d m1 (L b)), s2, some (.d m3 (tab a b)), s4', s5', s6, s7, s8, s9])
  | [], s4, s5, _ => ⟨s4, s5, rfl⟩
  | p :: ps, s4, s5, h => by
    obtain ⟨i, hi, rfl⟩ := h p (List.mem_cons_self ..)
    obtain ⟨t5, e⟩ := fr_hj (s2 := s2) (s6 := s6) (s7 := s7) (s8 := s8) (s9 := s9) (m0 := m0) (m1 := m1) (m3 := m3) ha hb hi ((List.range' 0 (b.length + 1)).map rI) s5 fun q hq => rI_mem hq
    obtain ⟨s4', s5', ih⟩ := fr_hi (s2 := s2) (s6 := s6) (s7 := s7) (s8 := s8) (s9 := s9) (m0 := m0) (m1 := m1) (m3 := m3) ha hb hl ps (some (.d true (.int i))) t5 fun q hq => h q (List.mem_cons_of_mem _ hq)
    refine ⟨s4', s5', ?_⟩
    rw [forD_nx (τ1 := [some (.d m0 (L a)), some (.d m1 (L b)), s2, some (.d m3 (tab a b)), some (.d true (.int i)), s5, s6, s7, s8, s9]) (τ2 := [some (.d m0 (L a)), some (.d m1 (L b)), s2, some (.d m3 (tab a b)), some (.d true (.int i)), t5, s6, s7, s8, s9]) rfl ?_, ih]
    unfold lb__law_heights_right_2
    exact ra_1 (Z := L b) rfl lenD_L (Int.natCast_succ _) hl e
theorem sumL_ok : ∀ (c : List Pc), unint (c.map fun p => D.int ((p.2.1.length : Int) + (p.2.2.length : Int))) = some (c.map fun p => (p.2.1.length : Int) + (p.2.2.length : Int))
  | [] => rfl
  | p :: c => by
    show (unint (c.map fun p => D.int ((p.2.1.length : Int) + (p.2.2.length : Int)))).map (((p.2.1.length : Int) + (p.2.2.length : Int)) :: ·) = _
    rw [sumL_ok c]
    rfl
theorem sum_sz : ∀ (c : List Pc), (c.map fun p => (p.2.1.length : Int) + (p.2.2.length : Int)).sum = (sz c : Nat)
  | [] => rfl
  | p :: c => by
    have := sum_sz c
    simp only [sz, List.map_cons, List.sum_cons] at this ⊢
    omega
theorem sumL_c (c : List Pc) : sumL (.lst (c.map fun p => D.int ((p.2.1.length : Int) + (p.2.2.length : Int)))) = some (true, .int (sz c : Nat)) := by
  show (unint _).map _ = _
  rw [sumL_ok, Option.map_some, sum_sz]
theorem hr_g1 {τ : DS} {A B T r0 : D} {n m : Int} {fs : List (Bool × D)} {bs : List D} (q0 : vB 0 τ = some A) (q1 : vB 1 τ = some B) (q3 : vB 3 τ = some T) (q3' : vE 3 τ = some (false, T)) (l0 : lenD A = some (true, .int n)) (l3 : lenD T = some (true, .int (n + 1))) (it : itemsE (false, T) = some fs) (hf : fs.length ≤ lim)
    (e : lcD [9] tg__law_heights_right_1 (fun _ => some true) el__law_heights_right_1 τ fs = some (true, bs)) (a : allB (fun bs => bs.all id) (.lst bs) = some (true, .bl true)) (h3 : itemB T (.int 0) = some r0) (h4 : itemB r0 (.int 0) = some (.int 0)) :
    ifF (orF (bi (mp (un1 (vB 3) lenD) (·.2)) (mp (mp (bi (un1 (vB 0) lenD) (fun _ => some (true, D.int 1)) addC) frz) (·.2)) neD) (orF (mp (un1 (mp (un1 (mp (mp (lcF (un1 (vE 3) itemsE) ([("_law_row", 9)].map (·.2)) tg__law_heights_right_1 (fun _ => some true) el__law_heights_right_1) frz) (·.2)) (allB fun bs => bs.all id)) (·.2)) boolD) (!·)) (bi (bi (bi (vB 3) (mp (fun _ => some (true, D.int 0)) (·.2)) itemB) (mp (fun _ => some (true, D.int 0)) (·.2)) itemB) (mp (fun _ => some (true, D.int 0)) (·.2)) neD))) (retF (fun _ => some (true, D.bl false))) nxF τ = some (.nx τ) := by
  have n0 : neD (.int 0) (.int 0) = some false := by rw [neD_int]; simp
  have nz : neD (.int (n + 1)) (.int (n + 1)) = some false := by rw [neD_int]; simp
  simp [ifF, orF, bi, mp, un1, q3, q0, l0, l3, addC, frz, nz, lcF, q3', it, hf, e, a, boolD, h3, h4, n0, nxF]
theorem hr_g3 {τ : DS} {T r1 : D} {z : Int} {fs : List (Bool × D)} {bs : List D} {Cc : D} (q2 : vE 2 τ = some (false, Cc)) (q3 : vB 3 τ = some T) (h5 : itemB T (.int (-1)) = some r1) (h6 : itemB r1 (.int (-1)) = some (.int z)) (it : itemsE (false, Cc) = some fs) (hf : fs.length ≤ lim)
    (e : lcD [6, 7, 8] tg__law_heights_right_4 (fun _ => some true) el__law_heights_right_2 τ fs = some (true, bs)) (s : sumL (.lst bs) = some (true, .int z)) :
    retF (blE (bi (bi (bi (vB 3) (mp (un1 (mp (fun _ => some (true, D.int 1)) (·.2)) negD) (·.2)) itemB) (mp (un1 (mp (fun _ => some (true, D.int 1)) (·.2)) negD) (·.2)) itemB) (mp (un1 (mp (mp (lcF (un1 (vE 2) itemsE) ([("_law_place", 6), ("_law_taken", 7), ("_law_put", 8)].map (·.2)) tg__law_heights_right_4 (fun _ => some true) el__law_heights_right_2) frz) (·.2)) sumL) (·.2)) eqD)) τ = some (.rt true (.bl true)) := by
  have n0 : eqD (.int z) (.int z) = some true := by rw [eqD_int]; simp
  simp [retF, blE, bi, mp, un1, q3, negD, h5, h6, lcF, q2, it, hf, e, frz, s, n0]
theorem φ_hr {a b : List Str} (ha : Ln a) (hb : Ln b) (hl : a.length < 1000) (hl2 : b.length < 1000) : φ__law_heights_right [L a, L b, Ch (mk a b), tab a b] = some (.ok true (.bl true)) := by
  have st : startD 10 [L a, L b, Ch (mk a b), tab a b] = [some (.d false (L a)), some (.d false (L b)), some (.d false (Ch (mk a b))), some (.d false (tab a b)), none, none, none, none, none, none] := rfl
  have e1 : lcD [9] tg__law_heights_right_1 (fun _ => some true) el__law_heights_right_1 [some (.d false (L a)), some (.d false (L b)), some (.d false (Ch (mk a b))), some (.d false (tab a b)), none, none, none, none, none, none] (flag false (tabL a b (a.length + 1))) = some (true, (List.range (a.length + 1)).map fun _ => D.bl true) := lcD_mapX (g := fun i => R (DI a b i) (b.length + 1)) _ fun i _ => by
    refine ⟨[some (.d false (L a)), some (.d false (L b)), some (.d false (Ch (mk a b))), some (.d false (tab a b)), none, none, none, none, none, some (.d false (R (DI a b i) (b.length + 1)))], rfl, rfl, ?_⟩
    have l1 := lenD_R' (f := DI a b i) (n := b.length)
    have l2 := lenD_L (i := b)
    generalize (b.length : Int) = N at l1 l2
    have q : eqD (.int (N + 1)) (.int (N + 1)) = some true := by rw [eqD_int]; simp
    simp [el__law_heights_right_1, blE, bi, mp, un1, vB, cellB, frz, l1, l2, addC, q]
  obtain ⟨s4', s5', e2⟩ := fr_hi (s2 := some (.d false (Ch (mk a b)))) (s6 := none) (s7 := none) (s8 := none) (s9 := none) (m0 := false) (m1 := false) (m3 := false) ha hb hl2 ((List.range' 0 (a.length + 1)).map rI) none none fun p hp => rI_mem hp
  have e3 : lcD [6, 7, 8] tg__law_heights_right_4 (fun _ => some true) el__law_heights_right_2 [some (.d false (L a)), some (.d false (L b)), some (.d false (Ch (mk a b))), some (.d false (tab a b)), s4', s5', none, none, none, none] (flag false ((mk a b).map Pi)) = some (true, (mk a b).map fun p => D.int ((p.2.1.length : Int) + (p.2.2.length : Int))) := lcD_mapX (g := Pi) _ fun p _ => by
    refine ⟨[some (.d false (L a)), some (.d false (L b)), some (.d false (Ch (mk a b))), some (.d false (tab a b)), s4', s5', some (.d true (.int p.1)), some (.d false (L p.2.1)), some (.d false (L p.2.2)), none], ?_, rfl, ?_⟩
    · simp [tg__law_heights_right_4, tupT, consT, nameT, nilT, Pi, flag_cons, flag_nil, scal_int, scal_L, scal_tup, wD]
    · simp [el__law_heights_right_2, mp, bi, un1, vB, cellB, frz, lenD_L, addC]
  have hct := mk_ct (a := a) (b := b)
  have sm := sumL_c (mk a b)
  rw [mk_ok.2] at sm
  refine phi_rt (n := 10) (g := g__law_heights_right) ?_
  rw [st]
  unfold g__law_heights_right
  refine (seqF_nx (hr_g1 (A := L a) (B := L b) (T := tab a b) (n := a.length) (m := 0) rfl rfl rfl rfl lenD_L lenD_tab rfl (by unfold flag; rw [List.length_map, tab_len]; show _ ≤ 16777216; omega) e1 (allB_t _) (itemB_tab (k := 0) (by omega)) (itemB_R (k := 0) (by omega)))).trans ((seqF_nx (ra_1 (Z := L a) rfl lenD_L (Int.natCast_succ _) hl e2)).trans (hr_g3 (Cc := Ch (mk a b)) (T := tab a b) rfl rfl itemB_tabE itemB_RE rfl (by unfold flag; rw [List.length_map, List.length_map]; show _ ≤ 16777216; omega) e3 sm))
/-! ### the law's own fewest -/
structure Rc (c : C) (f : Nat → Int) (n : Nat) : Prop where
  get : ∀ k, k < n + 1 → itemC (some (some c)) (.int (k : Nat)) = some (true, .int (f k))
  last : itemC (some (some c)) (.int (-1)) = some (true, .int (f n))
theorem Rc_own {f : Nat → Int} {n : Nat} : Rc (.own true (rw_ f (n + 1))) f n := ⟨fun k h => itemC_own h, by
  show (L2.atI (rw_ f (n + 1)) (-1)).map _ = _
  rw [rw_s, atI_last]
  rfl⟩
theorem Rc_d {m : Bool} {f : Nat → Int} {n : Nat} : Rc (.d m (R f (n + 1))) f n := ⟨fun k h => itemC_R h, by
  show (L2.atI (rw_ f (n + 1)) (-1)).map (fun d => (m || scal d, d)) = _
  rw [rw_s, atI_last]
  show some (m || true, _) = _
  rw [Bool.or_true]⟩
theorem lb_fw {B : D} {c2 : C} {s0 s6 : Option C} {m1 m3 e : Bool} {g : Nat → Int} {k : Nat} {K1 f0 f1 q z : Int} {x y : Str} (hk1 : (k : Int) + 1 = K1) (i1 : itemC (some (some c2)) (.int K1) = some (true, .int f1)) (i0 : itemC (some (some c2)) (.int k) = some (true, .int f0))
    (ib : itemB B (.int k) = some (.str y)) (he : eqD (.str y) (.str x) = some e) (hq : (if g k < f1 then g k else f1) + 1 = q) (hz : (if e = true then (if f0 < q then f0 else q) else q) = z) (hg : g (k + 1) = z) (hl : k < 1000) :
    lb__law_fewest_1 [s0, some (.d m1 B), some c2, some (.d m3 (.str x)), some (.own true (rw_ g (k + 1))), some (.d true (.int k)), s6] = some (.nx [s0, some (.d m1 B), some c2, some (.d m3 (.str x)), some (.own true (rw_ g (k + 2))), some (.d true (.int k)), some (.d true (.int q))]) := by
  have i2 : itemC (some (some (.own true (rw_ g (k + 1))))) (.int k) = some (true, .int (g k)) := itemC_own (by omega)
  have hl2 : k + 1 < 16777216 := by omega
  have e2 : rw_ g (k + 2) = rw_ g (k + 1) ++ [.int z] := by rw [rw_s, hg]
  rw [e2]
  unfold lb__law_fewest_1
  refine (seqF_nx (τ' := [s0, some (.d m1 B), some c2, some (.d m3 (.str x)), some (.own true (rw_ g (k + 1))), some (.d true (.int k)), some (.d true (.int q))]) ?_).trans ?_
  · simp [setF, bi, un1, consA, xvE, mp, vE, cellD, addC, frz, hk1, i1, i2, nilA, minD, hq]
  · cases e with
    | true =>
      rw [if_pos rfl] at hz
      simp [fzF, fzs, fz, ownF, consA, ifF, bi, vB, cellB, frz, ib, he, un1, vE, cellD, xvE, i0, nilA, minD, hz, appOp, rw_len, hl2, lim]
    | false =>
      rw [if_neg (by decide)] at hz
      simp [fzF, fzs, fz, ownF, consA, ifF, bi, vB, cellB, frz, ib, he, vE, cellD, nilA, hz, appOp, rw_len, hl2, lim]
theorem fr_fw {a b : List Str} {c2 : C} {s0 : Option C} {m1 m3 : Bool} {i : Nat} {x : Str} (hb : Ln b) (hl : b.length < 1000) (hx : x ∈ LL) (hi : a[i]? = some x) (hc : Rc c2 (DI a b i) b.length) : ∀ (n k : Nat) (s5 s6 : Option C), k + n = b.length →
    ∃ s5' s6', forD tg__law_fewest_1 lb__law_fewest_1 ((List.range' k n).map rI) [s0, some (.d m1 (L b)), some c2, some (.d m3 (.str x)), some (.own true (rw_ (DI a b (i + 1)) (k + 1))), s5, s6] = some (.nx [s0, some (.d m1 (L b)), some c2, some (.d m3 (.str x)), some (.own true (rw_ (DI a b (i + 1)) (b.length + 1))), s5', s6'])
  | 0, k, s5, s6, h => ⟨s5, s6, by rw [Nat.add_zero] at h; rw [h]; rfl⟩
  | n + 1, k, s5, s6, h => by
    have hk : k < b.length := by omega
    have gb := List.getElem?_eq_getElem hk
    have st := DI_stp (a := a) (b := b) hi gb
    have key : (if decide (b[k] = x) = true then (if DI a b i k < (if DI a b (i + 1) k < DI a b i (k + 1) then DI a b (i + 1) k else DI a b i (k + 1)) + 1 then DI a b i k else (if DI a b (i + 1) k < DI a b i (k + 1) then DI a b (i + 1) k else DI a b i (k + 1)) + 1) else (if DI a b (i + 1) k < DI a b i (k + 1) then DI a b (i + 1) k else DI a b i (k + 1)) + 1) = DI a b (i + 1) (k + 1) := by
      rw [st]
      unfold stp
      have l1 := (Dm_lip (a := a) (b := b) i k).2
      have l2 := (Dm_lip2 (a := a) (b := b) i k).2
      by_cases hc : b[k] = x
      · rw [decide_eq_true hc, if_pos rfl, if_pos hc.symm]
        unfold DI
        split <;> split <;> omega
      · rw [decide_eq_false hc, if_neg (by decide), if_neg (show ¬ x = b[k] from fun z => hc z.symm)]
    obtain ⟨s5', s6', ih⟩ := fr_fw (c2 := c2) (s0 := s0) (m1 := m1) (m3 := m3) hb hl hx hi hc n (k + 1) (some (.d true (.int k))) (some (.d true (.int ((if DI a b (i + 1) k < DI a b i (k + 1) then DI a b (i + 1) k else DI a b i (k + 1)) + 1)))) (by omega)
    refine ⟨s5', s6', ?_⟩
    have lb := lb_fw (B := L b) (c2 := c2) (s0 := s0) (s6 := s6) (m1 := m1) (m3 := m3) (g := DI a b (i + 1)) (k := k) (x := x) rfl (hc.get (k + 1) (by omega)) (hc.get k (by omega)) (itemB_L gb) (eqD_str (hb _ (List.getElem_mem _)) hx) rfl key rfl (by omega)
    rw [List.range'_succ, List.map_cons, forD_nx (τ1 := [s0, some (.d m1 (L b)), some c2, some (.d m3 (.str x)), some (.own true (rw_ (DI a b (i + 1)) (k + 1))), some (.d true (.int k)), s6]) rfl lb]
    exact ih
theorem lb_fo {a b : List Str} {c2 : C} {s0 s4 s5 s6 : Option C} {m1 m3 : Bool} {i : Nat} {x : Str} (hb : Ln b) (hl : b.length < 1000) (hx : x ∈ LL) (hi : a[i]? = some x) (hc : Rc c2 (DI a b i) b.length) :
    ∃ s4' s5' s6', lb__law_fewest_2 [s0, some (.d m1 (L b)), some c2, some (.d m3 (.str x)), s4, s5, s6] = some (.nx [s0, some (.d m1 (L b)), some (.d true (R (DI a b (i + 1)) (b.length + 1))), some (.d m3 (.str x)), s4', s5', s6']) := by
  obtain ⟨s5', s6', e⟩ := fr_fw (s0 := s0) (m1 := m1) (m3 := m3) hb hl hx hi hc b.length 0 s5 s6 (by omega)
  have i0 : itemC (some (some c2)) (.int 0) = some (true, .int (DI a b i 0)) := hc.get 0 (by omega)
  have r1 : [D.int (DI a b i 0 + 1)] = rw_ (DI a b (i + 1)) (0 + 1) := by rw [← DI_s0]; rfl
  refine ⟨some (.d true (R (DI a b (i + 1)) (b.length + 1))), s5', s6', ?_⟩
  unfold lb__law_fewest_2
  refine (seqF_nx (τ' := [s0, some (.d m1 (L b)), some c2, some (.d m3 (.str x)), some (.own true (rw_ (DI a b (i + 1)) (0 + 1))), s5, s6]) ?_).trans ((seqF_nx (forF_rng (by simp [consA, un1, vB, cellB, frz, lenD_L, nilA]) rfl (by omega) e)).trans ?_)
  · rw [← r1]
    simp [setF, un1, consA, mp, bi, xvE, i0, addC, frz, nilA, ownC, lim]
  · simp [fzF, fzs, fz, frz, setF, mp, vE, cellD, dC, R]
theorem fr_fo {a b : List Str} {s0 : Option C} {m1 m : Bool} (hb : Ln b) (hl : b.length < 1000) : ∀ (xs : List Str) (k : Nat) (c2 : C) (s3 s4 s5 s6 : Option C), Ln xs → (∀ i, i < xs.length → a[k + i]? = xs[i]?) → Rc c2 (DI a b k) b.length →
    ∃ c2' s3' s4' s5' s6', forD tg__law_fewest_2 lb__law_fewest_2 (flag m (xs.map .str)) [s0, some (.d m1 (L b)), some c2, s3, s4, s5, s6] = some (.nx [s0, some (.d m1 (L b)), some c2', s3', s4', s5', s6']) ∧ Rc c2' (DI a b (k + xs.length)) b.length
  | [], k, c2, s3, s4, s5, s6, _, _, hc => ⟨c2, s3, s4, s5, s6, rfl, hc⟩
  | x :: xs, k, c2, s3, s4, s5, s6, hL, hg, hc => by
    have h0 := hg 0 (by rw [List.length_cons]; omega)
    obtain ⟨t4, t5, t6, lb⟩ := lb_fo (s0 := s0) (s4 := s4) (s5 := s5) (s6 := s6) (m1 := m1) (m3 := true) hb hl (hL x (List.mem_cons_self ..)) h0 hc
    obtain ⟨c2', s3', s4', s5', s6', ih, r⟩ := fr_fo (s0 := s0) (m1 := m1) (m := m) hb hl xs (k + 1) (.d true (R (DI a b (k + 1)) (b.length + 1))) (some (.d true (.str x))) t4 t5 t6 (fun z hz => hL z (List.mem_cons_of_mem _ hz)) (fun i hi => by
      have := hg (i + 1) (by rw [List.length_cons]; omega)
      rw [List.getElem?_cons_succ] at this
      rw [← this]
      congr 1
      omega) Rc_d
    refine ⟨c2', s3', s4', s5', s6', ?_, by rw [List.length_cons, show k + (xs.length + 1) = k + 1 + xs.length by omega]; exact r⟩
    rw [List.map_cons, flag_cons, forD_nx (τ1 := [s0, some (.d m1 (L b)), some c2, some (.d true (.str x)), s4, s5, s6]) ?_ lb, ih]
    simp [tg__law_fewest_2, nameT, scal_str]
theorem st_fw {Bd : D} {n : Int} {r : List D} {s0 s2 s3 s4 s5 s6 : Option C} {m : Bool} (hl : lenD Bd = some (true, .int n)) (h : lrgD (.int (n + 1)) = some (.own true r)) :
    setF 2 (un1 (mp (mp (bi (un1 (vB 1) lenD) (fun _ => some (true, D.int 1)) addC) frz) (·.2)) lrgD) [s0, some (.d m Bd), s2, s3, s4, s5, s6] = some (.nx [s0, some (.d m Bd), some (.own true r), s3, s4, s5, s6]) := by
  simp [setF, un1, mp, bi, vB, cellB, hl, addC, frz, h]
theorem en_fw {c2 : C} {z : Int} {s0 s1 s3 s4 s5 s6 : Option C} (h : itemC (some (some c2)) (.int (-1)) = some (true, .int z)) : retF (xvE 2 (un1 (mp (fun _ => some (true, D.int 1)) (·.2)) negD)) [s0, s1, some c2, s3, s4, s5, s6] = some (.rt true (.int z)) := by
  simp [retF, xvE, un1, mp, negD, h]
theorem φ_fw {a b : List Str} (ha : Ln a) (hb : Ln b) (hl2 : b.length < 1000) : φ__law_fewest [L a, L b] = some (.ok true (.int (DI a b a.length b.length))) := by
  obtain ⟨c2', s3', s4', s5', s6', e, r⟩ := fr_fo (a := a) (s0 := some (.d false (L a))) (m1 := false) (m := false) hb hl2 a 0 (.own true (rw_ (DI a b 0) (b.length + 1))) none none none none ha (fun i hi => by rw [Nat.zero_add]) Rc_own
  rw [Nat.zero_add] at r
  refine phi_rt (n := 7) (g := g__law_fewest) ?_
  have st : startD 7 [L a, L b] = [some (.d false (L a)), some (.d false (L b)), none, none, none, none, none] := rfl
  rw [st]
  unfold g__law_fewest
  exact (seqF_nx (st_fw lenD_L (lr_fl (a := a) hl2))).trans ((seqF_nx (τ' := _) (by
    unfold forF
    rw [un1_of (x := (false, L a)) rfl itemsE_L]
    exact e)).trans (en_fw r.last))
end K06
end
section
set_option Elab.async false
set_option linter.all false
set_option maxRecDepth 100000
set_option maxHeartbeats 4000000
namespace K06
open PySem Dl
/-! ### a page near -/
theorem cut_lo {α : Type} {xs : List α} {n : Nat} : cutL xs (some (n : Int)) none = xs.drop (min n xs.length) := by
  unfold cutL
  rw [HT.sIx_nat, HT.sIx_none, List.take_of_length_le (by rw [List.length_drop]; omega)]
theorem cut_hi {α : Type} {xs : List α} {n : Nat} : cutL xs none (some (n : Int)) = xs.take (min n xs.length) := by
  unfold cutL
  rw [HT.sIx_none, HT.sIx_nat, List.drop_zero, Nat.sub_zero]
def nearP (f : List Str) (at_ e : Nat) (ins : List Str) : List Str := f.take (min at_ f.length) ++ ins ++ f.drop (min (at_ + e) f.length)
theorem nearP_len {f ins : List Str} {at_ e : Nat} (h : ins.length ≤ 1) : (nearP f at_ e ins).length ≤ f.length + 1 := by
  unfold nearP
  rw [List.length_append, List.length_append, List.length_take, List.length_drop]
  omega
theorem nearP_Ln {f ins : List Str} {at_ e : Nat} (h : Ln f) (h2 : Ln ins) : Ln (nearP f at_ e ins) := fun x hx => by
  rcases List.mem_append.mp hx with z | z
  · rcases List.mem_append.mp z with z | z
    · exact h x (List.mem_of_mem_take z)
    · exact h2 x z
  · exact h x (List.mem_of_mem_drop z)
theorem bi_of {α β : Type} {f g : DS → Option α} {op : α → α → Option β} {τ : DS} {x y : α} {z : β} (hf : f τ = some x) (hg : g τ = some y) (h : op x y = some z) : bi f g op τ = some z := by unfold bi; rw [hf, Option.bind_some, hg, Option.bind_some, h]
theorem mp_of {α β : Type} {f : DS → Option α} {k : α → β} {τ : DS} {x : α} (hf : f τ = some x) : mp f k τ = some (k x) := by unfold mp; rw [hf]; rfl
def pIns (x : Str) (d0 : Int) : List Str := if 0 < d0 then [x] else []
def pE (d0 : Int) : Nat := if d0 < 2 then 1 else 0
theorem pIns_len {x : Str} {d0 : Int} : (pIns x d0).length ≤ 1 := by unfold pIns; split <;> simp
section
variable {f : List Str} {x : Str} {d0 at_ : Int} {A : Nat} {G : D} {s0 s1 s2 s3 : Option C}
theorem n_ins (i0 : itemB G (.int 0) = some (.int d0)) : ifF (bi (bi (vB 4) (mp (fun _ => some (true, D.int 0)) (·.2)) itemB) (mp (fun _ => some (true, D.int 0)) (·.2)) (cI gt2)) (mp (un1 (consA (vE 6) nilA) ownC) frz) (mp (un1 nilA ownC) frz) [s0, s1, s2, s3, some (.dp G), some (.d true (.int at_)), some (.d true (.str x))] = some (true, .lst ((pIns x d0).map .str)) := by
  unfold pIns
  by_cases h : 0 < d0
  · rw [if_pos h]
    simp [ifF, bi, vB, cellB, frz, mp, i0, cI, gt2, h, un1, consA, vE, cellD, nilA, ownC, lim]
  · rw [if_neg h]
    simp [ifF, bi, vB, cellB, frz, mp, i0, cI, gt2, h, un1, nilA, ownC, lim]
theorem n_to (hA : (A : Int) = at_) : mp (slF (vE 2) (fun _ => some none) (un1 (vB 5) intO) cutC) frz [s0, s1, some (.d true (L f)), s3, some (.dp G), some (.d true (.int at_)), some (.d true (.str x))] = some (true, .lst ((f.take (min A f.length)).map .str)) := by
  have c1 : cutC (true, L f) none (some at_) = some (.own true ((f.take (min A f.length)).map .str)) := by rw [cutC_L, ← hA, cut_hi]
  generalize (f.take (min A f.length)).map D.str = u at *
  simp [mp, slF, vE, vB, cellD, cellB, frz, un1, intO, c1]
theorem n_fr (hA : (A : Int) = at_) (i0 : itemB G (.int 0) = some (.int d0)) : mp (slF (vE 2) (un1 (mp (mp (bi (vE 5) (ifF (bi (bi (vB 4) (mp (fun _ => some (true, D.int 0)) (·.2)) itemB) (mp (fun _ => some (true, D.int 2)) (·.2)) (cI lt2)) (fun _ => some (true, D.int 1)) (fun _ => some (true, D.int 0))) addC) frz) (·.2)) intO) (fun _ => some none) cutC) frz [s0, s1, some (.d true (L f)), s3, some (.dp G), some (.d true (.int at_)), some (.d true (.str x))] = some (true, .lst ((f.drop (min (A + pE d0) f.length)).map .str)) := by
  have c2 : cutC (true, L f) (some (at_ + (pE d0 : Nat))) none = some (.own true ((f.drop (min (A + pE d0) f.length)).map .str)) := by rw [cutC_L, ← hA, ← Int.natCast_add, cut_lo]
  generalize (f.drop (min (A + pE d0) f.length)).map D.str = u at *
  unfold pE at c2
  by_cases h : d0 < 2
  · rw [if_pos h] at c2
    have c2 : cutC (true, L f) (some (at_ + 1)) none = _ := c2
    simp [mp, slF, vE, vB, cellD, cellB, frz, un1, intO, bi, ifF, i0, cI, lt2, h, addC, c2]
  · rw [if_neg h] at c2
    have c2 : cutC (true, L f) (some (at_ + 0)) none = _ := c2
    rw [Int.add_zero] at c2
    simp [mp, slF, vE, vB, cellD, cellB, frz, un1, intO, bi, ifF, i0, cI, lt2, h, addC, c2]
theorem lb_n4 (hA : (A : Int) = at_) (i0 : itemB G (.int 0) = some (.int d0)) (hl : f.length ≤ 1000) :
    fzF [2] (setF 2 (bi (mp (bi (mp (slF (vE 2) (fun _ => some none) (un1 (vB 5) intO) cutC) frz) (ifF (bi (bi (vB 4) (mp (fun _ => some (true, D.int 0)) (·.2)) itemB) (mp (fun _ => some (true, D.int 0)) (·.2)) (cI gt2)) (mp (un1 (consA (vE 6) nilA) ownC) frz) (mp (un1 nilA ownC) frz)) addC) frz) (mp (slF (vE 2) (un1 (mp (mp (bi (vE 5) (ifF (bi (bi (vB 4) (mp (fun _ => some (true, D.int 0)) (·.2)) itemB) (mp (fun _ => some (true, D.int 2)) (·.2)) (cI lt2)) (fun _ => some (true, D.int 1)) (fun _ => some (true, D.int 0))) addC) frz) (·.2)) intO) (fun _ => some none) cutC) frz) addC))
      [s0, s1, some (.own true (f.map .str)), s3, some (.dp G), some (.d true (.int at_)), some (.d true (.str x))] =
      some (.nx [s0, s1, some (.own true ((nearP f A (pE d0) (pIns x d0)).map .str)), s3, some (.dp G), some (.d true (.int at_)), some (.d true (.str x))]) := by
  have hi := pIns_len (x := x) (d0 := d0)
  have a1 : addC (true, .lst ((f.take (min A f.length)).map .str)) (true, .lst ((pIns x d0).map .str)) = some (.own true ((f.take (min A f.length) ++ pIns x d0).map .str)) := addC_L (a := f.take (min A f.length)) (b := pIns x d0) (by rw [List.length_take]; show _ ≤ 16777216; omega)
  have a2 : addC (true, .lst ((f.take (min A f.length) ++ pIns x d0).map .str)) (true, .lst ((f.drop (min (A + pE d0) f.length)).map .str)) = some (.own true ((nearP f A (pE d0) (pIns x d0)).map .str)) := addC_L (a := f.take (min A f.length) ++ pIns x d0) (b := f.drop (min (A + pE d0) f.length)) (by rw [List.length_append, List.length_take, List.length_drop]; show _ ≤ 16777216; omega)
  show (bi _ _ addC [s0, s1, some (.d true (L f)), s3, some (.dp G), some (.d true (.int at_)), some (.d true (.str x))]).map _ = _
  rw [bi_of (mp_of (bi_of (n_to hA) (n_ins i0) a1)) (n_fr hA i0) a2]
  rfl
end
theorem φ_nu3 (z : Int) : ∃ d0 d1 d2 : Int, φ__law_numbers [.int z, .lst [.int 3, .int 30, .int 12]] = some (.ok true (iL [d0, d1, d2])) ∧ 0 ≤ d1 ∧ 0 ≤ d2 ∧ d2 < 12 := by
  obtain ⟨ds, e1, f1⟩ := φ_nu z [3, 30, 12] (by decide) (by decide)
  cases f1 with | cons h0 f1 => cases f1 with | cons h1 f1 => cases f1 with | cons h2 f1 => cases f1 with | nil =>
  exact ⟨_, _, _, e1, h1.1, h2.1, h2.2⟩
theorem n_b1 {z K : Int} {G : D} {s0 s2 s4 s5 s6 : Option C} {m1 : Bool} (hs : sm64 977 K = true) (e : φ__law_numbers [.int (z + 977 * K), .lst [.int 3, .int 30, .int 12]] = some (.ok true G)) :
    setF 4 (callC φ__law_numbers (consA (mp (bi (vE 1) (mp (bi (fun _ => some (true, D.int 977)) (vE 3) mulC) frz) addC) frz) (consA (mp (un1 (consA (fun _ => some (true, D.int 3)) (consA (fun _ => some (true, D.int 30)) (consA (fun _ => some (true, D.int 12)) nilA))) ownC) frz) nilA))) [s0, some (.d m1 (.int z)), s2, some (.d true (.int K)), s4, s5, s6] =
      some (.nx [s0, some (.d m1 (.int z)), s2, some (.d true (.int K)), some (.dp G), s5, s6]) := by
  simp [setF, callC, consA, mp, bi, vE, cellD, mulC, hs, addC, frz, un1, nilA, ownC, lim, e, resC]
theorem n_b2 {N d1 : Int} {F G : D} {c2 : C} {s0 s1 s3 s5 s6 : Option C} (hc : (frz c2).2 = F) (lF : lenD F = some (true, .int N)) (hN : 0 < N + 1) (g1 : itemB G (.int 1) = some (.int d1)) :
    setF 5 (mp (modF (bi (vB 4) (mp (fun _ => some (true, D.int 1)) (·.2)) itemB) (mp (mp (bi (un1 (vB 2) lenD) (fun _ => some (true, D.int 1)) addC) frz) (·.2))) dC) [s0, s1, some c2, s3, some (.dp G), s5, s6] =
      some (.nx [s0, s1, some c2, s3, some (.dp G), some (.d true (.int (d1 % (N + 1)))), s6]) := by
  have v2 : vB 2 [s0, s1, some c2, s3, some (.dp G), s5, s6] = some F := by rw [← hc]; rfl
  have v4 : vB 4 [s0, s1, some c2, s3, some (.dp G), s5, s6] = some G := rfl
  have u2 : un1 (vB 2) lenD [s0, s1, some c2, s3, some (.dp G), s5, s6] = some (true, .int N) := un1_of v2 lF
  have p1 : bi (un1 (vB 2) lenD) (fun _ => some (true, D.int 1)) addC [s0, s1, some c2, s3, some (.dp G), s5, s6] = some (.d true (.int (N + 1))) := bi_of u2 rfl rfl
  have p2 : bi (vB 4) (mp (fun _ => some (true, D.int 1)) (·.2)) itemB [s0, s1, some c2, s3, some (.dp G), s5, s6] = some (.int d1) := bi_of v4 rfl g1
  have p3 : modF (bi (vB 4) (mp (fun _ => some (true, D.int 1)) (·.2)) itemB) (mp (mp (bi (un1 (vB 2) lenD) (fun _ => some (true, D.int 1)) addC) frz) (·.2)) [s0, s1, some c2, s3, some (.dp G), s5, s6] = some (true, .int (d1 % (N + 1))) := by
    unfold modF
    refine bi_of p2 (mp_of (mp_of p1)) ?_
    show (if decide (0 < N + 1) = true then some (true, D.int (d1 % (N + 1))) else none) = _
    rw [if_pos (by simpa using hN)]
  unfold setF
  rw [mp_of p3]
  rfl
theorem n_b3 {d2 : Int} {G : D} {x : Str} {s0 s1 s2 s3 s5 s6 : Option C} (g2 : itemC (some (some (.dp G))) (.int 2) = some (true, .int d2)) (e : itemE (true, L LL) (.int d2) = some (true, .str x)) :
    setF 6 (mp (bi (mp (callC φ__law_lines nilA) frz) (xvE 4 (fun _ => some (true, D.int 2))) fun x y => itemE x y.2) dC) [s0, s1, s2, s3, some (.dp G), s5, s6] = some (.nx [s0, s1, s2, s3, some (.dp G), s5, some (.d true (.str x))]) := by
  simp [setF, mp, bi, callC, nilA, φ_li, resC, frz, xvE, g2, e, dC]
theorem lb_n {f : List Str} {z : Int} {k : Nat} {s0 s4 s5 s6 : Option C} {m1 : Bool} (hf : Ln f) (hl : f.length ≤ 1000) (hk : k < 1000) :
    ∃ f' s4' s5' s6', lb__law_near_1 [s0, some (.d m1 (.int z)), some (.own true (f.map .str)), some (.d true (.int k)), s4, s5, s6] = some (.nx [s0, some (.d m1 (.int z)), some (.own true (f'.map .str)), some (.d true (.int k)), s4', s5', s6']) ∧ Ln f' ∧ f'.length ≤ f.length + 1 := by
  obtain ⟨d0, d1, d2, e1, h1, h2, h3⟩ := φ_nu3 (z + 977 * (k : Int))
  have g0 : itemB (iL [d0, d1, d2]) (.int 0) = some (.int d0) := rfl
  have g1 : itemB (iL [d0, d1, d2]) (.int 1) = some (.int d1) := rfl
  have g2 : itemC (some (some (.dp (iL [d0, d1, d2])))) (.int 2) = some (true, .int d2) := itemC_iLp (k := 2) rfl
  have hN : (0 : Int) < (f.length : Int) + 1 := by omega
  have r0 := Int.emod_nonneg d1 (b := (f.length : Int) + 1) (by omega)
  obtain ⟨A, hA⟩ := Int.eq_ofNat_of_zero_le r0
  have li := lnAt_in h2 h3
  have iL2 : itemE (true, L LL) (.int d2) = some (true, .str (lnAt d2)) := itemC_LLd (m := true) h2 h3
  have sm : sm64 977 (k : Int) = true := sm64_r (by omega) (by omega)
  have dpB : ∀ d : D, (frz (.dp d)) = (true, d) := fun _ => rfl
  have e4 := lb_n4 (f := f) (x := lnAt d2) (d0 := d0) (at_ := d1 % ((f.length : Int) + 1)) (A := A) (G := iL [d0, d1, d2]) (s0 := s0) (s1 := some (.d m1 (.int z))) (s3 := some (.d true (.int k))) hA.symm g0 hl
  refine ⟨nearP f A (pE d0) (pIns (lnAt d2) d0), some (.dp (iL [d0, d1, d2])), some (.d true (.int (d1 % ((f.length : Int) + 1)))), some (.d true (.str (lnAt d2))), ?_, nearP_Ln hf fun y hy => ?_, nearP_len pIns_len⟩
  · unfold lb__law_near_1
    exact (seqF_nx (n_b1 sm e1)).trans ((seqF_nx (n_b2 (N := (f.length : Int)) (F := L f) rfl lenD_L hN g1)).trans ((seqF_nx (n_b3 g2 iL2)).trans e4))
  · unfold pIns at hy
    split at hy
    · rw [List.mem_singleton.mp hy]; exact li
    · cases hy
theorem fr_n {z : Int} {s0 : Option C} {m1 : Bool} : ∀ (items : List (Bool × D)) (f : List Str) (s3 s4 s5 s6 : Option C), (∀ p ∈ items, ∃ k, k < 1000 ∧ p = (true, .int ((k : Nat) : Int))) → Ln f → f.length + items.length ≤ 1000 →
    ∃ f' s3' s4' s5' s6', forD tg__law_near_1 lb__law_near_1 items [s0, some (.d m1 (.int z)), some (.own true (f.map .str)), s3, s4, s5, s6] = some (.nx [s0, some (.d m1 (.int z)), some (.own true (f'.map .str)), s3', s4', s5', s6']) ∧ Ln f' ∧ f'.length ≤ f.length + items.length
  | [], f, s3, s4, s5, s6, _, hf, _ => ⟨f, s3, s4, s5, s6, rfl, hf, Nat.le_refl _⟩
  | p :: ps, f, s3, s4, s5, s6, h, hf, hl => by
    rw [List.length_cons] at hl
    obtain ⟨k, hk, rfl⟩ := h p (List.mem_cons_self ..)
    obtain ⟨f1, t4, t5, t6, lb, hf1, hl1⟩ := lb_n (z := z) (k := k) (s0 := s0) (s4 := s4) (s5 := s5) (s6 := s6) (m1 := m1) hf (by omega) hk
    obtain ⟨f', s3', s4', s5', s6', ih, hf', hl'⟩ := fr_n (z := z) (s0 := s0) (m1 := m1) ps f1 (some (.d true (.int k))) t4 t5 t6 (fun q hq => h q (List.mem_cons_of_mem _ hq)) hf1 (by omega)
    refine ⟨f', s3', s4', s5', s6', ?_, hf', by rw [List.length_cons]; omega⟩
    rw [forD_nx (τ1 := [s0, some (.d m1 (.int z)), some (.own true (f.map .str)), some (.d true (.int k)), s4, s5, s6]) rfl lb, ih]
theorem φ_n {pg : List Str} (z : Int) (hp : Ln pg) (hl : pg.length ≤ 24) : ∃ f, φ__law_near [L pg, .int z] = some (.ok true (L f)) ∧ Ln f ∧ f.length ≤ 40 := by
  have r0 := Int.emod_nonneg z (b := 7) (by decide)
  have r1 := Int.emod_lt_of_pos z (b := 7) (by decide)
  obtain ⟨n, hn⟩ := Int.eq_ofNat_of_zero_le r0
  obtain ⟨f', s3', s4', s5', s6', e, hf, hlf⟩ := fr_n (z := z) (s0 := some (.d false (L pg))) (m1 := true) ((List.range' 0 n).map rI) pg none none none none (fun p hp => by
    obtain ⟨k, hk, q⟩ := rI_mem hp
    exact ⟨k, by omega, q⟩) hp (by rw [List.length_map, List.length_range']; omega)
  rw [List.length_map, List.length_range'] at hlf
  refine ⟨f', phi_rt (n := 7) (g := g__law_near) ?_, hf, by omega⟩
  have st : startD 7 [L pg, .int z] = [some (.d false (L pg)), some (.d true (.int z)), none, none, none, none, none] := rfl
  rw [st]
  unfold g__law_near
  refine (seqF_nx (τ' := [some (.d false (L pg)), some (.d true (.int z)), some (.own true (pg.map .str)), none, none, none, none]) ?_).trans ((seqF_nx (forF_rng (j := z % 7) ?_ hn.symm (by omega) e)).trans rfl)
  · simp [setF, un1, vE, cellD, listC_L]
  · simp [consA, modF, bi, vB, cellB, frz, mp, oI, nilA]
/-! ### due -/
theorem due_no {CA : Str → Addr} {A Z B c T : D} {m : Bool} (sA : scal A = false) (sZ : scal Z = false) (e1 : φ__law_fits [A, c] = some (.ok true .non)) (e2 : φ__law_done [A, c] = some (.ok m B)) (e3 : neD B Z = some true) :
    φ__law_due CA [A, Z, .ins (CA "Made") ["change", "heights"] [c, T]] = some (.ok true (.bl false)) := by
  refine phi_rt (n := 3) (g := g__law_due CA) ?_
  have st : startD 3 [A, Z, .ins (CA "Made") ["change", "heights"] [c, T]] = [some (.d false A), some (.d false Z), some (.d false (.ins (CA "Made") ["change", "heights"] [c, T]))] := by simp [startD, sA, sZ, show scal (.ins (CA "Made") ["change", "heights"] [c, T]) = false from rfl]
  rw [st]
  unfold g__law_due
  refine seqF_rt ?_
  cases m <;> simp [ifF, orF, bi, mp, callC, consA, fldF, vE, vB, cellD, cellB, fld_c, nilA, e1, e2, e3, resC, frz, notN, isN, retF]
theorem due_yes {CA : Str → Addr} {A Z B c T : D} {m : Bool} (sA : scal A = false) (sZ : scal Z = false) (e1 : φ__law_fits [A, c] = some (.ok true .non)) (e2 : φ__law_done [A, c] = some (.ok m B)) (e3 : neD B Z = some false) (e4 : φ__law_heights_right [A, Z, c, T] = some (.ok true (.bl true))) :
    φ__law_due CA [A, Z, .ins (CA "Made") ["change", "heights"] [c, T]] = some (.ok true (.bl true)) := by
  refine phi_rt (n := 3) (g := g__law_due CA) ?_
  have st : startD 3 [A, Z, .ins (CA "Made") ["change", "heights"] [c, T]] = [some (.d false A), some (.d false Z), some (.d false (.ins (CA "Made") ["change", "heights"] [c, T]))] := by simp [startD, sA, sZ, show scal (.ins (CA "Made") ["change", "heights"] [c, T]) = false from rfl]
  rw [st]
  unfold g__law_due
  refine (seqF_nx (τ' := [some (.d false A), some (.d false Z), some (.d false (.ins (CA "Made") ["change", "heights"] [c, T]))]) ?_).trans ?_
  · cases m <;> simp [ifF, orF, bi, mp, callC, consA, fldF, vE, vB, cellD, cellB, fld_c, nilA, e1, e2, e3, resC, frz, notN, isN, nxF]
  · simp [retF, mp, callC, consA, fldF, vE, cellD, fld_c, fld_h, nilA, e4, resC, frz]
theorem φ_due {CA : Str → Addr} {a b d : List Str} (ha : Ln a) (hb : Ln b) (hd : Ln d) (hl : a.length ≤ 40) (hl2 : b.length ≤ 40) : φ__law_due CA [L a, L d, DM CA a b] = some (.ok true (.bl (decide (b = d)))) := by
  have hc := mk_ct (a := a) (b := b)
  have e1 := φ_lf (pg := a) (c := mk a b) (by omega) (by omega) fun p hp => ⟨mk_fit p hp, ((mk_vc ha hb).ln p hp).1⟩
  obtain ⟨m, e2⟩ := φ_ld (pg := a) (c := mk a b) mk_ok.1.fit (by rw [mk_rep]; show _ ≤ 16777216; omega)
  rw [mk_rep] at e2
  have e3 := neD_L hb hd
  by_cases h : b = d
  · subst h
    rw [decide_eq_true rfl] at *
    exact due_yes scal_L scal_L e1 e2 e3 (φ_hr ha hb (by omega) (by omega))
  · rw [decide_eq_false h] at *
    exact due_no scal_L scal_L e1 e2 e3
/-! ### right -/
theorem eqD_bl {x y : Bool} : eqD (.bl x) (.bl y) = some (decide (x = y)) := by cases x <;> cases y <;> rfl
theorem neD_LL {a b : List Str} (ha : Ln a) (hb : Ln b) : neD (.lst [L a, L b]) (.lst [L a, L b]) = some false := by
  obtain ⟨a1, a2, a3⟩ := lay_strs a ha
  obtain ⟨b1, b2, b3⟩ := lay_strs b hb
  refine neD_self ?_
  simp [okEq, L, plainD, plainL, py, pyL, SeqAt.shaped, PyData.canLay0, PyData.canLayAll0, PyData.depth, PyData.depthAll, a1, a2, a3, b1, b2, b3]
theorem right_g {CA : Str → Addr} {A B Z c T r1 : D} {a b d : List Str} {z : Int} {bb : Bool} (qA : A = L a) (qB : B = L b) (qZ : Z = L d) (e1 : φ_made CA [A, B] = some (.ok true (.ins (CA "Made") ["change", "heights"] [c, T]))) (e2 : neD (.lst [A, B]) (.lst [A, B]) = some false)
    (sc : scal c = false) (sT : scal T = false)
    (e3 : φ__law_is_change [c] = some (.ok true (.bl true))) (e4 : φ__law_whole [T] = some (.ok true (.bl true))) (e5 : φ__law_due CA [A, B, .ins (CA "Made") ["change", "heights"] [c, T]] = some (.ok true (.bl true)))
    (h5 : itemB T (.int (-1)) = some r1) (h6 : itemB r1 (.int (-1)) = some (.int z)) (e6 : φ__law_fewest [A, B] = some (.ok true (.int z))) (e7 : φ_Made_shows CA [.ins (CA "Made") ["change", "heights"] [c, T], A, B] = some (.ok true (.bl true)))
    (e8 : φ_Made_shows CA [.ins (CA "Made") ["change", "heights"] [c, T], A, Z] = some (.ok true (.bl bb))) (e9 : φ__law_due CA [A, Z, .ins (CA "Made") ["change", "heights"] [c, T]] = some (.ok true (.bl bb))) : φ__law_right CA [A, B, Z] = some (.ok true (.bl true)) := by
  have sA : scal A = false := by rw [qA]; rfl
  have sB : scal B = false := by rw [qB]; rfl
  have sZ : scal Z = false := by rw [qZ]; rfl
  have lA : ∀ m, ∃ c, listC (m, A) = some c ∧ frz c = (true, A) := fun m => ⟨_, by rw [qA]; exact listC_L, by rw [qA]; rfl⟩
  have lB : ∀ m, ∃ c, listC (m, B) = some c ∧ frz c = (true, B) := fun m => ⟨_, by rw [qB]; exact listC_L, by rw [qB]; rfl⟩
  have lZ : ∀ m, ∃ c, listC (m, Z) = some c ∧ frz c = (true, Z) := fun m => ⟨_, by rw [qZ]; exact listC_L, by rw [qZ]; rfl⟩
  obtain ⟨cA, lA, fA⟩ := lA false
  obtain ⟨cB, lB, fB⟩ := lB false
  obtain ⟨cZ, lZ, fZ⟩ := lZ false
  have nz : neD (.int z) (.int z) = some false := by rw [neD_int]; simp
  have eb : eqD (.bl bb) (.bl bb) = some true := by rw [eqD_bl]; simp
  have st : startD 6 [A, B, Z] = [some (.d false A), some (.d false B), some (.d false Z), none, none, none] := by simp [startD, sA, sB, sZ, List.replicate]
  have i0 : itemC (some (some (.own true [A, B]))) (.int 0) = some (true, A) := rfl
  have i1 : itemC (some (some (.own true [A, B]))) (.int 1) = some (true, B) := rfl
  have sI : scal (.ins (CA "Made") ["change", "heights"] [c, T]) = false := rfl
  have tb : isC [(CA "Made", true)] (.ins (CA "Made") ["change", "heights"] [c, T]) = some (true, .bl true) := by simp [isC, List.lookup]
  have is1 : isIns (CA "Made") "shows" (.ins (CA "Made") ["change", "heights"] [c, T]) = true := by
    have k1 : ("shows" : Str) ≠ "change" := by decide
    have k2 : ("shows" : Str) ≠ "heights" := by decide
    simp [isIns, k1, k2]
  refine phi_rt (n := 6) (g := g__law_right CA) ?_
  rw [st]
  unfold g__law_right
  refine (seqF_nx (τ' := [some (.d false A), some (.d false B), some (.d false Z), some (.own true [A, B]), none, none]) ?_).trans
    ((seqF_nx (τ' := [some (.d false A), some (.d false B), some (.d false Z), some (.own true [A, B]), some (.dp (.ins (CA "Made") ["change", "heights"] [c, T])), none]) ?_).trans
    ((seqF_nx (τ' := [some (.d false A), some (.d false B), some (.d false Z), some (.own true [A, B]), some (.dp (.ins (CA "Made") ["change", "heights"] [c, T])), none]) ?_).trans
    ((seqF_nx (τ' := [some (.d false A), some (.d false B), some (.d false Z), some (.own true [A, B]), some (.d true (.ins (CA "Made") ["change", "heights"] [c, T])), none]) ?_).trans
    ((seqF_nx (τ' := [some (.d false A), some (.d false B), some (.d false Z), some (.own true [A, B]), some (.d true (.ins (CA "Made") ["change", "heights"] [c, T])), none]) ?_).trans
    ((seqF_nx (τ' := [some (.d false A), some (.d false B), some (.d false Z), some (.own true [A, B]), some (.d true (.ins (CA "Made") ["change", "heights"] [c, T])), some (.dp (.bl bb))]) ?_).trans ?_)))))
  · simp [setF, un1, consA, mp, vE, cellD, lA, lB, fA, fB, nilA, ownC, lim]
  · simp [setF, callC, consA, xvE, i0, i1, nilA, e1, resC]
  · simp [ifF, orF, bi, vB, cellB, frz, mp, un1, consA, vE, cellD, nilA, ownC, lim, e2, tb, boolD, nxF]
  · simp [fzF, fzs, fz, frz, ifF, orF, mp, un1, callC, consA, fldF, vE, cellD, fld_c, fld_h, nilA, e3, e4, e5, resC, boolD, nxF]
  · simp [fzF, fzs, fz, frz, ifF, orF, bi, fldB, vB, cellB, fld_h, mp, un1, negD, h5, h6, callC, consA, vE, cellD, nilA, e6, resC, nz, methC, is1, xvE, i0, i1, e7, notBl, nxF]
  · have fd : ∀ (m : Bool) (x : D), frz (.d m x) = (m, x) := fun _ _ => rfl
    simp [fzF, fzs, fz, fd, setF, methC, vE, cellD, is1, callC, consA, mp, un1, lA, lZ, fA, fZ, nilA, e8, resC]
  · simp [fzF, fzs, fz, frz, retF, andE, un1, vB, cellB, isiE, show isi .bool (.bl bb) = some true from rfl, blE, bi, mp, callC, consA, vE, cellD, nilA, e9, resC, eb]
theorem φ_r {CA : Str → Addr} {a b d : List Str} (ha : Ln a) (hb : Ln b) (hd : Ln d) (hl : a.length ≤ 40) (hl2 : b.length ≤ 40) (hl3 : d.length ≤ 40) : φ__law_right CA [L a, L b, L d] = some (.ok true (.bl true)) := by
  have hc := mk_ct (a := a) (b := b)
  have d1 := φ_due (CA := CA) ha hb hb hl hl2
  have d2 := φ_due (CA := CA) ha hb hd hl hl2
  have s1 := φ_sh (CA := CA) ha hb hb hl hl2 hl2
  have s2 := φ_sh (CA := CA) ha hb hd hl hl2 hl3
  rw [decide_eq_true rfl] at d1 s1
  refine right_g rfl rfl rfl (φ_mk ha hb hl hl2) (neD_LL ha hb) scal_Ch rfl (φ_ic (mk_vc ha hb).ap (mk_vc ha hb).ln fun p hp => ?_) (φ_w (by omega)) d1 itemB_tabE itemB_RE (φ_fw ha hb (by omega)) s1 s2 d2
  have := mk_ok.1.bd p hp
  exact ⟨this.2.2, by show _ ≤ 16777216; omega⟩
/-! ### the law -/
theorem mk_self {a : List Str} (hc : ∀ (i : Nat), Dm a a i i = 0) : mk a a = [] := by
  have h := (mk_ok (a := a) (b := a)).2
  rw [hc] at h
  cases e : mk a a with
  | nil => rfl
  | cons p c =>
    have h1 := ((mk_ok (a := a) (b := a)).1.bd p (by rw [e]; exact List.mem_cons_self ..)).2.2
    rw [e] at h
    simp only [sz, List.map_cons, List.sum_cons] at h
    omega
theorem Dm_self {a : List Str} : ∀ i : Nat, Dm a a i i = 0
  | 0 => rfl
  | i + 1 => by rw [Dm_eq rfl, Dm_self i]
theorem law_g {CA : Str → Addr} {S A B Z T : D} {a : List Str} {z0 z1 z2 : Int} (sS : scal S = false) (qA : A = L a) (sB : scal B = false) (sZ : scal Z = false) (c0 : φ__law_cell_at [S, .int 0] = some (.ok true (.int z0))) (c1 : φ__law_cell_at [S, .int 1] = some (.ok true (.int z1))) (c2 : φ__law_cell_at [S, .int 2] = some (.ok true (.int z2)))
    (p0 : φ__law_page [.int z0, .int 24] = some (.ok true A)) (n1 : φ__law_near [A, .int z1] = some (.ok true B)) (p2 : φ__law_page [.int z2, .int 24] = some (.ok true Z)) (r1 : φ__law_right CA [A, B, Z] = some (.ok true (.bl true))) (r2 : φ__law_right CA [A, Z, B] = some (.ok true (.bl true))) (r3 : φ__law_right CA [Z, A, A] = some (.ok true (.bl true)))
    (m : φ_made CA [A, A] = some (.ok true (.ins (CA "Made") ["change", "heights"] [.lst [], T]))) (r4 : φ__law_right CA [.lst [], A, .lst []] = some (.ok true (.bl true))) (r5 : φ__law_right CA [A, .lst [], .lst []] = some (.ok true (.bl true))) : φ_law CA [S] = some (.ok true (.bl true)) := by
  have sA : scal A = false := by rw [qA]; rfl
  obtain ⟨cA, lA, fA⟩ : ∃ c, listC (true, A) = some c ∧ frz c = (true, A) := ⟨_, by rw [qA]; exact listC_L, by rw [qA]; rfl⟩
  have fd : ∀ (m : Bool) (x : D), frz (.d m x) = (m, x) := fun _ _ => rfl
  have fp : ∀ (x : D), frz (.dp x) = (true, x) := fun _ => rfl
  have fo : ∀ (m : Bool) (x : List D), frz (.own m x) = (m, .lst x) := fun _ _ => rfl
  have e0 : eqD (.lst []) (.lst []) = some true := rfl
  have st : startD 4 [S] = [some (.d false S), none, none, none] := by simp [startD, sS, List.replicate]
  refine phi_rt (n := 4) (g := g_law CA) ?_
  rw [st]
  unfold g_law
  refine (seqF_nx (τ' := [some (.d false S), some (.dp A), none, none]) ?_).trans ((seqF_nx (τ' := [some (.d false S), some (.d true A), some (.dp B), none]) ?_).trans ((seqF_nx (τ' := [some (.d false S), some (.d true A), some (.dp B), some (.dp Z)]) ?_).trans ((seqF_nx (τ' := [some (.d false S), some (.d true A), some (.d true B), some (.d true Z)]) ?_).trans ?_)))
  · simp [setF, callC, consA, mp, vE, cellD, nilA, c0, resC, fp, p0]
  · simp [fzF, fzs, fz, setF, callC, consA, mp, vE, cellD, nilA, c1, resC, fp, n1]
  · simp [setF, callC, consA, mp, vE, cellD, nilA, c2, resC, fp, p2]
  · simp [fzF, fzs, fz, ifF, orF, mp, un1, callC, consA, vE, cellD, nilA, r1, r2, r3, resC, fp, fd, boolD, nxF]
  · simp [fzF, fzs, fz, retF, andE, blE, bi, fldB, mp, callC, consA, vE, cellD, un1, lA, fA, nilA, m, resC, fp, fd, fo, fld_c, ownC, lim, e0, r4, r5]
end K06
end
section
set_option Elab.async false
set_option linter.all false
set_option maxRecDepth 100000
set_option maxHeartbeats 400000
namespace K06
open PySem Dl
theorem Ln_0 : Ln [] := fun x h => nomatch h
theorem cell_0 (ns : List Int) : ∃ z, φ__law_cell_at [.scr ns, .int 0] = some (.ok true (.int z)) := φ_cell ns 0
theorem cell_1 (ns : List Int) : ∃ z, φ__law_cell_at [.scr ns, .int 1] = some (.ok true (.int z)) := φ_cell ns 1
theorem cell_2 (ns : List Int) : ∃ z, φ__law_cell_at [.scr ns, .int 2] = some (.ok true (.int z)) := φ_cell ns 2
theorem mk_0 {CA : Str → Addr} {a : List Str} (ha : Ln a) (la : a.length ≤ 24) : φ_made CA [L a, L a] = some (.ok true (.ins (CA "Made") ["change", "heights"] [.lst [], tab a a])) := by
  have m := φ_mk (CA := CA) ha ha (by omega) (by omega)
  unfold DM at m
  rw [mk_self Dm_self] at m
  exact m
theorem lst_0 : (D.lst []) = L [] := rfl
theorem r_4 {CA : Str → Addr} {a : List Str} (ha : Ln a) (la : a.length ≤ 24) : φ__law_right CA [.lst [], L a, .lst []] = some (.ok true (.bl true)) := by
  rw [lst_0]
  exact φ_r (CA := CA) Ln_0 ha Ln_0 (Nat.zero_le _) (by omega) (Nat.zero_le _)
theorem r_5 {CA : Str → Addr} {a : List Str} (ha : Ln a) (la : a.length ≤ 24) : φ__law_right CA [L a, .lst [], .lst []] = some (.ok true (.bl true)) := by
  rw [lst_0]
  exact φ_r (CA := CA) ha Ln_0 Ln_0 (by omega) (Nat.zero_le _) (Nat.zero_le _)
theorem law_h {CA : Str → Addr} {ns : List Int} {a b d : List Str} {z0 z1 z2 : Int} (c0 : φ__law_cell_at [.scr ns, .int 0] = some (.ok true (.int z0))) (c1 : φ__law_cell_at [.scr ns, .int 1] = some (.ok true (.int z1))) (c2 : φ__law_cell_at [.scr ns, .int 2] = some (.ok true (.int z2)))
    (p0 : φ__law_page [.int z0, .int 24] = some (.ok true (L a))) (n1 : φ__law_near [L a, .int z1] = some (.ok true (L b))) (p2 : φ__law_page [.int z2, .int 24] = some (.ok true (L d))) (ha : Ln a) (hb : Ln b) (hd : Ln d) (la : a.length ≤ 24) (lb : b.length ≤ 40) (ld : d.length ≤ 24) : φ_law CA [.scr ns] = some (.ok true (.bl true)) := by
  have r1 := φ_r (CA := CA) ha hb hd (by omega) (by omega) (by omega)
  have r2 := φ_r (CA := CA) ha hd hb (by omega) (by omega) (by omega)
  have r3 := φ_r (CA := CA) hd ha ha (by omega) (by omega) (by omega)
  exact law_g (S := .scr ns) (A := L a) (B := L b) (Z := L d) (T := tab a a) rfl rfl rfl rfl c0 c1 c2 p0 n1 p2 r1 r2 r3 (mk_0 ha la) (r_4 ha la) (r_5 ha la)
theorem φ_law_ok (CA : Str → Addr) (ns : List Int) : φ_law CA [.scr ns] = some (.ok true (.bl true)) := by
  obtain ⟨z0, c0⟩ := cell_0 ns
  obtain ⟨z1, c1⟩ := cell_1 ns
  obtain ⟨z2, c2⟩ := cell_2 ns
  obtain ⟨a, p0, ha, la⟩ := φ_pg z0
  obtain ⟨b, n1, hb, lb⟩ := φ_n z1 ha la
  obtain ⟨d, p2, hd, ld⟩ := φ_pg z2
  exact law_h c0 c1 c2 p0 n1 p2 ha hb hd la lb ld
end K06
end
section
set_option Elab.async false
set_option linter.all false
set_option maxRecDepth 100000
set_option maxHeartbeats 0
namespace K06
open PySem PySem.Spec PyProof.Rows L2 GxR Gx Dl
/-! ### the head: the facts, the run -/
def d_end_of : He.DefD := ⟨("end_of", none), "end_of", "end_of", L2.defArgs s_end_of, L2.defBody s_end_of, L2.defScope s_end_of, [], []⟩
def d_first_missing : He.DefD := ⟨("first_missing", none), "first_missing", "first_missing", L2.defArgs s_first_missing, L2.defBody s_first_missing, L2.defScope s_first_missing, [], []⟩
def d_first_unfit : He.DefD := ⟨("first_unfit", none), "first_unfit", "first_unfit", L2.defArgs s_first_unfit, L2.defBody s_first_unfit, L2.defScope s_first_unfit, [], []⟩
def d_replaced : He.DefD := ⟨("replaced", none), "replaced", "replaced", L2.defArgs s_replaced, L2.defBody s_replaced, L2.defScope s_replaced, [], []⟩
def d_is_number : He.DefD := ⟨("is_number", none), "is_number", "is_number", L2.defArgs s_is_number, L2.defBody s_is_number, L2.defScope s_is_number, [], []⟩
def d_is_line : He.DefD := ⟨("is_line", none), "is_line", "is_line", L2.defArgs s_is_line, L2.defBody s_is_line, L2.defScope s_is_line, [], []⟩
def d_are_lines : He.DefD := ⟨("are_lines", none), "are_lines", "are_lines", L2.defArgs s_are_lines, L2.defBody s_are_lines, L2.defScope s_are_lines, [], []⟩
def d_is_page : He.DefD := ⟨("is_page", none), "is_page", "is_page", L2.defArgs s_is_page, L2.defBody s_is_page, L2.defScope s_is_page, [], []⟩
def d_is_piece : He.DefD := ⟨("is_piece", none), "is_piece", "is_piece", L2.defArgs s_is_piece, L2.defBody s_is_piece, L2.defScope s_is_piece, [], []⟩
def d_are_apart : He.DefD := ⟨("are_apart", none), "are_apart", "are_apart", L2.defArgs s_are_apart, L2.defBody s_are_apart, L2.defScope s_are_apart, [], []⟩
def d_is_told_change : He.DefD := ⟨("is_told_change", none), "is_told_change", "is_told_change", L2.defArgs s_is_told_change, L2.defBody s_is_told_change, L2.defScope s_is_told_change, [], []⟩
def d_check_page : He.DefD := ⟨("check_page", none), "check_page", "check_page", L2.defArgs s_check_page, L2.defBody s_check_page, L2.defScope s_check_page, [], []⟩
def d__copied : He.DefD := ⟨("_copied", none), "_copied", "_copied", L2.defArgs s__copied, L2.defBody s__copied, L2.defScope s__copied, [], []⟩
def d__leads : He.DefD := ⟨("_leads", none), "_leads", "_leads", L2.defArgs s__leads, L2.defBody s__leads, L2.defScope s__leads, [], []⟩
def d__lines_in : He.DefD := ⟨("_lines_in", none), "_lines_in", "_lines_in", L2.defArgs s__lines_in, L2.defBody s__lines_in, L2.defScope s__lines_in, [], []⟩
def d__is_table : He.DefD := ⟨("_is_table", none), "_is_table", "_is_table", L2.defArgs s__is_table, L2.defBody s__is_table, L2.defScope s__is_table, [], []⟩
def d__is_height_table : He.DefD := ⟨("_is_height_table", none), "_is_height_table", "_is_height_table", L2.defArgs s__is_height_table, L2.defBody s__is_height_table, L2.defScope s__is_height_table, [], []⟩
def d__rises_by_one : He.DefD := ⟨("_rises_by_one", none), "_rises_by_one", "_rises_by_one", L2.defArgs s__rises_by_one, L2.defBody s__rises_by_one, L2.defScope s__rises_by_one, [], []⟩
def d__row_follows : He.DefD := ⟨("_row_follows", none), "_row_follows", "_row_follows", L2.defArgs s__row_follows, L2.defBody s__row_follows, L2.defScope s__row_follows, [], []⟩
def d__are_no_steps_too_high : He.DefD := ⟨("_are_no_steps_too_high", none), "_are_no_steps_too_high", "_are_no_steps_too_high", L2.defArgs s__are_no_steps_too_high, L2.defBody s__are_no_steps_too_high, L2.defScope s__are_no_steps_too_high, [], []⟩
def d__next_row : He.DefD := ⟨("_next_row", none), "_next_row", "_next_row", L2.defArgs s__next_row, L2.defBody s__next_row, L2.defScope s__next_row, [], []⟩
def d__fewest_lines : He.DefD := ⟨("_fewest_lines", none), "_fewest_lines", "_fewest_lines", L2.defArgs s__fewest_lines, L2.defBody s__fewest_lines, L2.defScope s__fewest_lines, [], []⟩
def d__lines_kept : He.DefD := ⟨("_lines_kept", none), "_lines_kept", "_lines_kept", L2.defArgs s__lines_kept, L2.defBody s__lines_kept, L2.defScope s__lines_kept, [], []⟩
def d__change_between : He.DefD := ⟨("_change_between", none), "_change_between", "_change_between", L2.defArgs s__change_between, L2.defBody s__change_between, L2.defScope s__change_between, [], []⟩
def d__law_cell_at : He.DefD := ⟨("_law_cell_at", none), "_law_cell_at", "_law_cell_at", L2.defArgs s__law_cell_at, L2.defBody s__law_cell_at, L2.defScope s__law_cell_at, [], []⟩
def d__law_numbers : He.DefD := ⟨("_law_numbers", none), "_law_numbers", "_law_numbers", L2.defArgs s__law_numbers, L2.defBody s__law_numbers, L2.defScope s__law_numbers, [], []⟩
def d__law_lines : He.DefD := ⟨("_law_lines", none), "_law_lines", "_law_lines", L2.defArgs s__law_lines, L2.defBody s__law_lines, L2.defScope s__law_lines, [], []⟩
def d__law_page : He.DefD := ⟨("_law_page", none), "_law_page", "_law_page", L2.defArgs s__law_page, L2.defBody s__law_page, L2.defScope s__law_page, [], []⟩
def d__law_change : He.DefD := ⟨("_law_change", none), "_law_change", "_law_change", L2.defArgs s__law_change, L2.defBody s__law_change, L2.defScope s__law_change, [], []⟩
def d__law_done : He.DefD := ⟨("_law_done", none), "_law_done", "_law_done", L2.defArgs s__law_done, L2.defBody s__law_done, L2.defScope s__law_done, [], []⟩
def d__law_copied : He.DefD := ⟨("_law_copied", none), "_law_copied", "_law_copied", L2.defArgs s__law_copied, L2.defBody s__law_copied, L2.defScope s__law_copied, [], []⟩
def d__law_fits : He.DefD := ⟨("_law_fits", none), "_law_fits", "_law_fits", L2.defArgs s__law_fits, L2.defBody s__law_fits, L2.defScope s__law_fits, [], []⟩
def d__law_is_change : He.DefD := ⟨("_law_is_change", none), "_law_is_change", "_law_is_change", L2.defArgs s__law_is_change, L2.defBody s__law_is_change, L2.defScope s__law_is_change, [], []⟩
def d__law_whole : He.DefD := ⟨("_law_whole", none), "_law_whole", "_law_whole", L2.defArgs s__law_whole, L2.defBody s__law_whole, L2.defScope s__law_whole, [], []⟩
def d__law_heights_right : He.DefD := ⟨("_law_heights_right", none), "_law_heights_right", "_law_heights_right", L2.defArgs s__law_heights_right, L2.defBody s__law_heights_right, L2.defScope s__law_heights_right, [], []⟩
def d__law_fewest : He.DefD := ⟨("_law_fewest", none), "_law_fewest", "_law_fewest", L2.defArgs s__law_fewest, L2.defBody s__law_fewest, L2.defScope s__law_fewest, [], []⟩
def d__law_near : He.DefD := ⟨("_law_near", none), "_law_near", "_law_near", L2.defArgs s__law_near, L2.defBody s__law_near, L2.defScope s__law_near, [], []⟩
def d__law_due : He.DefD := ⟨("_law_due", none), "_law_due", "_law_due", L2.defArgs s__law_due, L2.defBody s__law_due, L2.defScope s__law_due, [], []⟩
def d_init_Made : He.DefD := ⟨("Made", some "__init__"), "__init__", "Made.__init__", L2.defArgs s_init_Made, L2.defBody s_init_Made, L2.defScope s_init_Made, [], []⟩
def d_made : He.DefD := ⟨("made", none), "made", "made", L2.defArgs s_made, L2.defBody s_made, L2.defScope s_made, [], []⟩
def d_Made_shows : He.DefD := ⟨("Made", some "shows"), "shows", "Made.shows", L2.defArgs s_Made_shows, L2.defBody s_Made_shows, L2.defScope s_Made_shows, [], []⟩
def d__law_right : He.DefD := ⟨("_law_right", none), "_law_right", "_law_right", L2.defArgs s__law_right, L2.defBody s__law_right, L2.defScope s__law_right, [], []⟩
def d_law : He.DefD := ⟨("law", none), "law", "law", L2.defArgs s_law, L2.defBody s_law, L2.defScope s_law, [], []⟩
def fnL : List He.DefD := [d_end_of, d_first_missing, d_first_unfit, d_replaced, d_is_number, d_is_line, d_are_lines, d_is_page, d_is_piece, d_are_apart, d_is_told_change, d_check_page, d__copied, d__leads, d__lines_in, d__is_table, d__is_height_table, d__rises_by_one, d__row_follows, d__are_no_steps_too_high, d__next_row, d__fewest_lines, d__lines_kept, d__change_between, d__law_cell_at, d__law_numbers, d__law_lines, d__law_page, d__law_change, d__law_done, d__law_copied, d__law_fits, d__law_is_change, d__law_whole, d__law_heights_right, d__law_fewest, d__law_near, d__law_due, d_init_Made, d_made, d_Made_shows, d__law_right, d_law]
def faL : List He.Fa := [.glo "end_of", .glo "first_missing", .glo "first_unfit", .glo "replaced", .glo "is_number", .glo "is_line", .glo "are_lines", .glo "is_page", .glo "is_piece", .glo "are_apart", .glo "is_told_change", .glo "check_page", .glo "_copied", .glo "_leads", .glo "_lines_in", .glo "_is_table", .glo "_is_height_table", .glo "_rises_by_one", .glo "_row_follows", .glo "_are_no_steps_too_high", .glo "_next_row", .glo "_fewest_lines", .glo "_lines_kept", .glo "_change_between", .glo "_law_cell_at", .glo "_law_numbers", .glo "_law_lines", .glo "_law_page", .glo "_law_change", .glo "_law_done", .glo "_law_copied", .glo "_law_fits", .glo "_law_is_change", .glo "_law_whole", .glo "_law_heights_right", .glo "_law_fewest", .glo "_law_near", .glo "_law_due", .glo "made", .glo "_law_right", .glo "law", .free "all", .free "bool", .free "enumerate", .free "int", .free "isinstance", .free "len", .free "list", .free "min", .free "range", .free "str", .free "sum", .free "tuple", .free "zip", .int "MOST_LINES_MADE" 40, .int "MOST_PAGE_LINES" 2000, .glo "Answer", .glo "Made", .cls "Made", .noat "Made" "change", .noat "Made" "heights", .mkr "Made", .meth "Made" "shows"]
def tfL : List He.Defn := [("are_lines", none), ("is_told_change", none), ("_lines_in", none), ("_is_table", none), ("_is_height_table", none), ("_are_no_steps_too_high", none)]
def exB (K : PySem.W.Frag) : Bool := [isfB K (He.ga K "Made"), kitB K (He.ga K "Made") (He.ga K "Answer") true, kitB K (He.ga K "Made") (He.ga K "Made") true].all id
abbrev RR : PySem.W.OpenRow := PySem.W.OpenLaw.row PySem.Challenge.rw_patchlay_k06_whole_made
abbrev hk : PySem.W.Hook := He.hookX 4 faL fnL [] tfL exB
def ob (s : PySem.W.SharedT) : He.AlX := He.obsX 4 faL fnL [] tfL exB (HandSHeadRun.getT s)
theorem ob_eq (s : PySem.W.SharedT) : ob s = hk.obs s.abs := He.obsX_eq (HandSHeadRun.getT_eq s)
def names : List Str := (["PatchError", "BadPage", "BadNumber", "end_of", "first_missing", "first_unfit", "replaced", "MOST_PAGE_LINES", "is_number", "is_line", "are_lines", "is_page", "is_piece", "are_apart", "is_told_change", "check_page", "Answer", "Made", "_copied", "_leads"] : List Str) ++ (["_lines_in", "_is_table", "_is_height_table", "_are_no_steps_too_high", "_rises_by_one", "_row_follows", "MOST_LINES_MADE", "made", "_fewest_lines", "_next_row", "_lines_kept", "_change_between", "_law_cell_at", "_law_numbers", "_law_lines", "_law_page", "_law_change", "_law_done", "_law_copied", "_law_fits"] : List Str) ++ (["_law_is_change", "_law_whole", "_law_heights_right", "_law_fewest", "_law_near", "_law_due", "_law_right"] : List Str)
theorem run (w : World) : HandSHeadRun.RunEq RR (PySem.W.view RR.prog [53]) hk ob 6000 names w := by
  intro os
  kernel_rfl
theorem facts {P : Program} {w : World} {K : PySem.W.Frag} {h : Heap} {mg : Str → Option Value} {f : Addr} (X : K.In h) (G : h.Ns mainGlobals mg) (c : He.SaysD faL fnL K) (hex : exB K = true) (hfa : mg ("law" : Str) = some (.ref f)) : ∃ fd : FuncData, (∀ (s : Shared) (v : Value), BindsTo s fd ⟨[v], []⟩ [("_law_script", v)]) ∧ ∀ base : Heap, K.In base → base.Ns mainGlobals mg → (∀ p ∈ tfL.map (He.cT K), GxR.TabB base mg p.1 p.2) → FnOk P w K mg base CX0 11 f fd ["_law_script"] (spD K (tfL.map (He.cT K)) 1 (φ_law (He.ga K))) := by
  have hx : NoE CX0 := fun _ _ _ _ _ z => z
  unfold exB at hex
  simp only [List.all_cons, List.all_nil, id, Bool.and_true, Bool.and_eq_true] at hex
  obtain ⟨_, F_0⟩ := c.def_ 0 (d := d_end_of) rfl
  have D_end_of : Def K mg (He.codeOf K ("end_of", none)) "end_of" s_end_of ["piece"] := def_of F_0 (He.glo_ok X G (c.fact 0 (f := .glo "end_of") rfl)) fun _ _ _ _ _ _ us hl => match us, hl with | [_], _ => rfl
  obtain ⟨_, F_1⟩ := c.def_ 1 (d := d_first_missing) rfl
  have D_first_missing : Def K mg (He.codeOf K ("first_missing", none)) "first_missing" s_first_missing ["page", "piece"] := def_of F_1 (He.glo_ok X G (c.fact 1 (f := .glo "first_missing") rfl)) fun _ _ _ _ _ _ us hl => match us, hl with | [_, _], _ => rfl
  obtain ⟨_, F_2⟩ := c.def_ 2 (d := d_first_unfit) rfl
  have D_first_unfit : Def K mg (He.codeOf K ("first_unfit", none)) "first_unfit" s_first_unfit ["page", "change"] := def_of F_2 (He.glo_ok X G (c.fact 2 (f := .glo "first_unfit") rfl)) fun _ _ _ _ _ _ us hl => match us, hl with | [_, _], _ => rfl
  obtain ⟨_, F_3⟩ := c.def_ 3 (d := d_replaced) rfl
  have D_replaced : Def K mg (He.codeOf K ("replaced", none)) "replaced" s_replaced ["page", "change"] := def_of F_3 (He.glo_ok X G (c.fact 3 (f := .glo "replaced") rfl)) fun _ _ _ _ _ _ us hl => match us, hl with | [_, _], _ => rfl
  obtain ⟨_, F_4⟩ := c.def_ 4 (d := d_is_number) rfl
  have D_is_number : Def K mg (He.codeOf K ("is_number", none)) "is_number" s_is_number ["value"] := def_of F_4 (He.glo_ok X G (c.fact 4 (f := .glo "is_number") rfl)) fun _ _ _ _ _ _ us hl => match us, hl with | [_], _ => rfl
  obtain ⟨_, F_5⟩ := c.def_ 5 (d := d_is_line) rfl
  have D_is_line : Def K mg (He.codeOf K ("is_line", none)) "is_line" s_is_line ["value"] := def_of F_5 (He.glo_ok X G (c.fact 5 (f := .glo "is_line") rfl)) fun _ _ _ _ _ _ us hl => match us, hl with | [_], _ => rfl
  obtain ⟨_, F_6⟩ := c.def_ 6 (d := d_are_lines) rfl
  have D_are_lines : Def K mg (He.codeOf K ("are_lines", none)) "are_lines" s_are_lines ["value"] := def_of F_6 (He.glo_ok X G (c.fact 6 (f := .glo "are_lines") rfl)) fun _ _ _ _ _ _ us hl => match us, hl with | [_], _ => rfl
  obtain ⟨_, F_7⟩ := c.def_ 7 (d := d_is_page) rfl
  have D_is_page : Def K mg (He.codeOf K ("is_page", none)) "is_page" s_is_page ["value"] := def_of F_7 (He.glo_ok X G (c.fact 7 (f := .glo "is_page") rfl)) fun _ _ _ _ _ _ us hl => match us, hl with | [_], _ => rfl
  obtain ⟨_, F_8⟩ := c.def_ 8 (d := d_is_piece) rfl
  have D_is_piece : Def K mg (He.codeOf K ("is_piece", none)) "is_piece" s_is_piece ["value"] := def_of F_8 (He.glo_ok X G (c.fact 8 (f := .glo "is_piece") rfl)) fun _ _ _ _ _ _ us hl => match us, hl with | [_], _ => rfl
  obtain ⟨_, F_9⟩ := c.def_ 9 (d := d_are_apart) rfl
  have D_are_apart : Def K mg (He.codeOf K ("are_apart", none)) "are_apart" s_are_apart ["pieces"] := def_of F_9 (He.glo_ok X G (c.fact 9 (f := .glo "are_apart") rfl)) fun _ _ _ _ _ _ us hl => match us, hl with | [_], _ => rfl
  obtain ⟨_, F_10⟩ := c.def_ 10 (d := d_is_told_change) rfl
  have D_is_told_change : Def K mg (He.codeOf K ("is_told_change", none)) "is_told_change" s_is_told_change ["value"] := def_of F_10 (He.glo_ok X G (c.fact 10 (f := .glo "is_told_change") rfl)) fun _ _ _ _ _ _ us hl => match us, hl with | [_], _ => rfl
  obtain ⟨_, F_11⟩ := c.def_ 11 (d := d_check_page) rfl
  have D_check_page : Def K mg (He.codeOf K ("check_page", none)) "check_page" s_check_page ["value"] := def_of F_11 (He.glo_ok X G (c.fact 11 (f := .glo "check_page") rfl)) fun _ _ _ _ _ _ us hl => match us, hl with | [_], _ => rfl
  obtain ⟨_, F_12⟩ := c.def_ 12 (d := d__copied) rfl
  have D__copied : Def K mg (He.codeOf K ("_copied", none)) "_copied" s__copied ["value"] := def_of F_12 (He.glo_ok X G (c.fact 12 (f := .glo "_copied") rfl)) fun _ _ _ _ _ _ us hl => match us, hl with | [_], _ => rfl
  obtain ⟨_, F_13⟩ := c.def_ 13 (d := d__leads) rfl
  have D__leads : Def K mg (He.codeOf K ("_leads", none)) "_leads" s__leads ["change", "old", "new"] := def_of F_13 (He.glo_ok X G (c.fact 13 (f := .glo "_leads") rfl)) fun _ _ _ _ _ _ us hl => match us, hl with | [_, _, _], _ => rfl
  obtain ⟨_, F_14⟩ := c.def_ 14 (d := d__lines_in) rfl
  have D__lines_in : Def K mg (He.codeOf K ("_lines_in", none)) "_lines_in" s__lines_in ["change"] := def_of F_14 (He.glo_ok X G (c.fact 14 (f := .glo "_lines_in") rfl)) fun _ _ _ _ _ _ us hl => match us, hl with | [_], _ => rfl
  obtain ⟨_, F_15⟩ := c.def_ 15 (d := d__is_table) rfl
  have D__is_table : Def K mg (He.codeOf K ("_is_table", none)) "_is_table" s__is_table ["value", "rows", "columns"] := def_of F_15 (He.glo_ok X G (c.fact 15 (f := .glo "_is_table") rfl)) fun _ _ _ _ _ _ us hl => match us, hl with | [_, _, _], _ => rfl
  obtain ⟨_, F_16⟩ := c.def_ 16 (d := d__is_height_table) rfl
  have D__is_height_table : Def K mg (He.codeOf K ("_is_height_table", none)) "_is_height_table" s__is_height_table ["heights", "old", "new"] := def_of F_16 (He.glo_ok X G (c.fact 16 (f := .glo "_is_height_table") rfl)) fun _ _ _ _ _ _ us hl => match us, hl with | [_, _, _], _ => rfl
  obtain ⟨_, F_17⟩ := c.def_ 17 (d := d__rises_by_one) rfl
  have D__rises_by_one : Def K mg (He.codeOf K ("_rises_by_one", none)) "_rises_by_one" s__rises_by_one ["row"] := def_of F_17 (He.glo_ok X G (c.fact 17 (f := .glo "_rises_by_one") rfl)) fun _ _ _ _ _ _ us hl => match us, hl with | [_], _ => rfl
  obtain ⟨_, F_18⟩ := c.def_ 18 (d := d__row_follows) rfl
  have D__row_follows : Def K mg (He.codeOf K ("_row_follows", none)) "_row_follows" s__row_follows ["row", "below", "line", "new"] := def_of F_18 (He.glo_ok X G (c.fact 18 (f := .glo "_row_follows") rfl)) fun _ _ _ _ _ _ us hl => match us, hl with | [_, _, _, _], _ => rfl
  obtain ⟨_, F_19⟩ := c.def_ 19 (d := d__are_no_steps_too_high) rfl
  have D__are_no_steps_too_high : Def K mg (He.codeOf K ("_are_no_steps_too_high", none)) "_are_no_steps_too_high" s__are_no_steps_too_high ["heights", "old", "new"] := def_of F_19 (He.glo_ok X G (c.fact 19 (f := .glo "_are_no_steps_too_high") rfl)) fun _ _ _ _ _ _ us hl => match us, hl with | [_, _, _], _ => rfl
  obtain ⟨_, F_20⟩ := c.def_ 20 (d := d__next_row) rfl
  have D__next_row : Def K mg (He.codeOf K ("_next_row", none)) "_next_row" s__next_row ["row", "line", "new"] := def_of F_20 (He.glo_ok X G (c.fact 20 (f := .glo "_next_row") rfl)) fun _ _ _ _ _ _ us hl => match us, hl with | [_, _, _], _ => rfl
  obtain ⟨_, F_21⟩ := c.def_ 21 (d := d__fewest_lines) rfl
  have D__fewest_lines : Def K mg (He.codeOf K ("_fewest_lines", none)) "_fewest_lines" s__fewest_lines ["old", "new"] := def_of F_21 (He.glo_ok X G (c.fact 21 (f := .glo "_fewest_lines") rfl)) fun _ _ _ _ _ _ us hl => match us, hl with | [_, _], _ => rfl
  obtain ⟨_, F_22⟩ := c.def_ 22 (d := d__lines_kept) rfl
  have D__lines_kept : Def K mg (He.codeOf K ("_lines_kept", none)) "_lines_kept" s__lines_kept ["heights", "old", "new"] := def_of F_22 (He.glo_ok X G (c.fact 22 (f := .glo "_lines_kept") rfl)) fun _ _ _ _ _ _ us hl => match us, hl with | [_, _, _], _ => rfl
  obtain ⟨_, F_23⟩ := c.def_ 23 (d := d__change_between) rfl
  have D__change_between : Def K mg (He.codeOf K ("_change_between", none)) "_change_between" s__change_between ["kept", "old", "new"] := def_of F_23 (He.glo_ok X G (c.fact 23 (f := .glo "_change_between") rfl)) fun _ _ _ _ _ _ us hl => match us, hl with | [_, _, _], _ => rfl
  obtain ⟨_, F_24⟩ := c.def_ 24 (d := d__law_cell_at) rfl
  have D__law_cell_at : Def K mg (He.codeOf K ("_law_cell_at", none)) "_law_cell_at" s__law_cell_at ["_law_script", "_law_k"] := def_of F_24 (He.glo_ok X G (c.fact 24 (f := .glo "_law_cell_at") rfl)) fun _ _ _ _ _ _ us hl => match us, hl with | [_, _], _ => rfl
  obtain ⟨_, F_25⟩ := c.def_ 25 (d := d__law_numbers) rfl
  have D__law_numbers : Def K mg (He.codeOf K ("_law_numbers", none)) "_law_numbers" s__law_numbers ["_law_cell", "_law_bounds"] := def_of F_25 (He.glo_ok X G (c.fact 25 (f := .glo "_law_numbers") rfl)) fun _ _ _ _ _ _ us hl => match us, hl with | [_, _], _ => rfl
  obtain ⟨_, F_26⟩ := c.def_ 26 (d := d__law_lines) rfl
  have D__law_lines : Def K mg (He.codeOf K ("_law_lines", none)) "_law_lines" s__law_lines [] := def_of F_26 (He.glo_ok X G (c.fact 26 (f := .glo "_law_lines") rfl)) fun _ _ _ _ _ _ us hl => match us, hl with | [], _ => rfl
  obtain ⟨_, F_27⟩ := c.def_ 27 (d := d__law_page) rfl
  have D__law_page : Def K mg (He.codeOf K ("_law_page", none)) "_law_page" s__law_page ["_law_cell", "_law_limit"] := def_of F_27 (He.glo_ok X G (c.fact 27 (f := .glo "_law_page") rfl)) fun _ _ _ _ _ _ us hl => match us, hl with | [_, _], _ => rfl
  obtain ⟨_, F_28⟩ := c.def_ 28 (d := d__law_change) rfl
  have D__law_change : Def K mg (He.codeOf K ("_law_change", none)) "_law_change" s__law_change ["_law_cell", "_law_page_here", "_law_limit"] := def_of F_28 (He.glo_ok X G (c.fact 28 (f := .glo "_law_change") rfl)) fun _ _ _ _ _ _ us hl => match us, hl with | [_, _, _], _ => rfl
  obtain ⟨_, F_29⟩ := c.def_ 29 (d := d__law_done) rfl
  have D__law_done : Def K mg (He.codeOf K ("_law_done", none)) "_law_done" s__law_done ["_law_page_here", "_law_change_here"] := def_of F_29 (He.glo_ok X G (c.fact 29 (f := .glo "_law_done") rfl)) fun _ _ _ _ _ _ us hl => match us, hl with | [_, _], _ => rfl
  obtain ⟨_, F_30⟩ := c.def_ 30 (d := d__law_copied) rfl
  have D__law_copied : Def K mg (He.codeOf K ("_law_copied", none)) "_law_copied" s__law_copied ["_law_change_here"] := def_of F_30 (He.glo_ok X G (c.fact 30 (f := .glo "_law_copied") rfl)) fun _ _ _ _ _ _ us hl => match us, hl with | [_], _ => rfl
  obtain ⟨_, F_31⟩ := c.def_ 31 (d := d__law_fits) rfl
  have D__law_fits : Def K mg (He.codeOf K ("_law_fits", none)) "_law_fits" s__law_fits ["_law_page_here", "_law_change_here"] := def_of F_31 (He.glo_ok X G (c.fact 31 (f := .glo "_law_fits") rfl)) fun _ _ _ _ _ _ us hl => match us, hl with | [_, _], _ => rfl
  obtain ⟨_, F_32⟩ := c.def_ 32 (d := d__law_is_change) rfl
  have D__law_is_change : Def K mg (He.codeOf K ("_law_is_change", none)) "_law_is_change" s__law_is_change ["_law_change_here"] := def_of F_32 (He.glo_ok X G (c.fact 32 (f := .glo "_law_is_change") rfl)) fun _ _ _ _ _ _ us hl => match us, hl with | [_], _ => rfl
  obtain ⟨_, F_33⟩ := c.def_ 33 (d := d__law_whole) rfl
  have D__law_whole : Def K mg (He.codeOf K ("_law_whole", none)) "_law_whole" s__law_whole ["_law_rows"] := def_of F_33 (He.glo_ok X G (c.fact 33 (f := .glo "_law_whole") rfl)) fun _ _ _ _ _ _ us hl => match us, hl with | [_], _ => rfl
  obtain ⟨_, F_34⟩ := c.def_ 34 (d := d__law_heights_right) rfl
  have D__law_heights_right : Def K mg (He.codeOf K ("_law_heights_right", none)) "_law_heights_right" s__law_heights_right ["_law_old", "_law_new", "_law_change_here", "_law_heights"] := def_of F_34 (He.glo_ok X G (c.fact 34 (f := .glo "_law_heights_right") rfl)) fun _ _ _ _ _ _ us hl => match us, hl with | [_, _, _, _], _ => rfl
  obtain ⟨_, F_35⟩ := c.def_ 35 (d := d__law_fewest) rfl
  have D__law_fewest : Def K mg (He.codeOf K ("_law_fewest", none)) "_law_fewest" s__law_fewest ["_law_old", "_law_new"] := def_of F_35 (He.glo_ok X G (c.fact 35 (f := .glo "_law_fewest") rfl)) fun _ _ _ _ _ _ us hl => match us, hl with | [_, _], _ => rfl
  obtain ⟨_, F_36⟩ := c.def_ 36 (d := d__law_near) rfl
  have D__law_near : Def K mg (He.codeOf K ("_law_near", none)) "_law_near" s__law_near ["_law_page_here", "_law_cell"] := def_of F_36 (He.glo_ok X G (c.fact 36 (f := .glo "_law_near") rfl)) fun _ _ _ _ _ _ us hl => match us, hl with | [_, _], _ => rfl
  obtain ⟨_, F_37⟩ := c.def_ 37 (d := d__law_due) rfl
  have D__law_due : Def K mg (He.codeOf K ("_law_due", none)) "_law_due" s__law_due ["_law_old", "_law_new", "_law_told"] := def_of F_37 (He.glo_ok X G (c.fact 37 (f := .glo "_law_due") rfl)) fun _ _ _ _ _ _ us hl => match us, hl with | [_, _, _], _ => rfl
  obtain ⟨_, F_38⟩ := c.def_ 38 (d := d_init_Made) rfl
  obtain ⟨_, F_39⟩ := c.def_ 39 (d := d_made) rfl
  have D_made : Def K mg (He.codeOf K ("made", none)) "made" s_made ["old", "new"] := def_of F_39 (He.glo_ok X G (c.fact 38 (f := .glo "made") rfl)) fun _ _ _ _ _ _ us hl => match us, hl with | [_, _], _ => rfl
  obtain ⟨_, F_40⟩ := c.def_ 40 (d := d_Made_shows) rfl
  obtain ⟨_, F_41⟩ := c.def_ 41 (d := d__law_right) rfl
  have D__law_right : Def K mg (He.codeOf K ("_law_right", none)) "_law_right" s__law_right ["_law_old", "_law_new", "_law_third"] := def_of F_41 (He.glo_ok X G (c.fact 39 (f := .glo "_law_right") rfl)) fun _ _ _ _ _ _ us hl => match us, hl with | [_, _, _], _ => rfl
  obtain ⟨_, F_42⟩ := c.def_ 42 (d := d_law) rfl
  have e := hfa.symm.trans (He.glo_ok X G (c.fact 40 (f := .glo "law") rfl))
  cases e
  have D_law := defL_of (st := s_law) F_42
  refine ⟨_, fun s v => FunD.bindsA (ps := ["_law_script"]) F_42 (fun _ _ _ _ _ _ us hl => match us, hl with | [_], _ => rfl) s [v] rfl, fun base KB NB T => ?_⟩
  have m_all := He.free_ok X G (c.fact 41 (f := .free "all") rfl)
  have m_bool := He.free_ok X G (c.fact 42 (f := .free "bool") rfl)
  have m_enumerate := He.free_ok X G (c.fact 43 (f := .free "enumerate") rfl)
  have m_int := He.free_ok X G (c.fact 44 (f := .free "int") rfl)
  have m_isinstance := He.free_ok X G (c.fact 45 (f := .free "isinstance") rfl)
  have m_len := He.free_ok X G (c.fact 46 (f := .free "len") rfl)
  have m_list := He.free_ok X G (c.fact 47 (f := .free "list") rfl)
  have m_min := He.free_ok X G (c.fact 48 (f := .free "min") rfl)
  have m_range := He.free_ok X G (c.fact 49 (f := .free "range") rfl)
  have m_str := He.free_ok X G (c.fact 50 (f := .free "str") rfl)
  have m_sum := He.free_ok X G (c.fact 51 (f := .free "sum") rfl)
  have m_tuple := He.free_ok X G (c.fact 52 (f := .free "tuple") rfl)
  have m_zip := He.free_ok X G (c.fact 53 (f := .free "zip") rfl)
  obtain ⟨_, g_MOST_LINES_MADE⟩ := He.int_ok X G (c.fact 54 (f := .int "MOST_LINES_MADE" 40) rfl)
  obtain ⟨_, g_MOST_PAGE_LINES⟩ := He.int_ok X G (c.fact 55 (f := .int "MOST_PAGE_LINES" 2000) rfl)
  have cl_Made := He.cls_ok (c.fact 58 (f := .cls "Made") rfl)
  have hm_Answer := He.glo_ok X G (c.fact 56 (f := .glo "Answer") rfl)
  have hm_Made := He.glo_ok X G (c.fact 57 (f := .glo "Made") rfl)
  have na_Made_change := He.noat_ok (c.fact 59 (f := .noat "Made" "change") rfl)
  have na_Made_heights := He.noat_ok (c.fact 60 (f := .noat "Made" "heights") rfl)
  have isf_Made := isfB_ok cl_Made hex.1
  have kit_Made_Answer := kitB_ok hex.2.1
  have kit_Made_Made := kitB_ok hex.2.2
  have O_end_of := ok_end_of (P := P) (w := w) (base := base) (cs := tfL.map (He.cT K)) hx D_end_of m_len
  have O_first_missing := ok_first_missing (P := P) (w := w) (base := base) (cs := tfL.map (He.cT K)) hx D_first_missing m_enumerate m_len
  have O_first_unfit := ok_first_unfit (P := P) (w := w) (base := base) (cs := tfL.map (He.cT K)) hx D_first_unfit O_first_missing m_enumerate
  have O_replaced := ok_replaced (P := P) (w := w) (base := base) (cs := tfL.map (He.cT K)) hx D_replaced m_len
  have O_is_number := ok_is_number (P := P) (w := w) (base := base) (cs := tfL.map (He.cT K)) hx D_is_number m_bool m_int m_isinstance
  have O_is_line := ok_is_line (P := P) (w := w) (base := base) (cs := tfL.map (He.cT K)) hx D_is_line m_isinstance m_str
  have O_are_lines := ok_are_lines (P := P) (w := w) (base := base) (cs := tfL.map (He.cT K)) hx D_are_lines O_is_line m_all m_isinstance m_list (List.mem_map.mpr ⟨("are_lines", none), by decide, rfl⟩) (T _ (List.mem_map.mpr ⟨("are_lines", none), by decide, rfl⟩))
  have O_is_page := ok_is_page (P := P) (w := w) (base := base) (cs := tfL.map (He.cT K)) hx D_is_page O_are_lines m_len g_MOST_PAGE_LINES
  have O_is_piece := ok_is_piece (P := P) (w := w) (base := base) (cs := tfL.map (He.cT K)) hx D_is_piece O_is_number O_are_lines m_isinstance m_len m_tuple
  have O_are_apart := ok_are_apart (P := P) (w := w) (base := base) (cs := tfL.map (He.cT K)) hx D_are_apart O_end_of m_zip
  have O_is_told_change := ok_is_told_change (P := P) (w := w) (base := base) (cs := tfL.map (He.cT K)) hx D_is_told_change O_is_piece O_are_apart m_all m_isinstance m_list (List.mem_map.mpr ⟨("is_told_change", none), by decide, rfl⟩) (T _ (List.mem_map.mpr ⟨("is_told_change", none), by decide, rfl⟩))
  have O_check_page := ok_check_page (P := P) (w := w) (base := base) (cs := tfL.map (He.cT K)) hx D_check_page O_is_page
  have O__copied := ok__copied (P := P) (w := w) (base := base) (cs := tfL.map (He.cT K)) hx D__copied m_isinstance m_list m_tuple
  have O__leads := ok__leads (P := P) (w := w) (base := base) (cs := tfL.map (He.cT K)) hx D__leads O_is_told_change O_first_unfit O_replaced
  have O__lines_in := ok__lines_in (P := P) (w := w) (base := base) (cs := tfL.map (He.cT K)) hx D__lines_in m_len m_sum (List.mem_map.mpr ⟨("_lines_in", none), by decide, rfl⟩) (T _ (List.mem_map.mpr ⟨("_lines_in", none), by decide, rfl⟩))
  have O__is_table := ok__is_table (P := P) (w := w) (base := base) (cs := tfL.map (He.cT K)) hx D__is_table m_all m_isinstance m_len m_list (List.mem_map.mpr ⟨("_is_table", none), by decide, rfl⟩) (T _ (List.mem_map.mpr ⟨("_is_table", none), by decide, rfl⟩))
  have O__is_height_table := ok__is_height_table (P := P) (w := w) (base := base) (cs := tfL.map (He.cT K)) hx D__is_height_table O__is_table O_is_number m_all m_len (List.mem_map.mpr ⟨("_is_height_table", none), by decide, rfl⟩) (T _ (List.mem_map.mpr ⟨("_is_height_table", none), by decide, rfl⟩))
  have O__rises_by_one := ok__rises_by_one (P := P) (w := w) (base := base) (cs := tfL.map (He.cT K)) hx D__rises_by_one m_zip
  have O__row_follows := ok__row_follows (P := P) (w := w) (base := base) (cs := tfL.map (He.cT K)) hx D__row_follows m_enumerate m_zip
  have O__are_no_steps_too_high := ok__are_no_steps_too_high (P := P) (w := w) (base := base) (cs := tfL.map (He.cT K)) hx D__are_no_steps_too_high O__rises_by_one O__row_follows m_all m_enumerate (List.mem_map.mpr ⟨("_are_no_steps_too_high", none), by decide, rfl⟩) (T _ (List.mem_map.mpr ⟨("_are_no_steps_too_high", none), by decide, rfl⟩))
  have O__next_row := ok__next_row (P := P) (w := w) (base := base) (cs := tfL.map (He.cT K)) hx D__next_row m_enumerate m_min
  have O__fewest_lines := ok__fewest_lines (P := P) (w := w) (base := base) (cs := tfL.map (He.cT K)) hx D__fewest_lines O__next_row m_len m_list m_range
  have O__lines_kept := ok__lines_kept (P := P) (w := w) (base := base) (cs := tfL.map (He.cT K)) hx D__lines_kept m_len
  have O__change_between := ok__change_between (P := P) (w := w) (base := base) (cs := tfL.map (He.cT K)) hx D__change_between m_len
  have O__law_cell_at := ok__law_cell_at (P := P) (w := w) (base := base) (cs := tfL.map (He.cT K)) hx D__law_cell_at m_len
  have O__law_numbers := ok__law_numbers (P := P) (w := w) (base := base) (cs := tfL.map (He.cT K)) hx D__law_numbers 
  have O__law_lines := ok__law_lines (P := P) (w := w) (base := base) (cs := tfL.map (He.cT K)) hx D__law_lines 
  have O__law_page := ok__law_page (P := P) (w := w) (base := base) (cs := tfL.map (He.cT K)) hx D__law_page O__law_numbers O__law_lines
  have O__law_change := ok__law_change (P := P) (w := w) (base := base) (cs := tfL.map (He.cT K)) hx D__law_change O__law_numbers O__law_lines m_len m_range
  have O__law_done := ok__law_done (P := P) (w := w) (base := base) (cs := tfL.map (He.cT K)) hx D__law_done m_len
  have O__law_copied := ok__law_copied (P := P) (w := w) (base := base) (cs := tfL.map (He.cT K)) hx D__law_copied m_list
  have O__law_fits := ok__law_fits (P := P) (w := w) (base := base) (cs := tfL.map (He.cT K)) hx D__law_fits m_len m_range
  have O__law_is_change := ok__law_is_change (P := P) (w := w) (base := base) (cs := tfL.map (He.cT K)) hx D__law_is_change m_bool m_isinstance m_len m_list m_tuple
  have O__law_whole := ok__law_whole (P := P) (w := w) (base := base) (cs := tfL.map (He.cT K)) hx D__law_whole m_all m_bool m_int m_isinstance m_list
  have O__law_heights_right := ok__law_heights_right (P := P) (w := w) (base := base) (cs := tfL.map (He.cT K)) hx D__law_heights_right m_all m_len m_range m_sum
  have O__law_fewest := ok__law_fewest (P := P) (w := w) (base := base) (cs := tfL.map (He.cT K)) hx D__law_fewest m_len m_list m_min m_range
  have O__law_near := ok__law_near (P := P) (w := w) (base := base) (cs := tfL.map (He.cT K)) hx D__law_near O__law_numbers O__law_lines m_len m_list m_range
  have O__law_due := ok__law_due (P := P) (w := w) (base := base) (cs := tfL.map (He.cT K)) (CA := He.ga K) hx D__law_due O__law_fits O__law_done O__law_heights_right cl_Made na_Made_change na_Made_heights
  have I_Made := ok_init_Made (P := P) (w := w) (base := base) (cs := tfL.map (He.cT K)) (CA := He.ga K) hx F_38 (He.mkr_ok (c.fact 61 (f := .mkr "Made") rfl)) O__copied cl_Made na_Made_change na_Made_heights
  have O_made := ok_made (P := P) (w := w) (base := base) (cs := tfL.map (He.cT K)) (CA := He.ga K) hx D_made O_check_page O__fewest_lines O__change_between O__lines_kept I_Made m_len g_MOST_LINES_MADE hm_Made
  have M_Made_shows := ok_Made_shows (P := P) (w := w) (base := base) (cs := tfL.map (He.cT K)) (CA := He.ga K) hx F_40 (He.meth_ok (c.fact 62 (f := .meth "Made" "shows") rfl)) O_check_page O__leads O__is_height_table O__lines_in O__are_no_steps_too_high cl_Made na_Made_change na_Made_heights
  have O__law_right := ok__law_right (P := P) (w := w) (base := base) (cs := tfL.map (He.cT K)) (CA := He.ga K) hx D__law_right O_made O__law_is_change O__law_whole O__law_due O__law_fewest M_Made_shows m_bool m_isinstance m_list cl_Made hm_Answer hm_Made isf_Made kit_Made_Answer kit_Made_Made na_Made_change na_Made_heights
  have O_law := ok_law (P := P) (w := w) (base := base) (cs := tfL.map (He.cT K)) (CA := He.ga K) hx D_law O__law_page O__law_cell_at O__law_near O__law_right O_made m_list cl_Made na_Made_change
  exact O_law
end K06

open PySem PySem.W PySem.Calls PyProof.Rows
theorem PySem.Challenge.cw_patchlay_k06_whole_made_holds : PySem.Challenge.rw_patchlay_k06_whole_made.Holds := by
  w_on; o_law
  refine HandSHeadRun.head_any (r := OpenLaw.row PySem.Challenge.rw_patchlay_k06_whole_made) (q := view (OpenLaw.row PySem.Challenge.rw_patchlay_k06_whole_made).prog [53]) (H := K06.hk) (ob := K06.ob) (M := 6000) (loose := K06.names) (d := HandSHeadRun.topDef (OpenLaw.row PySem.Challenge.rw_patchlay_k06_whole_made).prog 53) (kwd := []) K06.ob_eq
    (by kernel_rfl) (fun s => by kernel_rfl) K06.run (by kernel_rfl) (by kernel_rfl) (by kernel_rfl) (by rfl) (by first | assumption | decide +kernel) (by decide +kernel) ⟨rfl, rfl, rfl, rfl, rfl, by decide +kernel⟩ ?hw ?hc
  case hw => w_witness2
  case hc =>
    refine LamX.walk_ofTsE (l := PySem.Challenge.rw_patchlay_k06_whole_made) (n := 63) (k := 11) (x := "_law_script") (CX := fun _ => L2.CX0) rfl (by decide) (by kernel_rfl) ⟨rfl, by decide, by decide⟩ ?F (fun _ _ _ _ _ z => z)
    intro w mg fa h Y G hmg0
    obtain ⟨K, KX, c⟩ := Y
    have hmg : mg ("law" : PySem.Str) = some (.ref fa) := by
      have e : (HandSHeadRun.topDef (OpenLaw.row PySem.Challenge.rw_patchlay_k06_whole_made).prog 53).name = ("law" : PySem.Str) := by kernel_rfl
      rw [← e]
      exact hmg0
    obtain ⟨fd, hb, hF⟩ := K06.facts (P := (PySem.Challenge.rw_patchlay_k06_whole_made).prog) (w := w) KX G c.t.d c.more hmg
    exact ⟨K, KX, Dl.law_at KX c (fun ns => ⟨true, K06.φ_law_ok (He.ga K) ns⟩) hb hF⟩
end
