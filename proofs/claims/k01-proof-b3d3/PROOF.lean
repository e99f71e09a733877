import PyProof.Rows.All
import HandS.AnyAll
import HandS.GenOver
import HandS.GenBody
import HandS.Lambda
import HandS.Conv
import PyProof.TupleOfGen
import Wide.All
import OpenK.AllK
import Wide.FinOn
import HandS.ForMost
import HandS.Defaults
import HandS.IsInst
import HandS.Wide
import HandS.Star
import HandS.Zip
import HandS.DictComp
import HandS.TupAny
import HandS.Deep
import HandS.HeadHook4
import HandS.HeadWalk
import HandS.Head2
import PySem.Challenge.RW_passmill_k01_whole_runs
import HandS.CallLocal
import HandS.Strs
import HandS.Style
import HandS.TryOnly
import KE.GoesEnum
import HandS.Iter
import HandS.Small
import KE.KStateDown
import HandS.HeadEnd
set_option Elab.async false
set_option linter.all false
set_option maxRecDepth 100000
set_option maxHeartbeats 4000000
set_option maxHeartbeats 4000000
/-! Generator expressions handed to all and any, over anything that a PI serves, with any target, tests and element of the layer. -/
namespace GX
open PySem PySem.Spec PyProof.Rows L2 GxR GenW

/-- the context of a generator expression's own frame, woken around B -/
abbrev gblkB (X : Cx) (B : Around) (s : Shared) (H : Hp) (cenv : Env) (fp : List Addr) (pn : List (Addr × Obj)) : Cx :=
  { X with A := B.deeper cenv, s_0 := s, H_0 := H, env := cenv, outer := X.stack, stack := cenv :: X.stack, ex := fp, fn := fun x => cenv.scope.names.lookup x == some .cell, pn := pn, xe := fun _ _ => False }
/-- .. by a built-in's own loop; by a collecting one -/
abbrev gblk (X : Cx) (s : Shared) (H : Hp) (cenv : Env) (fp : List Addr) (pn : List (Addr × Obj)) : Cx := gblkB X X.A.in1.in1 s H cenv fp pn
abbrev gblkT (X : Cx) (s : Shared) (H : Hp) (cenv : Env) (fp : List Addr) (pn : List (Addr × Obj)) : Cx := gblkB X X.A.in1.in1.in1.in1 s H cenv fp pn

/-! ### code objects of generator expressions, known from their making on -/
def GenC (c P : Addr) : HO := .ext fun h => PySem.W.CodeHd h c P
theorem genC_ne {c P : Addr} (ps : Array Value) : GenC c P ≠ .tbl ps := fun z => by
  unfold GenC at z
  cases z
/-- this value is such a code object, and its table is known -/
def GoodC (H : Hp) (cv : Value) : Prop := ∃ c P qs, cv = .ref c ∧ H c = some (GenC c P) ∧ H P = some (.tbl qs) ∧ TriplesOk qs.toList
/-- the table at P, all whose code objects are good -/
def TabN (H : Hp) (P : Addr) : Prop := ∃ ps : Array Value, H P = some (.tbl ps) ∧ TriplesOk ps.toList ∧ ∀ (pos : Pos) (cv : Value), codeAmong pos ps.toList = some cv → GoodC H cv
/-- the table has grown by good ones, all else stands -/
def TabbedN (P : Addr) (H H' : Hp) : Prop := (∃ ps ps' : Array Value, H P = some (.tbl ps) ∧ H' P = some (.tbl ps') ∧ TriplesOk ps'.toList ∧ ∀ (pos : Pos) (cv : Value), codeAmong pos ps'.toList = some cv → codeAmong pos ps.toList = some cv ∨ GoodC H' cv) ∧
  ∀ b o, b ≠ P → H b = some o → H' b = some o
/-- the generator's code object, as the table tells it -/
def CodeAt (H : Hp) (P : Addr) (pos : Pos) (code : Value) : Prop := ∃ ps : Array Value, H P = some (.tbl ps) ∧ codeAmong pos ps.toList = some code
theorem GoodC.tabbed {P : Addr} {H H' : Hp} {cv : Value} (t : TabbedN P H H') (h : GoodC H cv) : GoodC H' cv := by
  obtain ⟨c, Q, qs, rfl, h1, h2, h3⟩ := h
  obtain ⟨⟨ps, ps', e1, e2, e3, _⟩, k⟩ := t
  have nc : c ≠ P := fun z => by
    rw [z, e1] at h1
    exact genC_ne ps (Option.some.inj h1).symm
  by_cases hq : Q = P
  · exact ⟨c, Q, ps', rfl, k c _ nc h1, by rw [hq]; exact e2, e3⟩
  · exact ⟨c, Q, qs, rfl, k c _ nc h1, k Q _ hq h2, h3⟩
theorem TabN.tabbed {P : Addr} {H H' : Hp} (t : TabN H P) (h : TabbedN P H H') : TabN H' P := by
  obtain ⟨ps, h1, h2, h3⟩ := t
  obtain ⟨⟨qs, qs', e1, e2, e3, e4⟩, k⟩ := id h
  rw [h1] at e1
  cases e1
  refine ⟨qs', e2, e3, fun pos cv e => ?_⟩
  rcases e4 pos cv e with e | e
  · exact (h3 pos cv e).tabbed h
  · exact e
theorem TabN.good {P : Addr} {H : Hp} {pos : Pos} {cv : Value} (t : TabN H P) (h : CodeAt H P pos cv) : GoodC H cv := by
  obtain ⟨ps, h1, h2, h3⟩ := t
  obtain ⟨qs, e1, e2⟩ := h
  rw [h1] at e1
  cases e1
  exact h3 pos cv e2

theorem room_gen {k : Nat} {A : Around} (r : Room (k + 1) A) (env : Env) : Room k (A.in1.in1.deeper env) :=
  ⟨r.hd, by have := r.dp; show A.depth + 1 + 3 * k + 5 < _; omega, by have := r.un; show A.units + 1 + 1 + 3 + 16 * k + 200 < _; omega⟩

theorem room_genT {k : Nat} {A : Around} (r : Room (k + 1) A) (env : Env) : Room k (A.in1.in1.in1.in1.deeper env) :=
  ⟨r.hd, by have := r.dp; show A.depth + 1 + 3 * k + 5 < _; omega, by have := r.un; show A.units + 1 + 1 + 1 + 1 + 3 + 16 * k + 200 < _; omega⟩

theorem over_gen {A : Around} {elt : Expr} {gs : List Comprehension} {scope : Scope} {pos : Pos} {it acc : Value} {env : Env} : A.over (.compLoop (.GeneratorExp elt gs scope pos) 0 it acc env) [] = A.deeper env := by
  first
    | rfl
    | (obtain ⟨hd, d, fr, gs, u⟩ := A; simp [Around.over, Around.deeper, marksOver, frameCount, unitsOf, envsOf, guardsOf, pushEnvs, pushGuards, Code.envs, Code.env?, Code.isFrame, Code.guards, Code.isGuard, Code.weight, Code.frames, Code.isCreation, Code.isCaller, Code.cUnits])

section
variable {X : Cx} {pins : List (Addr × Obj)} {σ : L2.St} {H : Hp} {s : Shared}
/-- the generators have turned, all else stands -/
theorem inv_gens {s' : Shared} (I : Inv X pins σ H s) (hh : s'.heap = s.heap) (ho : s'.os = s.os) (hb : AllBare s'.gens) : Inv X pins σ H s' := by
  refine ⟨I.ok, ho.trans I.os, hb, ?_, ?_, ?_, I.free, I.freeC, ?_, ?_, I.len⟩
  · rw [hh]; exact I.base
  · rw [hh]; exact I.loc
  · rw [hh]; exact I.cell
  · rw [hh]; exact I.pin
  · rw [hh]; exact I.hok

/-- the frame of a generator expression: its own names are local, others captured -/
structure GOk (N : List Str) (sc scope : Scope) (own : List (Str × Nat)) : Prop where
  blk : BlkOk N sc scope own
  co : scope.isCoroutine = false
  dot : scope.names.lookup (".0" : Str) = some NameKind.local

theorem pushCells_size : ∀ (names : List (Str × NameKind)) (h : Heap), h.objs.size ≤ (pushCells h names).objs.size
  | [], _ => Nat.le_refl _
  | (_, kind) :: r, h => by
    unfold pushCells
    split
    · refine Nat.le_trans ?_ (pushCells_size r _)
      rw [Heap.size_push]
      exact Nat.le_succ _
    · exact pushCells_size r h
theorem gen_start {B : Around} {scope : Scope} {own : List (Str × Nat)} {fp : List Addr} {code : Value} {it : Value} {h' : Heap} {go : Obj} {g' : Array GenState} {tk : Nat} (hBf : B.frames = some X.stack) (hBh : X.calm = true → B.handled = none) (I : Inv X pins σ H s) (ok : GOk X.N X.env.scope scope own) (hN : X.N.Nodup) (hfp : ∀ b ∈ fp, FpOk X pins H b ∧ b < s.heap.objs.size)
    (hn : h'.Ns s.heap.objs.size (fun y => if y = ".0" then some it else none)) (hs : Heap.SameBut s.heap.objs.size (pushCells (s.heap.push { cls := .type "frame", data := .dict #[] }) scope.names) h') (hg : AllBare g') (hgo : ∀ v, go.data ≠ .cell v) (hgf : go.isFreed = false) :
    Inv (gblkB X B s H (genEnv scope (cellsFrom (s.heap.objs.size + 1) scope.names (cloFrom X.env.cells scope.names [])) s.heap.objs.size code builtinsNs X.env) fp [(h'.objs.size, go)]) [] (wipe σ (own.map (·.2))) H { s with gens := g', toks := tk, heap := h'.push go } := by
  have hfree : ∀ y ∈ scope.names, y.2 = .free → ∃ c, X.env.cells.lookup y.1 = some c := fun y hy e => by
    rcases ok.blk.free y hy e with k | k
    · exact I.ok.has _ (.inl k)
    · exact I.ok.has _ (.inr k)
  have hsz : s.heap.objs.size + 1 ≤ h'.objs.size := by
    have q := pushCells_size scope.names (s.heap.push { cls := .type "frame", data := .dict #[] })
    rw [Heap.size_push] at q
    rw [hs.1]
    exact q
  have kc : ∀ b o, b ≠ s.heap.objs.size → (pushCells (s.heap.push { cls := .type "frame", data := .dict #[] }) scope.names).get? b = some o → (h'.push go).get? b = some o := fun b o hb e => Heap.get?_push_of_some _ (hs.extBut b o hb e)
  have kp : ∀ b o, s.heap.get? b = some o → (h'.push go).get? b = some o := fun b o e => kc b o (Nat.ne_of_lt (Heap.lt_size e)) (pushCells_keeps _ _ _ _ (Heap.get?_push_of_some _ e))
  generalize hcenv : genEnv scope (cellsFrom (s.heap.objs.size + 1) scope.names (cloFrom X.env.cells scope.names [])) s.heap.objs.size code builtinsNs X.env = cenv
  have hL : cenv.locals = s.heap.objs.size := by rw [← hcenv]; rfl
  have hcl : cenv.cells = cellsFrom (s.heap.objs.size + 1) scope.names (cloFrom X.env.cells scope.names []) := by rw [← hcenv]; rfl
  have hsc : cenv.scope = scope := by rw [← hcenv]; rfl
  have hfr : cenv.frame = some cenv.locals := by rw [← hcenv]; rfl
  rw [← Heap.size_push s.heap { cls := .type "frame", data := .dict #[] }] at hcl
  have clm : ∀ {y c}, (y, c) ∈ cloFrom X.env.cells scope.names [] → X.env.cells.lookup y = some c ∧ c < s.heap.objs.size := fun {y c} hm => by
    rcases cloFrom_mem hm with hm | ⟨h1, rfl⟩
    · cases hm
    · obtain ⟨c, hc⟩ := hfree _ h1 rfl
      rw [hc]
      obtain ⟨w, z⟩ := I.cell _ _ hc
      exact ⟨rfl, z.lt⟩
  have mem : ∀ {y c}, cenv.cells.lookup y = some c → (X.env.cells.lookup y = some c ∧ c < s.heap.objs.size) ∨ (s.heap.objs.size + 1 ≤ c ∧ CellAt (pushCells (s.heap.push { cls := .type "frame", data := .dict #[] }) scope.names) c none) := fun {y c} e => by
    rw [hcl] at e
    rcases cells_mem (PySem.mem_of_lookup e) with hm | ⟨_, h2, h3⟩
    · exact .inl (clm hm)
    · rw [Heap.size_push] at h2; exact .inr ⟨h2, h3⟩
  have look : ∀ {y}, scope.names.lookup y = some .free → ∃ c, cenv.cells.lookup y = some c ∧ X.env.cells.lookup y = some c := fun {y} hl => by
    have hy : (y, NameKind.free) ∈ scope.names := PySem.mem_of_lookup hl
    obtain ⟨c', e'⟩ := mem_lookup (cells_acc (names := scope.names) (n := (s.heap.push { cls := .type "frame", data := .dict #[] }).objs.size) (cloFrom_has (cells := X.env.cells) (acc := []) hy))
    rw [← hcl] at e'
    refine ⟨c', e', ?_⟩
    rw [hcl] at e'
    rcases cells_mem (PySem.mem_of_lookup e') with hm | ⟨h1, _, _⟩
    · exact (clm hm).1
    · have := ok.blk.uniq _ h1
      rw [hl] at this; cases this
  have okB : (gblkB X B s H cenv fp [(h'.objs.size, go)]).Ok := by
    refine ⟨I.ok.mod, by show cenv.scope.kind = _; rw [hsc]; exact ok.blk.kind, by show cenv.globals = _; rw [← hcenv]; exact I.ok.glob, by show cenv.builtins = _; rw [← hcenv]; rfl, by show s.heap.objs.size ≤ cenv.locals; rw [hL]; exact Nat.le_refl _,
      fun y z c e1 e2 => ?_, fun y hy => ?_, fun y c z e => ?_, hBh, ?_, .inr ⟨rfl, hfr⟩, fun b hb => ⟨?_, fun y c e z => ?_⟩, I.bs, Nat.le_trans I.ok.bsz I.sz, fun b o e hb => ?_, fun b hb z => ?_, I.stack, I.stkFree⟩
    · have e1 : cenv.cells.lookup y = some c := e1
      have e2 : cenv.cells.lookup z = some c := e2
      rw [hcl] at e1 e2
      refine cells_inj (fun p hp => ?_) (fun y z c a b => I.ok.inj y z c (clm a).1 (clm b).1) (PySem.mem_of_lookup e1) (PySem.mem_of_lookup e2)
      rw [Heap.size_push]
      exact Nat.lt_succ_of_lt (clm (y := p.1) (c := p.2) hp).2
    · show ∃ c, cenv.cells.lookup y = some c
      rcases hy with hy | hy
      · have hy' : cenv.scope.names.lookup y = some .cell := hy
        rw [hsc] at hy'
        obtain ⟨c, hm⟩ := cells_has (n := (s.heap.push { cls := .type "frame", data := .dict #[] }).objs.size) (acc := cloFrom X.env.cells scope.names []) (PySem.mem_of_lookup hy')
        obtain ⟨c', e'⟩ := mem_lookup hm
        exact ⟨c', by rw [hcl]; exact e'⟩
      · have hy' : cenv.scope.names.lookup y = some .free := hy
        rw [hsc] at hy'
        obtain ⟨c, h1, _⟩ := look hy'
        exact ⟨c, h1⟩
    · have z : (cenv.scope.names.lookup y == some NameKind.cell) = true := z
      rw [hsc] at z
      have z : scope.names.lookup y = some .cell := by simpa using z
      have e : cenv.cells.lookup y = some c := e
      rw [hcl] at e
      rcases cells_mem (PySem.mem_of_lookup e) with hm | ⟨_, h2, _⟩
      · rcases cloFrom_mem hm with hm | ⟨h1, _⟩
        · cases hm
        · have q := ok.blk.uniq _ h1
          rw [z] at q; cases q
      · rw [Heap.size_push] at h2
        exact Nat.le_of_succ_le h2
    · exact Around.frames_deeper hBf
    · show b ≠ cenv.locals
      rw [hL]; exact Nat.ne_of_lt (hfp b hb).2
    · have e : cenv.cells.lookup y = some c := e
      rcases mem e with ⟨h1, _⟩ | ⟨h1, _⟩
      · exact (hfp b hb).1.2.2.2.2.1 y c h1 z
      · have h2 : s.heap.objs.size + 1 ≤ b := by rw [← z]; exact h1
        exact absurd (Nat.lt_of_lt_of_le (hfp b hb).2 (Nat.le_of_succ_le h2)) (Nat.lt_irrefl _)
    · rcases (hfp b hb).1.2.2.2.1 with z | z
      · exact I.ok.noex b o e z
      · exact absurd (Nat.lt_of_lt_of_le (Heap.lt_size e) (Nat.le_trans I.ok.bsz z)) (Nat.lt_irrefl _)
    · rcases List.mem_cons.mp (I.stkSub b z) with z | z
      · exact (hfp b hb).1.2.1 z
      · exact (hfp b hb).1.2.2.1 z
  refine ⟨okB, rfl, hg, Un.kept kp, ⟨fun y => if y = ".0" then some it else none, ?_, fun i y av e1 e2 e3 => ?_⟩, fun y c e => ?_, ?_, fun y c e => ?_, fun p hp => ?_, I.hok.kept kp, by rw [wipe_length]; exact I.len⟩
  · show Heap.Ns _ cenv.locals _
    rw [hL]
    exact hn.push _
  · obtain ⟨e2, hne⟩ := wipe_some e2
    have hfr : scope.names.lookup y = some .free := by
      have key : ∀ k, cenv.scope.names.lookup y = some k → k = .local ∨ k = .cell ∨ k = .free → scope.names.lookup y = some .free := fun k hk hk' => by
        rw [hsc] at hk
        have no : ¬ (k = .local ∨ k = .cell) := fun hh => by
          rcases ok.blk.own _ (PySem.mem_of_lookup hk) hh with e' | e'
          · obtain ⟨p, hp, hpy⟩ := List.mem_map.mp e'
            have e3 := ok.blk.ix p hp
            have : p.1 = y := hpy
            rw [this] at e3
            exact hne (List.mem_map.mpr ⟨p, hp, nodup_ix hN e3 e1⟩)
          · exact e' (List.mem_of_getElem? e1)
        rcases hk' with rfl | rfl | rfl
        · exact absurd (.inl rfl) no
        · exact absurd (.inr rfl) no
        · exact hk
      have e3 : Vis cenv.scope y := e3
      rcases e3 with e3 | e3 | e3
      · exact key _ e3 (.inl rfl)
      · exact key _ e3 (.inr (.inl rfl))
      · exact key _ e3 (.inr (.inr rfl))
    obtain ⟨m, hn, hl⟩ := I.loc
    have hvis : Vis X.env.scope y := (ok.blk.free _ (PySem.mem_of_lookup hfr) rfl).elim (fun k => .inr (.inl k)) (fun k => .inr (.inr k))
    obtain ⟨w, r, q⟩ := hl i y av e1 e2 hvis
    have hk : cenv.kindOf y = some .free := by show cenv.scope.names.lookup y = _; rw [hsc]; exact hfr
    refine ⟨w, r, .inr ⟨.inr hk, ?_⟩⟩
    obtain ⟨c, h1, h2⟩ := look hfr
    rcases q with ⟨k, _⟩ | ⟨_, c', e', z⟩
    · have k : X.env.scope.names.lookup y = some .local := k
      rcases ok.blk.free _ (PySem.mem_of_lookup hfr) rfl with k' | k' <;> rw [show X.env.scope.names.lookup y = _ from k'] at k <;> cases k
    · rw [h2] at e'; cases e'
      exact ⟨c, h1, z.keeps kp⟩
  · have e : cenv.cells.lookup y = some c := e
    rcases mem e with ⟨h1, _⟩ | ⟨h1, z⟩
    · obtain ⟨w, z⟩ := I.cell y c h1
      exact ⟨w, z.keeps kp⟩
    · obtain ⟨o, z1, z2⟩ := z
      exact ⟨_, o, kc c o (Nat.ne_of_gt h1) z1, z2⟩
  · show H cenv.locals = none
    rw [hL]; exact I.hok.fresh (Nat.le_refl _)
  · have e : cenv.cells.lookup y = some c := e
    rcases mem e with ⟨h1, _⟩ | ⟨h1, _⟩
    · exact I.freeC y c h1
    · exact I.hok.fresh (Nat.le_of_succ_le h1)
  · have hp : p ∈ [(h'.objs.size, go)] ++ ([] : List (Addr × Obj)) := hp
    simp only [List.append_nil, List.mem_singleton] at hp
    subst hp
    refine ⟨Heap.get?_push_size _ hgf, I.hok.fresh (Nat.le_trans (Nat.le_succ _) hsz), ?_, fun hb => ?_, hgo⟩
    · show h'.objs.size ≠ cenv.locals
      rw [hL]; exact Nat.ne_of_gt hsz
    · obtain ⟨_, o, ho, _⟩ := I.stack.mem (show h'.objs.size ∈ frs X.stack from hb)
      have h9 : (h'.objs.size : Nat) < s.heap.objs.size := Heap.lt_size ho
      omega

/-! ### the loop -/
/-- what a turn has to reach -/
def AllStep (b₀ : Bool) (g : TG) (tt : TT) (te : TE) (vs : List Nat) (σ : L2.St) (Q : VK) (x : V) (H : Hp) (Nx : Hp → Prop) : Prop :=
  g x (wipe σ vs) H fun σ2 H2 => wipe σ2 vs = wipe σ vs ∧ tt σ2 H2 fun b H3 => if b = true then te σ2 H3 fun y H4 => ∃ c, y = .bl c ∧ if c = b₀ then Q (.bl b₀) H4 else Nx H4 else Nx H3
/-- the loop over what J walks -/
def AllLoop (b₀ : Bool) (g : TG) (tt : TT) (te : TE) (vs : List Nat) (σ : L2.St) (Q : VK) (J : It) (H2 : Hp) : Prop :=
  ∃ W : Nat → Nat → Hp → Prop, (∃ m, W 0 m H2) ∧ ∀ i m H, W i m H → (J.stop i H ∧ Q (.bl (!b₀)) H) ∨ (J.go i H ∧ ∃ Nx : Hp → Prop, (∀ H', Nx H' → ∃ m', m' < m ∧ W (i + 1) m' H') ∧ ∀ x H', J.yld i H x H' → AllStep b₀ g tt te vs σ Q x H' Nx)
/-- what the expression gives: b₀ ends it -/
def tAllG (b₀ : Bool) (P : Addr) (wi : TI) (g : TG) (tt : TT) (te : TE) (vs : List Nat) : TE := fun σ H Q => wi σ H fun J H1 => TabN H1 P ∧ ∀ H2, TabbedN P H1 H2 → AllLoop b₀ g tt te vs σ Q J H2

/-- the run's end; an item handed out -/
def gR (G : Cx) (σw : L2.St) (b₀ : Bool) (Q : VK) : Nat → Shared → Shared → Prop := fun _ _ s1 => ∃ H1, Inv G [] σw H1 s1 ∧ Q (.bl (!b₀)) H1
def gY (G : Cx) (σw : L2.St) (b₀ : Bool) (Q : VK) : Protocol := fun _ _ v s1 kap => ∃ c H1, v = .bool c ∧ Inv G [] σw H1 s1 ∧ (c = b₀ → Q (.bl b₀) H1) ∧ (c ≠ b₀ → ∀ s2 : Shared, s2.heap = s1.heap → s2.os = s1.os → AllBare s2.gens → kap (.send .none) s2)

theorem seg_gen {G : Cx} {A : Around} {elt tg iter : Expr} {ifs : List Expr} {scope : Scope} {pos : Pos} {it : Addr} {fp : List Addr} {tn : Nat → Heap → Prop} {J : It} {g : TG} {tt : TT} {te : TE} {vs : List Nat} {σ0 : L2.St} {b₀ : Bool} {Q : VK} {W : Nat → Nat → Hp → Prop}
    (hA : G.A = A.deeper G.env) (hxe : G.xe = fun _ _ => False) (hc : G.calm = true) (hco : G.env.scope.isCoroutine = false) (hex : G.ex = fp) (hpn : ∀ p ∈ G.pn, p.1 ∉ fp)
    (T : Turn G.prog G.w G.K tg J fp it tn) (pg : PG G tg g) (pt : PTs G ifs tt) (pe : PE G elt te)
    (turn : ∀ i m H, W i m H → (J.stop i H ∧ Q (.bl (!b₀)) H) ∨ (J.go i H ∧ ∃ Nx : Hp → Prop, (∀ H', Nx H' → ∃ m', m' < m ∧ W (i + 1) m' H') ∧ ∀ x H', J.yld i H x H' → g x (wipe σ0 vs) H' fun σ2 H2 => wipe σ2 vs = wipe σ0 vs ∧ tt σ2 H2 fun b H3 =>
      if b = true then te σ2 H3 fun y H4 => ∃ c, y = .bl c ∧ if c = b₀ then Q (.bl b₀) H4 else Nx H4 else Nx H3)) :
    ∀ (m n i : Nat) (H' : Hp) (s₀ s : Shared), m < n → Inv G [] (wipe σ0 vs) H' s → tn i s.heap → (∀ b ∈ fp, H' b = none) → W i m H' →
      Seg (model G.prog G.w) A (fun n s₀ r s₁ => r = .ok .next ∧ gR G (wipe σ0 vs) b₀ Q n s₀ s₁) (gY G (wipe σ0 vs) b₀ Q) n s₀ (.compLoop (.GeneratorExp elt [⟨tg, iter, ifs, 0⟩] scope pos) 0 (.ref it) .none G.env)
        ((model G.prog G.w).den (.compLoop (.GeneratorExp elt [⟨tg, iter, ifs, 0⟩] scope pos) 0 (.ref it) .none G.env)) [] s := by
  have stat : ∀ {σ' : L2.St} {H' : Hp} {s' : Shared}, Inv G [] σ' H' s' → (∀ b ∈ fp, H' b = none) → ∀ b ∈ fp, FpOk G [] H' b := fun {σ' H' s'} I' hn b hb =>
    ⟨hn b hb, (I'.ok.exf b (by rw [hex]; exact hb)).1, I'.ok.exfs b (by rw [hex]; exact hb), .inl (by rw [hex]; exact hb), fun x c e => (I'.ok.exf b (by rw [hex]; exact hb)).2 x c e, fun p hp => by
      rw [List.append_nil] at hp
      exact fun z => hpn p hp (by rw [z]; exact hb)⟩
  have hov : A.over (.compLoop (.GeneratorExp elt [⟨tg, iter, ifs, 0⟩] scope pos) 0 (.ref it) .none G.env) [] = G.A := by rw [hA]; exact over_gen
  intro m
  induction m using Nat.strongRecOn with
  | ind m ih =>
  intro n i H5 s₀ s5 hmn I5 st5 n5 w5
  show Seg _ A _ _ _ s₀ _ ((compTurn (.GeneratorExp elt [⟨tg, iter, ifs, 0⟩] scope pos) 0 (.ref it) .none G.env).onRaise (leaving G.env)) [] s5
  rw [compTurn_gen, Sem.onRaise_eq_wrap]
  refine seg_bind_wrap (wpAny_standAt ?_)
  rcases turn i m H5 w5 with ⟨stop, qq⟩ | ⟨go, Nx, hNx, step⟩
  · refine seg_bind_wrap ?_
    rw [hov]
    refine thnF (T.done G rfl rfl rfl hc i [] s5 _ H5 (fun _ _ => False) I5 (stat I5 n5) st5 stop) fun r s6 ⟨hr, I6⟩ => ?_
    subst hr
    exact seg_end (.ok .next) ⟨rfl, H5, I6, qq⟩
  · refine seg_bind_wrap ?_
    rw [hov]
    refine thnF (T.item G rfl rfl rfl hc i [] s5 _ H5 (fun _ _ => False) I5 (stat I5 n5) st5 go) fun r s6 ⟨u, hr, h6⟩ => ?_
    subst hr
    refine seg_bind_wrap ?_
    rw [hov]
    refine thnF h6 fun _ s7 ⟨x, H7, I7, r7, y7, st7, n7⟩ => ?_
    have I7' := I7.pinned (stat I7 n7) (T.obj _ _ st7)
    refine seg_bind_wrap ?_
    rw [hov]
    have pgr := pg.run _ s7 _ H7 x u _ I7' r7 (step x H7 y7)
    rw [hxe] at pgr
    refine thnF pgr fun _ s8 ⟨σ8, H8, I8, hw8, q8⟩ => ?_
    refine seg_bind_wrap ?_
    rw [hov]
    have ptr := pt.run _ s8 σ8 H8 _ I8 q8
    rw [hxe] at ptr
    refine thnF ptr fun b s9 ⟨H9, I9, q9⟩ => ?_
    -- the turn's end
    have fin : ∀ {s' : Shared} {H' : Hp}, Inv G ([] ++ pinsAt fp s7.heap) σ8 H' s' → Inv G [] (wipe σ0 vs) H' s' ∧ tn (i + 1) s'.heap ∧ (∀ b ∈ fp, H' b = none) := fun {s' H'} I' => by
      have pin' : ∀ b ∈ fp, ∀ o, s7.heap.get? b = some o → s'.heap.get? b = some o ∧ H' b = none := fun b hb o e =>
        let z := I'.pin (b, o) (List.mem_append_right _ (List.mem_append_right _ (mem_pinsAt hb e)))
        ⟨z.1, z.2.1⟩
      have hl : (wipe σ0 vs).length = σ8.length := by rw [← hw8, wipe_length]
      refine ⟨(I'.unpinned (pins := [])).weak hl (fun j v e => ?_), T.keep _ _ _ st7 fun b hb o e => (pin' b hb o e).1, fun b hb => ?_⟩
      · rw [← hw8] at e
        exact (wipe_some e).1
      · obtain ⟨o, e, _⟩ := T.obj _ _ st7 b hb
        exact (pin' b hb o e).2
    cases b with
    | false =>
      simp only [Bool.false_eq_true, if_false] at q9 ⊢
      obtain ⟨m', hm, w'⟩ := hNx H9 q9
      obtain ⟨f1, f2, f3⟩ := fin I9
      exact seg_again rfl (ih m' hm n (i + 1) H9 s₀ s9 (by omega) f1 f2 f3 w')
    | true =>
      simp only [if_true] at q9 ⊢
      have hy : ∀ v, yieldOut G.env v = yieldValue v := fun v => by simp only [yieldOut, hco, Bool.false_eq_true, if_false]
      simp only [hy]
      rw [Sem.bind_eq_wrap', Sem.bind_eq_wrap', Sem.wrap_wrap, Sem.wrap_wrap]
      refine seg_wrap ?_
      rw [hov]
      have per := pe.run _ s9 σ8 H9 _ I9 q9
      rw [hxe] at per
      refine thnF per fun z s10 ⟨yv, H10, I10, r10, c, hyv, q10⟩ => ?_
      subst hyv
      cases r10
      obtain ⟨f1, f2, f3⟩ := fin I10
      by_cases hcb : c = b₀
      · rw [if_pos hcb] at q10
        cases n with
        | zero => omega
        | succ n => exact seg_at (seg_yield rfl rfl rfl ⟨c, H10, rfl, f1, fun _ => q10, fun hne => absurd hcb hne⟩)
      · rw [if_neg hcb] at q10
        obtain ⟨m', hm, w'⟩ := hNx H10 q10
        cases n with
        | zero => omega
        | succ n =>
          refine seg_at (seg_yield rfl rfl rfl ⟨c, H10, rfl, f1, fun h => absurd h hcb, fun _ s2 hh ho hb => ?_⟩)
          exact seg_again rfl (ih m' hm n (i + 1) H10 s2 s2 (by omega) (inv_gens f1 hh ho hb) (by rw [hh]; exact f2) f3 w')

/-- the start of the run -/
theorem seg_genStart {G : Cx} {A : Around} {elt tg iter : Expr} {ifs : List Expr} {scope : Scope} {pos : Pos} {it : Addr} {R : GenEnd} {Y : Protocol} {n : Nat} {s₀ s : Shared} {fp : List Addr} {tn : Nat → Heap → Prop} {J : It}
    (T : Turn G.prog G.w G.K tg J fp it tn) (st : tn 0 s.heap)
    (loop : Seg (model G.prog G.w) A R Y n s₀ (.compLoop (.GeneratorExp elt [⟨tg, iter, ifs, 0⟩] scope pos) 0 (.ref it) .none G.env) ((model G.prog G.w).den (.compLoop (.GeneratorExp elt [⟨tg, iter, ifs, 0⟩] scope pos) 0 (.ref it) .none G.env)) [] s) :
    Seg (model G.prog G.w) A R Y n s₀ (.compStart (.GeneratorExp elt [⟨tg, iter, ifs, 0⟩] scope pos) 0 (.ref it) .none G.env) ((model G.prog G.w).den (.compStart (.GeneratorExp elt [⟨tg, iter, ifs, 0⟩] scope pos) 0 (.ref it) .none G.env)) [] s := by
  show Seg _ A _ _ _ s₀ _ ((compStart (.GeneratorExp elt [⟨tg, iter, ifs, 0⟩] scope pos) 0 (.ref it) .none G.env).onRaise (leaving G.env)) [] s
  unfold compStart
  rw [Sem.onRaise_eq_wrap]
  show Seg _ A _ _ _ s₀ _ ((ask >>= _).wrap _ _ _ _) [] s
  refine seg_bind_wrap (wpAny_askSetting ?_)
  split
  · exact seg_again rfl loop
  · first
      | exact seg_bind_wrap (wpAny_rule (seg_bind_wrap (wpAny_standAt (seg_bind_wrap (T.self _ 0 s _ _ st (seg_again rfl loop))))))
      | (refine seg_bind_wrap (wpAny_rule ?_); show Seg _ A _ _ _ s₀ _ ((standAt iter.pos >>= _).wrap _ _ _ _) [] s; exact seg_bind_wrap (wpAny_standAt (seg_bind_wrap (T.self _ 0 s _ _ st (seg_again rfl loop)))))

/-- what the consumer knows between two items -/
def Held (G : Cx) (σw : L2.St) (b₀ : Bool) (Q : VK) (A : Around) (a : Addr) (g n : Nat) (s : Shared) : Prop :=
  s.heap.IsGen a g ∧ s.heap.NoLimit ∧ ∃ gs, s.gens[g]? = some gs ∧ gs.Goes (model G.prog G.w) A (fun n s₀ r s₁ => r = .ok .next ∧ gR G σw b₀ Q n s₀ s₁) (gY G σw b₀ Q) n (.send .none) (s.setGen g .running)

theorem bare_set {s : Shared} {g : Nat} {x : GenState} (h : AllBare s.gens) (hx : x.bare = true) : AllBare (s.setGen g x).gens := fun y hy => by
  simp only [Shared.setGen] at hy
  obtain ⟨i, hi, rfl⟩ := Array.mem_iff_getElem.mp hy
  by_cases e : i = g
  · subst e
    simp only [Array.size_setIfInBounds] at hi
    rw [Array.getElem_setIfInBounds_self]
    exact hx
  · simp only [Array.size_setIfInBounds] at hi
    rw [Array.getElem_setIfInBounds_ne (by simpa using hi) (Ne.symm e)]
    exact h _ (Array.getElem_mem hi)

theorem set_at {s : Shared} {g : Nat} {x : GenState} (h : g < s.gens.size) : (s.setGen g x).gens[g]? = some x := by
  simp [Shared.setGen, h]

/-- next of the generator -/
theorem next_held {G : Cx} {σw : L2.St} {b₀ : Bool} {Q : VK} {A : Around} {E : Value → Shared → Prop} {a : Addr} {g n : Nat} {s : Shared} {Qn : Option Value → Shared → Prop} (hh : A.handled = none) (hd : A.depth < recursionLimit)
    (hg : ∀ s1 H1, Inv G [] σw H1 s1 → s1.heap.IsGen a g) (h : Held G σw b₀ Q A.in1 a g n s)
    (hY : ∀ c s1 H1 gs, Inv G [] σw H1 s1 → g < s1.gens.size → gs.bare = true → (c = b₀ → Q (.bl b₀) H1) → (c ≠ b₀ → n ≠ 0 ∧ Held G σw b₀ Q A.in1 a g (n - 1) (s1.setGen g gs)) → Qn (some (.bool c)) (s1.setGen g gs))
    (hR : ∀ s1 H1, Inv G [] σw H1 s1 → Q (.bl (!b₀)) H1 → Qn none s1) : wpAny (model G.prog G.w) A (pyNext (.ref a)) Qn E s := by
  obtain ⟨hgen, hl, gs, hgs, hgo⟩ := h
  have hgl : g < s.gens.size := (Array.getElem?_eq_some_iff.mp hgs).1
  refine wpAny_gsz (n := g + 1) hgl (wpAny_pyNext_genexpQ (P := gR G σw b₀ Q) hh hl hd hgen hgs hgo (fun v s1 gs' hb hv => ?_) fun s1 hp h' hk => ?_)
  · obtain ⟨c, H1, rfl, I1, h1, h2⟩ := hv
    intro hsz
    have hsz1 : g < s1.gens.size := by
      have q : (s1.setGen g gs').gens.size = s1.gens.size := by simp [Shared.setGen]
      have hsz' : g + 1 ≤ (s1.setGen g gs').gens.size := hsz
      omega
    refine hY c s1 H1 gs' I1 hsz1 hb h1 fun hne => ?_
    cases n with
    | zero => exact (h2 hne s1 rfl rfl I1.bare).elim
    | succ m => exact ⟨Nat.succ_ne_zero m, hg s1 H1 I1, I1.nolimit, gs', set_at hsz1, h2 hne _ rfl rfl (bare_set (bare_set I1.bare hb) rfl)⟩
  · intro _
    obtain ⟨H1, I1, q1⟩ := hp
    refine hR _ H1 ?_ q1
    have I2 := I1.kept (h' := h') (t' := s1.toks) hk
    exact inv_gens I2 rfl rfl (bare_set I1.bare rfl)

theorem all_loop {G : Cx} {σw : L2.St} {Q : VK} {A : Around} {a : Addr} {g : Nat} {R : Result → Shared → Prop} (hh : A.handled = none) (hd : A.depth < recursionLimit)
    (hg : ∀ s1 H1, Inv G [] σw H1 s1 → s1.heap.IsGen a g) (hR : ∀ c s1 H1, Inv G [] σw H1 s1 → Q (.bl c) H1 → R (.ok (.ret (.bool c))) s1) :
    ∀ (n : Nat) (s : Shared), Held G σw false Q A.in1.in1 a g n s → codeAny (model G.prog G.w) A (.builtin "all.loop" ⟨[.ref a], []⟩) R s := by
  intro n
  induction n with
  | zero =>
    intro s h
    refine codeAny_builtin F.entry_all_loop ?_
    rw [Around.under_plainId F.plain_all_loop _]
    show wpAny _ A.in1 (pyNext (.ref a) >>= _) _ _ s
    refine wpAny_bind (next_held (A := A.in1) hh hd hg h (fun c s1 H1 gs I1 hsz hb h1 h2 => ?_) fun s1 H1 I1 q1 => ?_)
    · refine wpAny_bind (wpAny_holding (wpAny_truthy_bool (wpAny_bind (wpAny_letGo ?_))))
      cases c with
      | true => exact absurd rfl (h2 (by decide)).1
      | false =>
        simp only [Bool.false_eq_true, if_false]
        exact wpAny_bind (wpAny_rule (wpAny_pure (hR false _ H1 (inv_gens I1 rfl rfl (bare_set I1.bare hb)) (h1 rfl))))
    · exact wpAny_bind (wpAny_rule (wpAny_pure (hR true _ H1 I1 q1)))
  | succ n ih =>
    intro s h
    refine codeAny_builtin F.entry_all_loop ?_
    rw [Around.under_plainId F.plain_all_loop _]
    show wpAny _ A.in1 (pyNext (.ref a) >>= _) _ _ s
    refine wpAny_bind (next_held (A := A.in1) hh hd hg h (fun c s1 H1 gs I1 hsz hb h1 h2 => ?_) fun s1 H1 I1 q1 => ?_)
    · refine wpAny_bind (wpAny_holding (wpAny_truthy_bool (wpAny_bind (wpAny_letGo ?_))))
      cases c with
      | true => exact wpAny_pure ⟨plainId_quiet F.plain_all_loop _, ih _ (h2 (by decide)).2⟩
      | false =>
        simp only [Bool.false_eq_true, if_false]
        exact wpAny_bind (wpAny_rule (wpAny_pure (hR false _ H1 (inv_gens I1 rfl rfl (bare_set I1.bare hb)) (h1 rfl))))
    · exact wpAny_bind (wpAny_rule (wpAny_pure (hR true _ H1 I1 q1)))

theorem any_loop {G : Cx} {σw : L2.St} {Q : VK} {A : Around} {a : Addr} {g : Nat} {R : Result → Shared → Prop} (hh : A.handled = none) (hd : A.depth < recursionLimit)
    (hg : ∀ s1 H1, Inv G [] σw H1 s1 → s1.heap.IsGen a g) (hR : ∀ c s1 H1, Inv G [] σw H1 s1 → Q (.bl c) H1 → R (.ok (.ret (.bool c))) s1) :
    ∀ (n : Nat) (s : Shared), Held G σw true Q A.in1.in1 a g n s → codeAny (model G.prog G.w) A (.builtin "any.loop" ⟨[.ref a], []⟩) R s := by
  intro n
  induction n with
  | zero =>
    intro s h
    refine codeAny_builtin F.entry_any_loop ?_
    rw [Around.under_plainId F.plain_any_loop _]
    show wpAny _ A.in1 (pyNext (.ref a) >>= _) _ _ s
    refine wpAny_bind (next_held (A := A.in1) hh hd hg h (fun c s1 H1 gs I1 hsz hb h1 h2 => ?_) fun s1 H1 I1 q1 => ?_)
    · refine wpAny_bind (wpAny_holding (wpAny_truthy_bool (wpAny_bind (wpAny_letGo ?_))))
      cases c with
      | false => exact absurd rfl (h2 (by decide)).1
      | true =>
        simp only [if_true]
        exact wpAny_bind (wpAny_rule (wpAny_pure (hR true _ H1 (inv_gens I1 rfl rfl (bare_set I1.bare hb)) (h1 rfl))))
    · exact wpAny_bind (wpAny_rule (wpAny_pure (hR false _ H1 I1 q1)))
  | succ n ih =>
    intro s h
    refine codeAny_builtin F.entry_any_loop ?_
    rw [Around.under_plainId F.plain_any_loop _]
    show wpAny _ A.in1 (pyNext (.ref a) >>= _) _ _ s
    refine wpAny_bind (next_held (A := A.in1) hh hd hg h (fun c s1 H1 gs I1 hsz hb h1 h2 => ?_) fun s1 H1 I1 q1 => ?_)
    · refine wpAny_bind (wpAny_holding (wpAny_truthy_bool (wpAny_bind (wpAny_letGo ?_))))
      cases c with
      | false =>
        simp only [Bool.false_eq_true, if_false]
        exact wpAny_pure ⟨plainId_quiet F.plain_any_loop _, ih _ (h2 (by decide)).2⟩
      | true =>
        simp only [if_true]
        exact wpAny_bind (wpAny_rule (wpAny_pure (hR true _ H1 (inv_gens I1 rfl rfl (bare_set I1.bare hb)) (h1 rfl))))
    · exact wpAny_bind (wpAny_rule (wpAny_pure (hR false _ H1 I1 q1)))

/-- a thing that stands in the heap is known from now on -/
theorem inv_track {a : Addr} {o : HO} (I : Inv X pins σ H s) (hn : H a = none) (ha : X.s_0.heap.objs.size ≤ a) (hl : a ≠ X.env.locals) (hcl : ∀ x c, X.env.cells.lookup x = some c → c ≠ a) (hp : ∀ p ∈ X.pn ++ pins, p.1 ≠ a)
    (hok : ObjOk X.prog X.w (upd H a o) s.heap a o) : Inv X pins σ (upd H a o) s := by
  have ne : ∀ b u, H b = some u → b ≠ a := fun b u e => ne_of_none e hn
  refine ⟨I.ok, I.os, I.bare, ⟨I.base.keep, I.base.slot, fun b ob q n hx => ?_, I.base.there, fun b xs q => ?_, fun b ob u q => ?_, fun b ps q => ?_⟩, I.loc, I.cell, ?_, fun x c e => ?_, fun p hp' => ?_, fun b u e => ?_, I.len⟩
  · rw [upd_ne (fun z => by
      have h1 := Heap.lt_size q
      rw [z] at h1
      exact Nat.lt_irrefl _ (Nat.lt_of_lt_of_le h1 ha))]
    exact I.base.free b ob q n hx
  · have q2 := I.base.tups b xs q
    rw [upd_ne (ne _ _ q2)]; exact q2
  · have q2 := I.base.frzs b ob u q
    rw [upd_ne (ne _ _ q2)]; exact q2
  · obtain ⟨more, q2⟩ := I.base.tbls b ps q
    exact ⟨more, by rw [upd_ne (ne _ _ q2)]; exact q2⟩
  · rw [upd_ne (Ne.symm hl)]; exact I.free
  · rw [upd_ne (hcl x c e)]; exact I.freeC x c e
  · obtain ⟨z1, z2, z3⟩ := I.pin p hp'
    exact ⟨z1, by rw [upd_ne (hp p hp')]; exact z2, z3⟩
  · by_cases hb : b = a
    · subst hb
      rw [upd_same] at e
      cases e
      exact hok
    · rw [upd_ne hb] at e
      exact (I.hok b u e).stay (fun _ _ _ z => z) (fun d z => by rw [upd_ne (ne _ _ z)]; exact z) fun d xs z => by rw [upd_ne (ne _ _ z)]; exact z

/-- the code object of a generator expression: found in the table, or made -/
theorem gen_code {c P : Addr} {ps : Array Value} {gpos : Pos} {qn : Str} {scope : Scope} {Q : Value → Shared → Prop} {E : Value → Shared → Prop} (I : Inv X pins σ H s) (hcode : X.env.code = .ref c) (cd : PySem.W.CodeHd s.heap c P) (hP : H P = some (.tbl ps)) (htr : TriplesOk ps.toList)
    (h : ∀ (code : Value) (H3 : Hp) (s3 : Shared), Inv X pins σ H3 s3 → TabbedN P H H3 → CodeAt H3 P gpos code → (∀ b o, b ≠ P → s.heap.get? b = some o → s3.heap.get? b = some o) → (∀ b, b < s.heap.objs.size → b ≠ P → H3 b = H b) → Q code s3) :
    wpAny (model X.prog X.w) X.A (genexprCode X.env gpos qn scope) Q E s := by
  have hPs : s.heap.get? P = some { cls := .none, data := .fields ps } := I.hok P _ hP
  cases hf : codeAmong gpos ps.toList with
  | some cv =>
    refine wpAny_genexprCode_hit hcode (cd.code hPs htr) hf ?_
    exact h cv H s I ⟨⟨ps, ps, hP, hP, htr, fun _ _ e => .inl e⟩, fun _ _ _ e => e⟩ ⟨ps, hP, hf⟩ (fun _ _ _ e => e) fun _ _ _ => rfl
  | none =>
    refine wpAny_genexprCodeX hcode (cd.code hPs htr) (cd.tab hPs) hf fun c' h' tk hx hge hlt hco' _ htab' ⟨P', hgP, hco2, htab2⟩ => ?_
    obtain ⟨o1, vs, f1, tf, fl, tg, inF, tx, tt, op, _, _, _, _, _, _, _, _, _, htr', _⟩ := hco'
    have hl : (ps ++ #[rawInt gpos.line, rawInt gpos.col, Value.ref c']).toList = ps.toList ++ [rawInt gpos.line, rawInt gpos.col, .ref c'] := by simp
    have I1 : Inv X pins σ (upd H P (.tbl (ps ++ #[rawInt gpos.line, rawInt gpos.col, Value.ref c']))) { s with heap := h', toks := tk } := inv_tab (g' := s.gens) (d' := s.drawn) I hP (fun b u hb e => hx b u hb e) htab'.2 I.bare
    have hPlt : P < s.heap.objs.size := Heap.lt_size hPs
    have ncP : c' ≠ P := fun z => by rw [z] at hge; exact Nat.lt_irrefl _ (Nat.lt_of_lt_of_le hPlt hge)
    have nPP : P' ≠ P := fun z => by rw [z] at hgP; exact Nat.lt_irrefl _ (Nat.lt_of_lt_of_le hPlt hgP)
    have cd2 : PySem.W.CodeHd h' c' P' := .of hco2 htab2
    have ncc : c' ≠ P' := by obtain ⟨_, _, _, _, _, _, _, _, _, _, _, _, _, _, _, _, _, _, n⟩ := cd2; exact n
    have fc := I.fpOk (H' := H) hge (I.hok.fresh hge)
    have fP := I.fpOk (H' := H) hgP (I.hok.fresh hgP)
    have I2 : Inv X pins σ (upd (upd H P (.tbl (ps ++ #[rawInt gpos.line, rawInt gpos.col, Value.ref c']))) c' (GenC c' P')) { s with heap := h', toks := tk } := by
      refine inv_track I1 (by rw [upd_ne ncP]; exact I.hok.fresh hge) (Nat.le_trans I.sz hge) fc.2.1 fc.2.2.2.2.1 fc.2.2.2.2.2 ?_
      obtain ⟨o2, w2⟩ := id cd2
      refine ⟨cd2, ?_, fun h1 h2 q k => ?_⟩
      · obtain ⟨_, _, _, _, _, _, _, _, z, _⟩ := w2
        exact ⟨_, z⟩
      · obtain ⟨o, vs, file, tf, flags, tg, inF, text, tt, e, r⟩ := q
        exact ⟨o, vs, file, tf, flags, tg, inF, text, tt, k _ e, r⟩
    have I3 : Inv X pins σ (upd (upd (upd H P (.tbl (ps ++ #[rawInt gpos.line, rawInt gpos.col, Value.ref c']))) c' (GenC c' P')) P' (.tbl #[])) { s with heap := h', toks := tk } := by
      refine inv_track I2 (by rw [upd_ne (Ne.symm ncc), upd_ne nPP]; exact I.hok.fresh hgP) (Nat.le_trans I.sz hgP) fP.2.1 fP.2.2.2.2.1 fP.2.2.2.2.2 ?_
      exact htab2.2
    have good : GoodC (upd (upd (upd H P (.tbl (ps ++ #[rawInt gpos.line, rawInt gpos.col, Value.ref c']))) c' (GenC c' P')) P' (.tbl #[])) (.ref c') := ⟨c', P', #[], rfl, by rw [upd_ne ncc, upd_same], upd_same, True.intro⟩
    have atP : upd (upd (upd H P (.tbl (ps ++ #[rawInt gpos.line, rawInt gpos.col, Value.ref c']))) c' (GenC c' P')) P' (.tbl #[]) P = some (.tbl (ps ++ #[rawInt gpos.line, rawInt gpos.col, Value.ref c'])) := by rw [upd_ne (Ne.symm nPP), upd_ne (Ne.symm ncP), upd_same]
    refine h (.ref c') _ { s with heap := h', toks := tk } I3 ⟨⟨ps, _, hP, atP, htr', fun pos cv e => ?_⟩, fun b o hb e => ?_⟩ ⟨_, atP, ?_⟩ (fun b o hb e => hx b o hb e) fun b hb hbP => ?_
    · rw [hl] at e
      rcases LamX.among_app _ htr e with z | z
      · exact .inl z
      · rw [z]; exact .inr good
    · have hlt : b < s.heap.objs.size := I.hok.lt e
      rw [upd_ne (fun z => Nat.lt_irrefl _ (Nat.lt_of_lt_of_le hlt (by rw [z]; exact hgP))), upd_ne (fun z => Nat.lt_irrefl _ (Nat.lt_of_lt_of_le hlt (by rw [z]; exact hge))), upd_ne hb]
      exact e
    · rw [hl]
      exact codeAmong_snoc _ htr hf
    · rw [upd_ne (fun z => Nat.lt_irrefl _ (Nat.lt_of_lt_of_le hb (by rw [z]; exact hgP))), upd_ne (fun z => Nat.lt_irrefl _ (Nat.lt_of_lt_of_le hb (by rw [z]; exact hge))), upd_ne hbP]

theorem eval_genN (elt target iter : Expr) (ifs : List Expr) (more : List Comprehension) (scope : Scope) (pos : Pos) (env : Env) (hco : scope.isCoroutine = false) :
    eval (.GeneratorExp elt (⟨target, iter, ifs, 0⟩ :: more) scope pos) env = (do
      let x ← eval iter env
      standAt iter.pos
      let x ← genFold iter env x
      let it ← holding [x] (pyIter x)
      enterFrame
      let cl ← closureFor scope env
      let code ← genexprCode env pos (env.qual ++ "<genexpr>") scope
      let bi ← builtinsFor env.globals env.builtins
      let cenv ← newFunctionEnv scope env.globals cl [(".0", it)] (env.qual ++ "<genexpr>.") none code none bi
      newGenerator (.compStart (.GeneratorExp elt (⟨target, iter, ifs, 0⟩ :: more) scope pos) 0 it .none cenv) "<genexpr>" (env.qual ++ "<genexpr>")) := by
  rw [arm_eval_GeneratorExp]
  simp only [hco, Bool.false_eq_true, if_false]
  cases iter <;> rfl
/-- a generator's frame: its cells laid behind the closure's, its iterator bound -/
theorem new_envC {M : Model} {A : Around} {E : Value → Shared → Prop} {s : Shared} {scope : Scope} {globals : Addr} {cl : List (Str × Addr)} {it : Value} {qual : Str} {code : Value} {bi : Addr} {Q : Env → Shared → Prop} (h0 : scope.names.lookup (".0" : Str) = some NameKind.local) (hk : scope.kind = .function)
    (hQ : ∀ h', h'.Ns s.heap.objs.size (fun y => if y = (".0" : Str) then some it else none) → Heap.SameBut s.heap.objs.size (pushCells (s.heap.push { cls := .type "frame", data := .dict #[] }) scope.names) h' →
      Q { scope, locals := s.heap.objs.size, globals, cells := cellsFrom (s.heap.objs.size + 1) scope.names cl, qual, func := none, code, frame := some s.heap.objs.size, builtins := bi } { s with heap := h', toks := s.toks + 1 }) :
    wpAny M A (newFunctionEnv scope globals cl [((".0" : Str), it)] qual none code none bi) Q E s := by
  simp only [newFunctionEnv, Option.isSome_none, Bool.false_eq_true, if_false]
  refine wpAny_bind (wpAny_alloc ?_)
  refine wpAny_bind (wpAny_layCells _ (fun name kind cells => by cases hkc : kind == NameKind.cell <;> simp [hkc]) _ _ _ _ ?_)
  rw [show ({ s with heap := s.heap.push { cls := .type "frame", data := .dict #[] } } : Shared).heap.objs.size = s.heap.objs.size + 1 from Heap.size_push ..]
  have ns0 : (pushCells (s.heap.push { cls := .type "frame", data := .dict #[] }) scope.names).Ns s.heap.objs.size (fun _ => none) := (Heap.Ns.new s.heap (.type "frame")).keeps (pushCells_keeps _ _)
  refine wpAny_bind ?_
  rw [List.forIn_cons]
  refine wpAny_bind (wpAny_bind (wpAny_storeName_local (env := { scope, locals := s.heap.objs.size, globals, cells := cellsFrom (s.heap.objs.size + 1) scope.names cl, qual, func := none, code, frame := some s.heap.objs.size, builtins := bi }) h0 ns0 (fun h' hn' hs' => wpAny_pure ?_) (by show (scope.kind == .class || (scope.kind == .module && _)) = false; rw [hk]; rfl)))
  show wpAny _ _ (forIn ([] : List (Str × Value)) _ _) _ _ _
  rw [List.forIn_nil]
  exact wpAny_pure (wpAny_pure (hQ h' hn' hs'))
theorem wp_gen_makeN {M : Model} {A : Around} {E : Value → Shared → Prop} {s : Shared} {env : Env} {elt target iter : Expr} {ifs : List Expr} {more : List Comprehension} {scope : Scope} {cl : List (Str × Addr)} {pos : Pos} {Q : Value → Shared → Prop}
    (hco : scope.isCoroutine = false) (hclos : closureFor scope env = pure cl) (h0 : scope.names.lookup (".0" : Str) = some NameKind.local) (hkind : scope.kind = .function)
    (hroom : A.depth < recursionLimit)
    (h : wpAny M A (eval iter env) (fun xv s₁ => wpAny M A (pyIter xv) (fun it s₂ => s₂.heap.NoLimit ∧
      wpAny M A (genexprCode env pos (env.qual ++ "<genexpr>") scope) (fun code s₃ => wpAny M A (builtinsFor env.globals env.builtins) (fun bi s₄ =>
        ∀ h', h'.Ns s₄.heap.objs.size (fun y => if y = ".0" then some it else none) → Heap.SameBut s₄.heap.objs.size (pushCells (s₄.heap.push { cls := .type "frame", data := .dict #[] }) scope.names) h' →
          Q (.ref h'.objs.size) { s₄ with
            gens := s₄.gens.push (.fresh (.compStart (.GeneratorExp elt (⟨target, iter, ifs, 0⟩ :: more) scope pos) 0 it .none (genEnv scope (cellsFrom (s₄.heap.objs.size + 1) scope.names cl) s₄.heap.objs.size code bi env))),
            toks := s₄.toks + 1 + 1 + 1,
            heap := h'.push { cls := .type "generator", data := .fields #[.int s₄.gens.size 0, .str "<genexpr>" (s₄.toks + 1), .str (env.qual ++ "<genexpr>") (s₄.toks + 1 + 1)] } }) E s₃) E s₂) E s₁) E s)
    (hs : ∀ x, genFold iter env x = pure x) :
    wpAny M A (eval (.GeneratorExp elt (⟨target, iter, ifs, 0⟩ :: more) scope pos) env) Q E s := by
  rw [eval_genN _ _ _ _ _ _ _ _ hco, hclos]
  refine wpAny_bind (wpAny_mono h (fun xv s₁ h₁ => ?_) fun _ _ e => e)
  refine wpAny_bind (wpAny_standAt ?_)
  refine wpAny_bind (wpAny_of_eq (hs xv) ?_)
  refine wpAny_bind (wpAny_holding (wpAny_mono h₁ (fun it s₂ h₂ => ?_) fun _ _ e => e))
  refine wpAny_bind (wpAny_enterFrame h₂.1 hroom ?_)
  refine wpAny_bind (wpAny_pure ?_)
  refine wpAny_bind (wpAny_mono h₂.2 (fun code s₃ h₃ => ?_) fun _ _ e => e)
  refine wpAny_bind (wpAny_mono h₃ (fun bi s₄ h₄ => ?_) fun _ _ e => e)
  refine wpAny_bind (new_envC h0 hkind fun h' hn' hs' => ?_)
  simp only [newGenerator, newFields]
  refine wpAny_bind (wpAny_newGen (wpAny_bind (wpAny_mkText (wpAny_bind (wpAny_mkText (wpAny_newObj_type ?_ (by size_fits)))))))
  exact h₄ h' hn' hs'

/-- a generator has been made: its context G, what it walks (J), its object at a, its number gn -/
structure Made (X : Cx) (B : Around) (pins : List (Addr × Obj)) (σ σw : L2.St) (e tg : Expr) (scope : Scope) (code : Value) (G : Cx) (J : It) (H3 : Hp) (it a : Addr) (fp : List Addr) (tn : Nat → Heap → Prop) (gn : Nat) (s5 : Shared) : Prop where
  made : ∃ (s : Shared) (H : Hp) (C : Addr) (cl : List (Str × Addr)) (bi : Addr) (pn : List (Addr × Obj)), G = gblkB X B s H (genEnv scope cl C code bi X.env) fp pn
  pn : ∀ p ∈ G.pn, p.1 ∉ fp ∧ p.1 < s5.heap.objs.size
  turn : Turn X.prog X.w X.K tg J fp it tn
  inv : Inv G [] σw H3 s5
  gen : s5.gens[gn]? = some (.fresh (.compStart e 0 (.ref it) .none G.env))
  st : tn 0 s5.heap
  fr : ∀ b ∈ fp, H3 b = none ∧ b < s5.heap.objs.size
  isg : ∀ pins' σ' s1 H1, Inv G pins' σ' H1 s1 → s1.heap.IsGen a gn
  back : ∀ pins' σ' s1 H1, Inv G pins' σ' H1 s1 → Inv X pins σ H1 s1
  apart : ∀ S, s5.heap.objs.size ≤ S → Apart G S
  alt : a < s5.heap.objs.size

theorem gen_made {c P P0 : Addr} {B : Around} {elt tg iter : Expr} {ifs : List Expr} {more : List Comprehension} {scope : Scope} {own : List (Str × Nat)} {gpos : Pos} {wi : TI} {R0 : It → Hp → Prop} {Q' : Value → Shared → Prop} {k : Nat}
    (hN : X.N.Nodup) (hr : Room k X.A) (hBf : B.frames = some X.stack) (hBh : X.calm = true → B.handled = none) (bm : X.base.BuiltinsAt X.mg P0) (hcode : X.env.code = .ref c) (ok : GOk X.N X.env.scope scope own) (hi : PI X tg iter wi)
    (hs : ∀ v, genFold iter X.env v = pure v) (I : Inv X pins σ H s) (h : wi σ H R0)
    (hcd : ∀ J H2 s2, R0 J H2 → Inv X pins σ H2 s2 → PySem.W.CodeHd s2.heap c P ∧ ∃ ps : Array Value, H2 P = some (.tbl ps) ∧ TriplesOk ps.toList)
    (hQ : ∀ J H2 H3 code G it a fp tn gn s5, R0 J H2 → TabbedN P H2 H3 → CodeAt H3 P gpos code → Made X B pins σ (wipe σ (own.map (·.2))) (.GeneratorExp elt (⟨tg, iter, ifs, 0⟩ :: more) scope gpos) tg scope code G J H3 it a fp tn gn s5 → Q' (.ref a) s5) :
    wpAny (model X.prog X.w) X.A (eval (.GeneratorExp elt (⟨tg, iter, ifs, 0⟩ :: more) scope gpos) X.env) Q' X.xe s := by
  have hfree : ∀ y ∈ scope.names, y.2 = .free → ∃ c, X.env.cells.lookup y.1 = some c := fun y hy e => by
    rcases ok.blk.free y hy e with k | k
    · exact I.ok.has _ (.inl k)
    · exact I.ok.has _ (.inr k)
  refine wp_gen_makeN ok.co (closure_ok hfree) ok.dot ok.blk.kind (by have := hr.dp; omega) ?_ hs
  refine thn (hi.run pins s σ H _ I h) fun xv s1 hx => thn hx fun itv s2 h2 => ?_
  obtain ⟨it, fp, tn, J, H2, e, I2, T, st2, f2, q⟩ := h2
  subst e
  refine ⟨I2.nolimit, ?_⟩
  obtain ⟨cd, ps, hP, htr⟩ := hcd J H2 s2 q I2
  refine gen_code I2 hcode cd hP htr fun code H3 s3 I3 hT hcA keep3 same3 => ?_
  obtain ⟨bm, ob, e1, e2, e3, e4, e5, e6, e7, e8⟩ := bm
  refine wpAny_builtinsFor (m := X.mg) (by rw [I3.ok.glob]; exact I3.mod.glob.keeps I3.bk) e1 e2 (I3.bk _ _ e5) e6 e7 e8 ?_
  intro h' hn' hs'
  have nP : ∀ b ∈ fp, b ≠ P := fun b hb z => by
    have := (f2 b hb).1
    rw [z, hP] at this
    cases this
  have st3 : tn 0 s3.heap := T.keep _ _ _ st2 fun b hb o e => keep3 b o (nP b hb) e
  have f3 : ∀ b ∈ fp, FpOk X pins H3 b ∧ b < s3.heap.objs.size := fun b hb => by
    refine ⟨⟨?_, (f2 b hb).2⟩, ?_⟩
    · obtain ⟨o, e, _⟩ := T.obj _ _ st2 b hb
      rw [same3 b (Heap.lt_size e) (nP b hb)]
      exact (f2 b hb).1
    · obtain ⟨o, e, _⟩ := T.obj _ _ st3 b hb
      exact Heap.lt_size e
  have hsz : s3.heap.objs.size + 1 ≤ h'.objs.size := by
    have q := pushCells_size scope.names (s3.heap.push { cls := .type "frame", data := .dict #[] })
    rw [Heap.size_push] at q
    rw [hs'.1]
    exact q
  generalize hgo : ({ cls := .type "generator", data := .fields #[.int s3.gens.size 0, .str "<genexpr>" (s3.toks + 1), .str (X.env.qual ++ "<genexpr>") (s3.toks + 1 + 1)] } : Obj) = go
  have hgd : go.data = .fields #[.int s3.gens.size 0, .str "<genexpr>" (s3.toks + 1), .str (X.env.qual ++ "<genexpr>") (s3.toks + 1 + 1)] := by rw [← hgo]
  have I5 := gen_start (B := B) (code := code) (it := .ref it) (h' := h') (go := go) (g' := s3.gens.push (.fresh (.compStart (.GeneratorExp elt (⟨tg, iter, ifs, 0⟩ :: more) scope gpos) 0 (.ref it) .none (genEnv scope (cellsFrom (s3.heap.objs.size + 1) scope.names (cloFrom X.env.cells scope.names [])) s3.heap.objs.size code builtinsNs X.env)))) (tk := s3.toks + 1 + 1 + 1)
    hBf hBh I3 ok hN f3 hn' hs' (I3.bare.push rfl) (fun v z => by rw [hgd] at z; cases z) (by rw [← hgo]; rfl)
  have kp5 : ∀ b o, s3.heap.get? b = some o → (h'.push go).get? b = some o := fun b o e => Heap.get?_push_of_some _ (hs'.extBut b o (Nat.ne_of_lt (Heap.lt_size e)) (pushCells_keeps _ _ _ _ (Heap.get?_push_of_some _ e)))
  have sz5 : (h'.push go).objs.size = h'.objs.size + 1 := Heap.size_push ..
  refine hQ J H2 H3 code (gblkB X B s3 H3 (genEnv scope (cellsFrom (s3.heap.objs.size + 1) scope.names (cloFrom X.env.cells scope.names [])) s3.heap.objs.size code builtinsNs X.env) fp [(h'.objs.size, go)]) it h'.objs.size fp tn s3.gens.size _ q hT hcA
    ⟨⟨_, _, _, _, _, _, rfl⟩, fun p hp => ?_, T, I5, Array.getElem?_push_size .., T.keep _ _ _ st3 fun b _ o e => kp5 b o e, fun b hb => ⟨(f3 b hb).1.1, ?_⟩, fun pins' σ' s1 H1 I1 => ?_, fun pins' σ' s1 H1 I1 => ?_, fun S hS => ?_, ?_⟩
  · have hp : p ∈ [(h'.objs.size, go)] := hp
    simp only [List.mem_singleton] at hp
    subst hp
    refine ⟨fun hb => ?_, ?_⟩
    · have h9 : (h'.objs.size : Nat) < s3.heap.objs.size := (f3 _ hb).2
      omega
    · show h'.objs.size < (h'.push go).objs.size
      rw [sz5]; exact Nat.lt_succ_self _
  · show b < (h'.push go).objs.size
    have h8 : b < s3.heap.objs.size := (f3 b hb).2
    rw [sz5]; exact Nat.lt_of_lt_of_le h8 (Nat.le_trans (Nat.le_succ _) (Nat.le_trans hsz (Nat.le_succ _)))
  · have hp := (I1.pin (h'.objs.size, go) (by simp)).1
    exact ⟨go, _, _, hp, by rw [← hgo], hgd, by rw [← hgo]⟩
  · exact I3.call' (ch := fp) I1.os I1.base I1.hok I1.bare fun b hb => ⟨(f3 b hb).1.2.2.2.1, (f3 b hb).1.2.1, (f3 b hb).1.2.2.2.2.1, (f3 b hb).1.2.2.2.2.2⟩
  · have hS : (h'.push go).objs.size ≤ S := hS
    refine ⟨?_, ?_, fun x c e z => ?_⟩
    · show s3.heap.objs.size ≤ S
      rw [sz5] at hS
      exact Nat.le_trans (Nat.le_succ _) (Nat.le_trans hsz (Nat.le_trans (Nat.le_succ _) hS))
    · show S ≠ s3.heap.objs.size
      rw [sz5] at hS
      exact Nat.ne_of_gt (Nat.lt_of_lt_of_le hsz (Nat.le_trans (Nat.le_succ _) hS))
    · obtain ⟨v, qz⟩ := I5.cell x c e
      have h1 : c < (h'.push go).objs.size := qz.lt
      rw [z] at h1
      exact Nat.lt_irrefl _ (Nat.lt_of_lt_of_le h1 hS)
  · show h'.objs.size < (h'.push go).objs.size
    rw [sz5]; exact Nat.lt_succ_self _

theorem gen_madeC {P0 : Addr} {B : Around} {elt tg iter : Expr} {ifs : List Expr} {more : List Comprehension} {scope : Scope} {own : List (Str × Nat)} {gpos : Pos} {wi : TI} {R0 : It → Hp → Prop} {Q' : Value → Shared → Prop} {k : Nat}
    (hN : X.N.Nodup) (hr : Room k X.A) (hBf : B.frames = some X.stack) (hBh : X.calm = true → B.handled = none) (bm : X.base.BuiltinsAt X.mg P0) (ok : GOk X.N X.env.scope scope own) (hi : PI X tg iter wi)
    (hs : ∀ v, genFold iter X.env v = pure v) (I : Inv X pins σ H s) (h : wi σ H R0)
    (hcd : ∀ J H2 s2, R0 J H2 → Inv X pins σ H2 s2 → ∃ c P, X.env.code = .ref c ∧ PySem.W.CodeHd s2.heap c P ∧ ∃ ps : Array Value, H2 P = some (.tbl ps) ∧ TriplesOk ps.toList)
    (hQ : ∀ J H2 P H3 code G it a fp tn gn s5, R0 J H2 → TabbedN P H2 H3 → Made X B pins σ (wipe σ (own.map (·.2))) (.GeneratorExp elt (⟨tg, iter, ifs, 0⟩ :: more) scope gpos) tg scope code G J H3 it a fp tn gn s5 → Q' (.ref a) s5) :
    wpAny (model X.prog X.w) X.A (eval (.GeneratorExp elt (⟨tg, iter, ifs, 0⟩ :: more) scope gpos) X.env) Q' X.xe s := by
  have hfree : ∀ y ∈ scope.names, y.2 = .free → ∃ c, X.env.cells.lookup y.1 = some c := fun y hy e => by
    rcases ok.blk.free y hy e with k | k
    · exact I.ok.has _ (.inl k)
    · exact I.ok.has _ (.inr k)
  refine wp_gen_makeN ok.co (closure_ok hfree) ok.dot ok.blk.kind (by have := hr.dp; omega) ?_ hs
  refine thn (hi.run pins s σ H _ I h) fun xv s1 hx => thn hx fun itv s2 h2 => ?_
  obtain ⟨it, fp, tn, J, H2, e, I2, T, st2, f2, q⟩ := h2
  subst e
  refine ⟨I2.nolimit, ?_⟩
  obtain ⟨c, P, hcode, cd, ps, hP, htr⟩ := hcd J H2 s2 q I2
  refine gen_code I2 hcode cd hP htr fun code H3 s3 I3 hT hcA keep3 same3 => ?_
  obtain ⟨bm, ob, e1, e2, e3, e4, e5, e6, e7, e8⟩ := bm
  refine wpAny_builtinsFor (m := X.mg) (by rw [I3.ok.glob]; exact I3.mod.glob.keeps I3.bk) e1 e2 (I3.bk _ _ e5) e6 e7 e8 ?_
  intro h' hn' hs'
  have nP : ∀ b ∈ fp, b ≠ P := fun b hb z => by
    have := (f2 b hb).1
    rw [z, hP] at this
    cases this
  have st3 : tn 0 s3.heap := T.keep _ _ _ st2 fun b hb o e => keep3 b o (nP b hb) e
  have f3 : ∀ b ∈ fp, FpOk X pins H3 b ∧ b < s3.heap.objs.size := fun b hb => by
    refine ⟨⟨?_, (f2 b hb).2⟩, ?_⟩
    · obtain ⟨o, e, _⟩ := T.obj _ _ st2 b hb
      rw [same3 b (Heap.lt_size e) (nP b hb)]
      exact (f2 b hb).1
    · obtain ⟨o, e, _⟩ := T.obj _ _ st3 b hb
      exact Heap.lt_size e
  have hsz : s3.heap.objs.size + 1 ≤ h'.objs.size := by
    have q := pushCells_size scope.names (s3.heap.push { cls := .type "frame", data := .dict #[] })
    rw [Heap.size_push] at q
    rw [hs'.1]
    exact q
  generalize hgo : ({ cls := .type "generator", data := .fields #[.int s3.gens.size 0, .str "<genexpr>" (s3.toks + 1), .str (X.env.qual ++ "<genexpr>") (s3.toks + 1 + 1)] } : Obj) = go
  have hgd : go.data = .fields #[.int s3.gens.size 0, .str "<genexpr>" (s3.toks + 1), .str (X.env.qual ++ "<genexpr>") (s3.toks + 1 + 1)] := by rw [← hgo]
  have I5 := gen_start (B := B) (code := code) (it := .ref it) (h' := h') (go := go) (g' := s3.gens.push (.fresh (.compStart (.GeneratorExp elt (⟨tg, iter, ifs, 0⟩ :: more) scope gpos) 0 (.ref it) .none (genEnv scope (cellsFrom (s3.heap.objs.size + 1) scope.names (cloFrom X.env.cells scope.names [])) s3.heap.objs.size code builtinsNs X.env)))) (tk := s3.toks + 1 + 1 + 1)
    hBf hBh I3 ok hN f3 hn' hs' (I3.bare.push rfl) (fun v z => by rw [hgd] at z; cases z) (by rw [← hgo]; rfl)
  have kp5 : ∀ b o, s3.heap.get? b = some o → (h'.push go).get? b = some o := fun b o e => Heap.get?_push_of_some _ (hs'.extBut b o (Nat.ne_of_lt (Heap.lt_size e)) (pushCells_keeps _ _ _ _ (Heap.get?_push_of_some _ e)))
  have sz5 : (h'.push go).objs.size = h'.objs.size + 1 := Heap.size_push ..
  refine hQ J H2 P H3 code (gblkB X B s3 H3 (genEnv scope (cellsFrom (s3.heap.objs.size + 1) scope.names (cloFrom X.env.cells scope.names [])) s3.heap.objs.size code builtinsNs X.env) fp [(h'.objs.size, go)]) it h'.objs.size fp tn s3.gens.size _ q hT
    ⟨⟨_, _, _, _, _, _, rfl⟩, fun p hp => ?_, T, I5, Array.getElem?_push_size .., T.keep _ _ _ st3 fun b _ o e => kp5 b o e, fun b hb => ⟨(f3 b hb).1.1, ?_⟩, fun pins' σ' s1 H1 I1 => ?_, fun pins' σ' s1 H1 I1 => ?_, fun S hS => ?_, ?_⟩
  · have hp : p ∈ [(h'.objs.size, go)] := hp
    simp only [List.mem_singleton] at hp
    subst hp
    refine ⟨fun hb => ?_, ?_⟩
    · have h9 : (h'.objs.size : Nat) < s3.heap.objs.size := (f3 _ hb).2
      omega
    · show h'.objs.size < (h'.push go).objs.size
      rw [sz5]; exact Nat.lt_succ_self _
  · show b < (h'.push go).objs.size
    have h8 : b < s3.heap.objs.size := (f3 b hb).2
    rw [sz5]; exact Nat.lt_of_lt_of_le h8 (Nat.le_trans (Nat.le_succ _) (Nat.le_trans hsz (Nat.le_succ _)))
  · have hp := (I1.pin (h'.objs.size, go) (by simp)).1
    exact ⟨go, _, _, hp, by rw [← hgo], hgd, by rw [← hgo]⟩
  · exact I3.call' (ch := fp) I1.os I1.base I1.hok I1.bare fun b hb => ⟨(f3 b hb).1.2.2.2.1, (f3 b hb).1.2.1, (f3 b hb).1.2.2.2.2.1, (f3 b hb).1.2.2.2.2.2⟩
  · have hS : (h'.push go).objs.size ≤ S := hS
    refine ⟨?_, ?_, fun x c e z => ?_⟩
    · show s3.heap.objs.size ≤ S
      rw [sz5] at hS
      exact Nat.le_trans (Nat.le_succ _) (Nat.le_trans hsz (Nat.le_trans (Nat.le_succ _) hS))
    · show S ≠ s3.heap.objs.size
      rw [sz5] at hS
      exact Nat.ne_of_gt (Nat.lt_of_lt_of_le hsz (Nat.le_trans (Nat.le_succ _) hS))
    · obtain ⟨v, qz⟩ := I5.cell x c e
      have h1 : c < (h'.push go).objs.size := qz.lt
      rw [z] at h1
      exact Nat.lt_irrefl _ (Nat.lt_of_lt_of_le h1 hS)
  · show h'.objs.size < (h'.push go).objs.size
    rw [sz5]; exact Nat.lt_succ_self _

/-- the maker's code object stands in the base -/
theorem base_code {c P : Addr} {R0 : It → Hp → Prop} (TB : TabB X.base X.mg c P) (hR : ∀ J H2, R0 J H2 → TabN H2 P) : ∀ J H2 s2, R0 J H2 → Inv X pins σ H2 s2 → PySem.W.CodeHd s2.heap c P ∧ ∃ ps : Array Value, H2 P = some (.tbl ps) ∧ TriplesOk ps.toList := fun J H2 s2 q I2 =>
  ⟨TB.code.keeps fun b u e => I2.bk b u e, let ⟨ps, a, b, _⟩ := hR J H2 q; ⟨ps, a, b⟩⟩

theorem held_made {G : Cx} {elt tg iter : Expr} {ifs : List Expr} {scope : Scope} {own : List (Str × Nat)} {gpos : Pos} {code : Value} {J : It} {H3 : Hp} {it a : Addr} {fp : List Addr} {tn : Nat → Heap → Prop} {gn : Nat} {s5 : Shared} {g : TG} {tt : TT} {te : TE} {b₀ : Bool} {Q : VK}
    (hc : X.calm = true) (hco : scope.isCoroutine = false)
    (hg : ∀ (s : Shared) (H : Hp) (C : Addr) (cl : List (Str × Addr)) (code : Value) (bi : Addr) (fp : List Addr) (pn : List (Addr × Obj)), PG (gblk X s H (genEnv scope cl C code bi X.env) fp pn) tg g)
    (ht : ∀ (s : Shared) (H : Hp) (C : Addr) (cl : List (Str × Addr)) (code : Value) (bi : Addr) (fp : List Addr) (pn : List (Addr × Obj)), PTs (gblk X s H (genEnv scope cl C code bi X.env) fp pn) ifs tt)
    (he : ∀ (s : Shared) (H : Hp) (C : Addr) (cl : List (Str × Addr)) (code : Value) (bi : Addr) (fp : List Addr) (pn : List (Addr × Obj)), PE (gblk X s H (genEnv scope cl C code bi X.env) fp pn) elt te)
    (M : Made X X.A.in1.in1 pins σ (wipe σ (own.map (·.2))) (.GeneratorExp elt [⟨tg, iter, ifs, 0⟩] scope gpos) tg scope code G J H3 it a fp tn gn s5) (q : AllLoop b₀ g tt te (own.map (·.2)) σ Q J H3) : ∃ n, Held G (wipe σ (own.map (·.2))) b₀ Q X.A.in1.in1 a gn n s5 := by
  obtain ⟨⟨s, Hs, C, cl, bi, pn, rfl⟩, pn1, T, I5, hgen, st5, fr5, isg, back, _, _⟩ := M
  obtain ⟨W, ⟨m0, w0⟩, turn⟩ := q
  refine ⟨m0 + 1, isg _ _ _ _ I5, I5.nolimit, _, hgen, rfl, ?_⟩
  refine seg_genStart (G := gblk X s Hs (genEnv scope cl C code bi X.env) fp pn) T st5 ?_
  exact seg_gen (G := gblk X s Hs (genEnv scope cl C code bi X.env) fp pn) (W := W) rfl rfl hc hco rfl (fun p hp => (pn1 p hp).1) T (hg ..) (ht ..) (he ..) turn m0 (m0 + 1) 0 H3 _ _ (Nat.lt_succ_self _) (inv_gens I5 rfl rfl (bare_set I5.bare rfl)) st5 (fun b hb => (fr5 b hb).1) w0

theorem pe_allG {c P : Addr} {elt tg iter : Expr} {ifs : List Expr} {scope : Scope} {own : List (Str × Nat)} {p pos gpos : Pos} {wi : TI} {g : TG} {tt : TT} {te : TE} {k : Nat}
    (hc : X.calm = true) (hN : X.N.Nodup) (hr : Room k X.A) (hgl : Gl X "all") (hm : X.mg "all" = none) (TB : TabB X.base X.mg c P) (hcode : X.env.code = .ref c) (ok : GOk X.N X.env.scope scope own) (hi : PI X tg iter wi)
    (hg : ∀ (s : Shared) (H : Hp) (C : Addr) (cl : List (Str × Addr)) (code : Value) (bi : Addr) (fp : List Addr) (pn : List (Addr × Obj)), PG (gblk X s H (genEnv scope cl C code bi X.env) fp pn) tg g)
    (ht : ∀ (s : Shared) (H : Hp) (C : Addr) (cl : List (Str × Addr)) (code : Value) (bi : Addr) (fp : List Addr) (pn : List (Addr × Obj)), PTs (gblk X s H (genEnv scope cl C code bi X.env) fp pn) ifs tt)
    (he : ∀ (s : Shared) (H : Hp) (C : Addr) (cl : List (Str × Addr)) (code : Value) (bi : Addr) (fp : List Addr) (pn : List (Addr × Obj)), PE (gblk X s H (genEnv scope cl C code bi X.env) fp pn) elt te)
    (hs : ∀ v, genFold iter X.env v = pure v := by intro _; rfl)
    (hst : starEach [.GeneratorExp elt [⟨tg, iter, ifs, 0⟩] scope gpos] X.env = (false, eval (.GeneratorExp elt [⟨tg, iter, ifs, 0⟩] scope gpos) X.env) :: starEach [] X.env := by rfl) :
    PE X (.Call (.Name "all" p) [.GeneratorExp elt [⟨tg, iter, ifs, 0⟩] scope gpos] [] pos) (tAllG false P wi g tt te (own.map (·.2))) := by
  refine ⟨fun pins s σ H Q I h => ?_⟩
  refine wpAny_Call_Name_kw (ld_blt I hgl hm (show bootBuiltins "all" = some (.builtin "all") by decide +kernel) ?_)
  refine PyProof.Rows.callWith_builtin1 ?_ hst (by rfl)
  rw [hst]
  show wpAny _ _ (spliced ((false, eval (.GeneratorExp elt [⟨tg, iter, ifs, 0⟩] scope gpos) X.env) :: backTo pos (starEach [] X.env))) _ _ s
  refine Calls.spliced_cons (gen_made (B := X.A.in1.in1) (R0 := fun J H1 => TabN H1 P ∧ ∀ H2, TabbedN P H1 H2 → AllLoop false g tt te (own.map Prod.snd) σ Q J H2) hN hr I.ok.frames I.ok.hd TB.bm hcode ok hi hs I h (base_code TB fun J H2 q => q.1) fun J H2 H3 code G it a fp tn gn s5 qq hT hcA M => ?_)
  obtain ⟨n, hh⟩ := held_made hc ok.co hg ht he M (qq.2 H3 hT)
  have eP : G.prog = X.prog := by obtain ⟨⟨_, _, _, _, _, _, e⟩, _⟩ := M; rw [e]
  have eW : G.w = X.w := by obtain ⟨⟨_, _, _, _, _, _, e⟩, _⟩ := M; rw [e]
  refine Calls.spliced_nil ?_
  refine call_function_tree F.kind_all F.plain_all F.entry_all (F.args_all1 _) ?_
  unfold Builtin.«all»
  refine wpAny_bind (m := oneArg "all" _) (wpAny_pure ?_)
  refine wpAny_bind (wpAny_pyIter_gen hh.1 ?_)
  rw [← eP, ← eW]
  exact wpAny_pure ⟨plainId_quiet F.plain_all_loop _, all_loop (A := X.A) hr.hd (by have := hr.dp; omega) (fun s1 H1 I1 => M.isg _ _ s1 H1 I1) (fun c s1 H1 I1 q => ⟨.bl c, H1, M.back _ _ s1 H1 I1, rfl, q⟩) n s5 hh⟩

theorem pe_anyG {c P : Addr} {elt tg iter : Expr} {ifs : List Expr} {scope : Scope} {own : List (Str × Nat)} {p pos gpos : Pos} {wi : TI} {g : TG} {tt : TT} {te : TE} {k : Nat}
    (hc : X.calm = true) (hN : X.N.Nodup) (hr : Room k X.A) (hgl : Gl X "any") (hm : X.mg "any" = none) (TB : TabB X.base X.mg c P) (hcode : X.env.code = .ref c) (ok : GOk X.N X.env.scope scope own) (hi : PI X tg iter wi)
    (hg : ∀ (s : Shared) (H : Hp) (C : Addr) (cl : List (Str × Addr)) (code : Value) (bi : Addr) (fp : List Addr) (pn : List (Addr × Obj)), PG (gblk X s H (genEnv scope cl C code bi X.env) fp pn) tg g)
    (ht : ∀ (s : Shared) (H : Hp) (C : Addr) (cl : List (Str × Addr)) (code : Value) (bi : Addr) (fp : List Addr) (pn : List (Addr × Obj)), PTs (gblk X s H (genEnv scope cl C code bi X.env) fp pn) ifs tt)
    (he : ∀ (s : Shared) (H : Hp) (C : Addr) (cl : List (Str × Addr)) (code : Value) (bi : Addr) (fp : List Addr) (pn : List (Addr × Obj)), PE (gblk X s H (genEnv scope cl C code bi X.env) fp pn) elt te)
    (hs : ∀ v, genFold iter X.env v = pure v := by intro _; rfl)
    (hst : starEach [.GeneratorExp elt [⟨tg, iter, ifs, 0⟩] scope gpos] X.env = (false, eval (.GeneratorExp elt [⟨tg, iter, ifs, 0⟩] scope gpos) X.env) :: starEach [] X.env := by rfl) :
    PE X (.Call (.Name "any" p) [.GeneratorExp elt [⟨tg, iter, ifs, 0⟩] scope gpos] [] pos) (tAllG true P wi g tt te (own.map (·.2))) := by
  refine ⟨fun pins s σ H Q I h => ?_⟩
  refine wpAny_Call_Name_kw (ld_blt I hgl hm (show bootBuiltins "any" = some (.builtin "any") by decide +kernel) ?_)
  refine PyProof.Rows.callWith_builtin1 ?_ hst (by rfl)
  rw [hst]
  show wpAny _ _ (spliced ((false, eval (.GeneratorExp elt [⟨tg, iter, ifs, 0⟩] scope gpos) X.env) :: backTo pos (starEach [] X.env))) _ _ s
  refine Calls.spliced_cons (gen_made (B := X.A.in1.in1) (R0 := fun J H1 => TabN H1 P ∧ ∀ H2, TabbedN P H1 H2 → AllLoop true g tt te (own.map Prod.snd) σ Q J H2) hN hr I.ok.frames I.ok.hd TB.bm hcode ok hi hs I h (base_code TB fun J H2 q => q.1) fun J H2 H3 code G it a fp tn gn s5 qq hT hcA M => ?_)
  obtain ⟨n, hh⟩ := held_made hc ok.co hg ht he M (qq.2 H3 hT)
  have eP : G.prog = X.prog := by obtain ⟨⟨_, _, _, _, _, _, e⟩, _⟩ := M; rw [e]
  have eW : G.w = X.w := by obtain ⟨⟨_, _, _, _, _, _, e⟩, _⟩ := M; rw [e]
  refine Calls.spliced_nil ?_
  refine call_function_tree F.kind_any F.plain_any F.entry_any (F.args_any1 _) ?_
  unfold Builtin.«any»
  refine wpAny_bind (m := oneArg "any" _) (wpAny_pure ?_)
  refine wpAny_bind (wpAny_pyIter_gen hh.1 ?_)
  rw [← eP, ← eW]
  exact wpAny_pure ⟨plainId_quiet F.plain_any_loop _, any_loop (A := X.A) hr.hd (by have := hr.dp; omega) (fun s1 H1 I1 => M.isg _ _ s1 H1 I1) (fun c s1 H1 I1 q => ⟨.bl c, H1, M.back _ _ s1 H1 I1, rfl, q⟩) n s5 hh⟩
end
end GX
set_option maxHeartbeats 4000000
/-! tuple(..) of a generator expression: what it hands out is collected. -/
namespace GX
open PySem PySem.Spec PyProof.Rows L2 GxR GenW
section
variable {X : Cx} {pins : List (Addr × Obj)} {σ : L2.St} {H : Hp} {s : Shared}
/-- the loop over what J walks, ys: what is out -/
def ColLoop (g : TG) (tt : TT) (te : TE) (vs : List Nat) (σ : L2.St) (QE : List V → Hp → Prop) (J : It) (H2 : Hp) : Prop :=
  ∃ W : Nat → Nat → List V → Hp → Prop, (∃ m, W 0 m [] H2) ∧ ∀ i m ys H, W i m ys H → (J.stop i H ∧ QE ys H) ∨ (J.go i H ∧ ∃ Nx : List V → Hp → Prop, (∀ ys' H', Nx ys' H' → ∃ m', m' < m ∧ W (i + 1) m' ys' H') ∧ ∀ x H', J.yld i H x H' →
    g x (wipe σ vs) H' fun σ2 H2 => wipe σ2 vs = wipe σ vs ∧ tt σ2 H2 fun b H3 => if b = true then te σ2 H3 fun y H4 => ys.length < sizeLine ∧ Nx (ys ++ [y]) H4 else Nx ys H3)

def gRT (G : Cx) (S : Addr) (σw : L2.St) (QE : List V → Hp → Prop) : Nat → Shared → Shared → Prop := fun _ _ s1 => ∃ ys H1, GI G S [] ys σw H1 s1 ∧ QE ys H1
def gYT (G : Cx) (S : Addr) (σw : L2.St) : Protocol := fun _ _ v s1 kap => ∃ ys x H1, RelV x v ∧ ys.length < sizeLine ∧ GI G S [] ys σw H1 s1 ∧ ∀ s', Slept S v s1 s' → kap (.send .none) s'

theorem seg_genT {G : Cx} {A : Around} {S : Addr} {elt tg iter : Expr} {ifs : List Expr} {scope : Scope} {pos : Pos} {it : Addr} {fp : List Addr} {tn : Nat → Heap → Prop} {J : It} {g : TG} {tt : TT} {te : TE} {vs : List Nat} {σ0 : L2.St} {QE : List V → Hp → Prop} {W : Nat → Nat → List V → Hp → Prop}
    (hA : G.A = A.deeper G.env) (hxe : G.xe = fun _ _ => False) (hc : G.calm = true) (hco : G.env.scope.isCoroutine = false) (hex : G.ex = fp) (hpn : ∀ p ∈ G.pn, p.1 ∉ fp ∧ p.1 ≠ S) (hSf : S ∉ fp) (hAp : Apart G S)
    (T : Turn G.prog G.w G.K tg J fp it tn) (pg : PG G tg g) (pt : PTs G ifs tt) (pe : PE G elt te)
    (turn : ∀ i m ys H, W i m ys H → (J.stop i H ∧ QE ys H) ∨ (J.go i H ∧ ∃ Nx : List V → Hp → Prop, (∀ ys' H', Nx ys' H' → ∃ m', m' < m ∧ W (i + 1) m' ys' H') ∧ ∀ x H', J.yld i H x H' →
      g x (wipe σ0 vs) H' fun σ2 H2 => wipe σ2 vs = wipe σ0 vs ∧ tt σ2 H2 fun b H3 => if b = true then te σ2 H3 fun y H4 => ys.length < sizeLine ∧ Nx (ys ++ [y]) H4 else Nx ys H3)) :
    ∀ (m n i : Nat) (ys : List V) (H' : Hp) (s₀ s : Shared), m < n → GI G S [] ys (wipe σ0 vs) H' s → tn i s.heap → (∀ b ∈ fp, H' b = none) → W i m ys H' →
      Seg (model G.prog G.w) A (fun n s₀ r s₁ => r = .ok .next ∧ gRT G S (wipe σ0 vs) QE n s₀ s₁) (gYT G S (wipe σ0 vs)) n s₀ (.compLoop (.GeneratorExp elt [⟨tg, iter, ifs, 0⟩] scope pos) 0 (.ref it) .none G.env)
        ((model G.prog G.w).den (.compLoop (.GeneratorExp elt [⟨tg, iter, ifs, 0⟩] scope pos) 0 (.ref it) .none G.env)) [] s := by
  have stat : ∀ {σ' : L2.St} {H' : Hp} {s' : Shared} {o : Obj}, Inv G [(S, o)] σ' H' s' → (∀ b ∈ fp, H' b = none) → ∀ b ∈ fp, FpOk G [(S, o)] H' b := fun {σ' H' s' o} I' hn b hb =>
    ⟨hn b hb, (I'.ok.exf b (by rw [hex]; exact hb)).1, I'.ok.exfs b (by rw [hex]; exact hb), .inl (by rw [hex]; exact hb), fun x c e => (I'.ok.exf b (by rw [hex]; exact hb)).2 x c e, fun p hp => by
      rcases List.mem_append.mp hp with hp | hp
      · exact fun z => (hpn p hp).1 (by rw [z]; exact hb)
      · rw [List.mem_singleton.mp hp]
        exact fun z : S = b => hSf (z ▸ hb)⟩
  have hov : A.over (.compLoop (.GeneratorExp elt [⟨tg, iter, ifs, 0⟩] scope pos) 0 (.ref it) .none G.env) [] = G.A := by rw [hA]; exact over_gen
  intro m
  induction m using Nat.strongRecOn with
  | ind m ih =>
  intro n i ys H5 s₀ s5 hmn GI5 st5 n5 w5
  obtain ⟨acc, c, rv, I5⟩ := GI5
  show Seg _ A _ _ _ s₀ _ ((compTurn (.GeneratorExp elt [⟨tg, iter, ifs, 0⟩] scope pos) 0 (.ref it) .none G.env).onRaise (leaving G.env)) [] s5
  rw [compTurn_gen, Sem.onRaise_eq_wrap]
  refine seg_bind_wrap (wpAny_standAt ?_)
  rcases turn i m ys H5 w5 with ⟨stop, qq⟩ | ⟨go, Nx, hNx, step⟩
  · refine seg_bind_wrap ?_
    rw [hov]
    refine thnF (T.done G rfl rfl rfl hc i _ s5 _ H5 (fun _ _ => False) I5 (stat I5 n5) st5 stop) fun r s6 ⟨hr, I6⟩ => ?_
    subst hr
    exact seg_end (.ok .next) ⟨rfl, ys, H5, ⟨acc, c, rv, I6⟩, qq⟩
  · refine seg_bind_wrap ?_
    rw [hov]
    refine thnF (T.item G rfl rfl rfl hc i _ s5 _ H5 (fun _ _ => False) I5 (stat I5 n5) st5 go) fun r s6 ⟨u, hr, h6⟩ => ?_
    subst hr
    refine seg_bind_wrap ?_
    rw [hov]
    refine thnF h6 fun _ s7 ⟨x, H7, I7, r7, y7, st7, n7⟩ => ?_
    have I7' := I7.pinned (stat I7 n7) (T.obj _ _ st7)
    refine seg_bind_wrap ?_
    rw [hov]
    have pgr := pg.run _ s7 _ H7 x u _ I7' r7 (step x H7 y7)
    rw [hxe] at pgr
    refine thnF pgr fun _ s8 ⟨σ8, H8, I8, hw8, q8⟩ => ?_
    refine seg_bind_wrap ?_
    rw [hov]
    have ptr := pt.run _ s8 σ8 H8 _ I8 q8
    rw [hxe] at ptr
    refine thnF ptr fun b s9 ⟨H9, I9, q9⟩ => ?_
    -- the turn's end
    have fin : ∀ {s' : Shared} {H' : Hp}, Inv G ([(S, lstObj acc c)] ++ pinsAt fp s7.heap) σ8 H' s' → Inv G [(S, lstObj acc c)] (wipe σ0 vs) H' s' ∧ tn (i + 1) s'.heap ∧ (∀ b ∈ fp, H' b = none) := fun {s' H'} I' => by
      have pin' : ∀ b ∈ fp, ∀ o, s7.heap.get? b = some o → s'.heap.get? b = some o ∧ H' b = none := fun b hb o e =>
        let z := I'.pin (b, o) (List.mem_append_right _ (List.mem_append_right _ (mem_pinsAt hb e)))
        ⟨z.1, z.2.1⟩
      have hl : (wipe σ0 vs).length = σ8.length := by rw [← hw8, wipe_length]
      refine ⟨I'.unpinned.weak hl (fun j v e => ?_), T.keep _ _ _ st7 fun b hb o e => (pin' b hb o e).1, fun b hb => ?_⟩
      · rw [← hw8] at e
        exact (wipe_some e).1
      · obtain ⟨o, e, _⟩ := T.obj _ _ st7 b hb
        exact (pin' b hb o e).2
    cases b with
    | false =>
      simp only [Bool.false_eq_true, if_false] at q9 ⊢
      obtain ⟨m', hm, w'⟩ := hNx ys H9 q9
      obtain ⟨f1, f2, f3⟩ := fin I9
      exact seg_again rfl (ih m' hm n (i + 1) ys H9 s₀ s9 (by omega) ⟨acc, c, rv, f1⟩ f2 f3 w')
    | true =>
      simp only [if_true] at q9 ⊢
      have hy : ∀ v, yieldOut G.env v = yieldValue v := fun v => by simp only [yieldOut, hco, Bool.false_eq_true, if_false]
      simp only [hy]
      rw [Sem.bind_eq_wrap', Sem.bind_eq_wrap', Sem.wrap_wrap, Sem.wrap_wrap]
      refine seg_wrap ?_
      rw [hov]
      have per := pe.run _ s9 σ8 H9 _ I9 q9
      rw [hxe] at per
      refine thnF per fun z s10 ⟨yv, H10, I10, r10, hlen, q10⟩ => ?_
      obtain ⟨f1, f2, f3⟩ := fin I10
      obtain ⟨m', hm, w'⟩ := hNx _ H10 q10
      cases n with
      | zero => omega
      | succ n =>
        refine seg_at (seg_yield rfl rfl rfl ⟨ys, yv, H10, r10, hlen, ⟨acc, c, rv, f1⟩, fun s2 z2 => ?_⟩)
        have w2 := GI.woken (ip := []) (fun p hp => (hpn p hp).2) (fun p hp => absurd hp (by simp)) hAp (⟨acc, c, rv, f1⟩ : GI G S [] ys (wipe σ0 vs) H10 s10) r10 z2
        refine seg_again rfl (ih m' hm n (i + 1) _ H10 s2 s2 (by omega) w2 (T.keep _ _ _ f2 fun b hb o e => ?_) f3 w')
        exact z2.keep b o (fun e2 => hSf (e2 ▸ hb)) e

/-- what the collector knows between two items -/
def HeldT (G : Cx) (S : Addr) (σw : L2.St) (QE : List V → Hp → Prop) (A : Around) (a : Addr) (g n : Nat) (s : Shared) : Prop :=
  s.heap.IsGen a g ∧ s.heap.NoLimit ∧ ∃ gs, s.gens[g]? = some gs ∧ gs.Goes (model G.prog G.w) A (fun n s₀ r s₁ => r = .ok .next ∧ gRT G S σw QE n s₀ s₁) (gYT G S σw) n (.send .none) (s.setGen g .running)

theorem gi_gens {G : Cx} {S : Addr} {ys : List V} {σw : L2.St} {H1 : Hp} {s s' : Shared} (h : GI G S [] ys σw H1 s) (hh : s'.heap = s.heap) (ho : s'.os = s.os) (hb : AllBare s'.gens) : GI G S [] ys σw H1 s' := by
  obtain ⟨acc, c, r, I⟩ := h
  exact ⟨acc, c, r, inv_gens I hh ho hb⟩
theorem gi_kept {G : Cx} {S : Addr} {ys : List V} {σw : L2.St} {H1 : Hp} {s : Shared} {h' : Heap} (h : GI G S [] ys σw H1 s) (hk : ∀ b o, s.heap.get? b = some o → h'.get? b = some o) : GI G S [] ys σw H1 { s with heap := h' } := by
  obtain ⟨acc, c, r, I⟩ := h
  exact ⟨acc, c, r, I.kept (h' := h') (t' := s.toks) hk⟩

theorem ext_loopT {G : Cx} {S : Addr} {σw : L2.St} {QE : List V → Hp → Prop} {A : Around} {a : Addr} {g : Nat} {res : Value} {R : Result → Shared → Prop} (hh : A.handled = none) (hd : A.depth < recursionLimit)
    (hg : ∀ pins' s1 H1, Inv G pins' σw H1 s1 → s1.heap.IsGen a g) (hR : ∀ ys s1 H1, GI G S [] ys σw H1 s1 → QE ys H1 → R (.ok (.ret res)) s1) :
    ∀ (n : Nat) (s : Shared), HeldT G S σw QE A.in1.in1 a g n s → codeAny (model G.prog G.w) A (.builtin "list.extend.loop" ⟨[.ref S, .ref a, res], []⟩) R s := by
  intro n
  induction n with
  | zero =>
    intro s ⟨hgen, hl, gs, hgs, hgo⟩
    refine codeAny_builtin F.entry_extend_loop ?_
    rw [Around.under_plainId F.plain_extend_loop _]
    show wpAny _ A.in1 (pyNext (.ref a) >>= _) _ _ s
    refine wpAny_bind (wpAny_pyNext_genexpQ (A := A.in1) (P := gRT G S σw QE) hh hl hd hgen hgs hgo (fun v s1 gs' hb hv => ?_) fun s1 hp h' hk => ?_)
    · obtain ⟨ys, x, H1, rx, hlen, g1, h2⟩ := hv
      obtain ⟨_, _, _, acc, c, _, eS⟩ := g1.at
      obtain ⟨_, _, _, I1⟩ := g1
      exact (h2 _ (Slept.push eS I1.bare)).elim
    · obtain ⟨ys, H1, g1, q1⟩ := hp
      have b1 : AllBare s1.gens := by obtain ⟨_, _, _, I1⟩ := g1; exact I1.bare
      exact wpAny_pure (hR ys _ H1 (gi_gens (s' := { s1.setGen g .finished with heap := h' }) (gi_kept g1 hk) rfl rfl (bare_set b1 rfl)) q1)
  | succ n ih =>
    intro s ⟨hgen, hl, gs, hgs, hgo⟩
    have hgl : g < s.gens.size := (Array.getElem?_eq_some_iff.mp hgs).1
    refine codeAny_builtin F.entry_extend_loop ?_
    rw [Around.under_plainId F.plain_extend_loop _]
    show wpAny _ A.in1 (pyNext (.ref a) >>= _) _ _ s
    refine wpAny_bind (wpAny_gsz (n := g + 1) hgl (wpAny_pyNext_genexpQ (A := A.in1) (P := gRT G S σw QE) hh hl hd hgen hgs hgo (fun v s1 gs' hb hv => ?_) fun s1 hp h' hk => ?_))
    · intro hsz
      obtain ⟨ys, x, H1, rx, hlen, g1, h2⟩ := hv
      obtain ⟨_, _, _, acc, c, rv, eS⟩ := g1.at
      have b1 : AllBare s1.gens := by obtain ⟨_, _, _, I1⟩ := g1; exact I1.bare
      have isg1 : s1.heap.IsGen a g := by obtain ⟨_, _, _, I1⟩ := g1; exact hg _ _ _ I1
      have nol1 : s1.heap.NoLimit := by obtain ⟨_, _, _, I1⟩ := g1; exact I1.nolimit
      have hasz : acc.size = ys.length := by rw [← Array.length_toList, rv.length]
      have hsz1 : g < s1.gens.size := by
        have q : (s1.setGen g gs').gens.size = s1.gens.size := by simp [Shared.setGen]
        have hsz' : g + 1 ≤ (s1.setGen g gs').gens.size := hsz
        omega
      have nSa : S ≠ a := fun z => by
        obtain ⟨o, nm, qn, ho, hcl, _⟩ := isg1
        rw [← z, eS] at ho
        cases ho
        exact absurd (show Value.type "list" = Value.type "generator" from hcl) (by decide)
      show wpAny _ A.in1 (updateSeq S (·.push v) >>= _) _ _ _
      refine wpAny_bind ?_
      refine wpAny_updateSeq eS rfl (wpAny_pure ⟨plainId_quiet F.plain_extend_loop _, ?_⟩) (by rw [hasz]; omega) (by show (acc.push v).size ≤ sizeLine + 1; rw [Array.size_push, hasz]; omega)
      have sl : Slept S v s1 { s1 with gens := (s1.setGen g gs').gens, heap := s1.heap.update S (Obj.mapSeq (·.push v)) } := Slept.push eS (bare_set b1 hb)
      have sl2 : Slept S v s1 ({ s1 with gens := (s1.setGen g gs').gens, heap := s1.heap.update S (Obj.mapSeq (·.push v)) }.setGen g .running) := Slept.push (G := (({ s1 with gens := (s1.setGen g gs').gens } : Shared).setGen g .running).gens) eS (bare_set (s := { s1 with gens := (s1.setGen g gs').gens }) (bare_set b1 hb) rfl)
      have keep3 : ∀ b o, b ≠ S → s1.heap.get? b = some o → (s1.heap.update S (Obj.mapSeq (·.push v))).get? b = some o := fun b o hbS e => (Heap.get?_update_other _ _ (Ne.symm hbS)).trans e
      refine ih { s1.setGen g gs' with heap := s1.heap.update S (Obj.mapSeq (·.push v)) } ⟨?_, ?_, gs', set_at (s := { s1 with heap := s1.heap.update S (Obj.mapSeq (·.push v)) }) hsz1, ?_⟩
      · obtain ⟨o, nm, qn, ho, r⟩ := isg1
        exact ⟨o, nm, qn, keep3 a o (Ne.symm nSa) ho, r⟩
      · obtain ⟨mc, hns, hnn⟩ := nol1
        refine ⟨mc, hns.at' fun o e => keep3 _ o (fun z => ?_) e, hnn⟩
        obtain ⟨ob, es, ep, ho, hdt, _⟩ := hns
        rw [z, eS] at ho
        cases ho
        cases (show Data.seq acc c = Data.dict es ep from hdt)
      · exact h2 _ sl2
    · intro hsz
      obtain ⟨ys, H1, g1, q1⟩ := hp
      have b1 : AllBare s1.gens := by obtain ⟨_, _, _, I1⟩ := g1; exact I1.bare
      exact wpAny_pure (hR ys _ H1 (gi_gens (s' := { s1.setGen g .finished with heap := h' }) (gi_kept g1 hk) rfl rfl (bare_set b1 rfl)) q1)

theorem collectT {A : Around} {G : Cx} {elt tg iter : Expr} {ifs : List Expr} {scope : Scope} {gpos : Pos} {code : Value} {J : It} {H3 : Hp} {it a : Addr} {fp : List Addr} {tn : Nat → Heap → Prop} {gn : Nat} {s5 : Shared} {g : TG} {tt : TT} {te : TE} {vs : List Nat} {QE : List V → Hp → Prop} {Q : List Value → Shared → Prop} {E : Value → Shared → Prop}
    (hc : X.calm = true) (hh : A.handled = none) (hd : A.depth < recursionLimit) (hco : scope.isCoroutine = false)
    (M : Made X A.in1.in1 pins σ (wipe σ vs) (.GeneratorExp elt [⟨tg, iter, ifs, 0⟩] scope gpos) tg scope code G J H3 it a fp tn gn s5) (pg : PG G tg g) (pt : PTs G ifs tt) (pe : PE G elt te) (q : ColLoop g tt te vs σ QE J H3)
    (hQ : ∀ (ys : List V) (acc : Array Value) (s1 : Shared) (H1 : Hp), Inv X pins σ H1 s1 → Vals ys acc.toList → QE ys H1 → Q acc.toList s1) :
    wpAny (model X.prog X.w) A (collect (.ref a)) Q E s5 := by
  obtain ⟨⟨sm, Hs, C, cl, bi, pn, rfl⟩, pn1, T, I5, hgen, st5, fr5, isg, back, apart, alt⟩ := M
  obtain ⟨W, ⟨m0, w0⟩, turn⟩ := q
  have hga : s5.heap.IsGen a gn := isg _ _ _ _ I5
  have hSa : s5.heap.objs.size ≠ a := Nat.ne_of_gt alt
  unfold collect
  refine wpAny_bind (wpAny_runValue (codeAny_builtin F.entry_proto_collect ?_))
  rw [Around.under_plainId F.plain_proto_collect _]
  show wpAny _ A.in1 (newList [] >>= fun l => again (.builtin "list.__iadd__" ⟨[l, .ref a], []⟩)) _ _ s5
  refine wpAny_bind (wpAny_newObj_type ?_)
  refine wpAny_pure ⟨plainId_quiet F.plain_list_iadd _, codeAny_builtin F.entry_list_iadd ?_⟩
  rw [Around.under_plainId F.plain_list_iadd _]
  have up : ∀ (h : Heap) (f : Obj → Obj), (∀ b o, s5.heap.get? b = some o → h.get? b = some o) → ∀ b o, s5.heap.get? b = some o → (h.update s5.heap.objs.size f).get? b = some o := fun h f q b o e =>
    (Heap.get?_update_other _ _ (Ne.symm (Nat.ne_of_lt (Heap.lt_size e)))).trans (q b o e)
  have k1 : ∀ b o, s5.heap.get? b = some o → (s5.heap.push { cls := .type "list", data := .seq ([] : List Value).toArray }).get? b = some o := fun b o e => Heap.get?_push_of_some _ e
  have gty : ∀ {h : Heap}, (∀ b o, s5.heap.get? b = some o → h.get? b = some o) → h.IsGen a gn := fun {h} q => hga.keeps q
  show wpAny _ A.in1 (Builtin.List.listExtendWith (.ref s5.heap.objs.size) (.ref a) (.ref s5.heap.objs.size)) _ _ _
  unfold Builtin.List.listExtendWith
  refine wpAny_bind (wpAny_typeOf (Heap.IsGen.typeIs (s := { s5 with heap := _ }) (gty k1)) ?_)
  have h1 : Builtin.List.listSameRef (.ref s5.heap.objs.size) (.ref a) = false := by simp [Builtin.List.listSameRef, hSa]
  have h2 : (Value.type "generator" == Value.type "list") = false := by decide
  have h3 : (Value.type "generator" == Value.type "tuple") = false := by decide
  simp only [h1, h2, h3, Bool.or_false, Bool.false_eq_true, if_false]
  refine wpAny_bind (wpAny_pyIter_gen (s := { s5 with heap := _ }) (gty k1) ?_)
  refine wpAny_bind (wpAny_holding ?_)
  unfold Builtin.List.listLengthHint
  refine wpAny_bind (wpAny_specialOf (Heap.IsGen.typeIs (s := { s5 with heap := _ }) (gty k1)) F.gen_no_len ?_)
  show wpAny _ A.in1 (specialOf (Value.ref a) (Str.ofString "__length_hint__") >>= _) _ _ _
  refine wpAny_bind (wpAny_specialOf (Heap.IsGen.typeIs (s := { s5 with heap := _ }) (gty k1)) F.gen_no_hint ?_)
  refine wpAny_pure ?_
  show wpAny _ A.in1 (rule "list.extend.makes-room" >>= fun _ => Builtin.List.listTouch (.ref s5.heap.objs.size) >>= fun _ =>
    again (.builtin "list.extend.loop" ⟨[.ref s5.heap.objs.size, .ref a, .ref s5.heap.objs.size], []⟩)) _ _ _
  refine wpAny_bind (wpAny_rule ?_)
  have hS1 : (s5.heap.push { cls := .type "list", data := .seq ([] : List Value).toArray }).get? s5.heap.objs.size = some { cls := .type "list", data := .seq ([] : List Value).toArray } := Heap.get?_push_size _ rfl
  refine wpAny_bind ?_
  show wpAny _ A.in1 (updateSeq s5.heap.objs.size (·.push .none) >>= fun _ => updateSeq s5.heap.objs.size (·.pop)) _ _ _
  refine wpAny_bind (wpAny_updateSeq hS1 rfl ?_)
  have hS2 := Heap.get?_update_self (Obj.mapSeq (·.push Value.none)) hS1 rfl
  refine wpAny_updateSeq hS2 rfl ?_
  obtain ⟨c4, hS3⟩ : ∃ c4, (((s5.heap.push { cls := .type "list", data := .seq ([] : List Value).toArray }).update s5.heap.objs.size (Obj.mapSeq (·.push Value.none))).update s5.heap.objs.size (Obj.mapSeq (·.pop))).get? s5.heap.objs.size = some (lstObj #[] c4) := ⟨_, Heap.get?_update_self (Obj.mapSeq (·.pop)) hS2 rfl⟩
  have k4 := up _ (Obj.mapSeq (·.pop)) (up _ (Obj.mapSeq (·.push Value.none)) k1)
  generalize ((s5.heap.push { cls := .type "list", data := .seq ([] : List Value).toArray }).update s5.heap.objs.size (Obj.mapSeq (·.push Value.none))).update s5.heap.objs.size (Obj.mapSeq (·.pop)) = h4 at hS3 k4
  have fS := I5.fpOk (H' := H3) (Nat.le_refl _) (I5.hok.fresh (Nat.le_refl _))
  have I6 : Inv (gblkB X A.in1.in1 sm Hs (genEnv scope cl C code bi X.env) fp pn) [] (wipe σ vs) H3 { s5 with heap := h4 } := I5.kept (t' := s5.toks) k4
  refine wpAny_pure ⟨plainId_quiet F.plain_extend_loop _, ?_⟩
  refine ext_loopT (G := gblkB X A.in1.in1 sm Hs (genEnv scope cl C code bi X.env) fp pn) (QE := QE) (σw := wipe σ vs) hh hd (fun pins' s1 H1 I1 => isg _ _ s1 H1 I1) (fun ys s1 H1 g1 q1 => ?_) (m0 + 1) { s5 with heap := h4 }
    ⟨gty k4, I5.nolimit.keeps k4, _, hgen, rfl, ?_⟩
  · obtain ⟨_, _, _, acc, c, rv, eS⟩ := g1.at
    obtain ⟨_, _, _, I1⟩ := g1
    show wpAny _ A (load s5.heap.objs.size >>= _) _ _ s1
    refine wpAny_bind (wpAny_load eS ?_)
    exact wpAny_pure (hQ ys acc s1 H1 (back _ _ _ _ I1) rv q1)
  · refine seg_genStart (G := gblkB X A.in1.in1 sm Hs (genEnv scope cl C code bi X.env) fp pn) T (T.keep _ _ _ st5 fun b _ o e => k4 b o e) ?_
    refine seg_genT (G := gblkB X A.in1.in1 sm Hs (genEnv scope cl C code bi X.env) fp pn) (W := W) rfl rfl hc hco rfl (fun p hp => ⟨(pn1 p hp).1, Nat.ne_of_lt (pn1 p hp).2⟩) (fun hb => Nat.lt_irrefl _ (fr5 _ hb).2) (apart _ (Nat.le_refl _)) T pg pt pe turn m0 (m0 + 1) 0 [] H3 _ _ (Nat.lt_succ_self _) ?_ (T.keep _ _ _ st5 fun b _ o e => k4 b o e) (fun b hb => (fr5 b hb).1) w0
    refine ⟨#[], c4, .nil, (inv_gens I6 (s' := ({ s5 with heap := h4 } : Shared).setGen gn .running) rfl rfl (bare_set I6.bare rfl)).pins_of fun p hp => ?_⟩
    rw [List.mem_singleton.mp hp]
    exact ⟨hS3, fS.1, fS.2.1, fS.2.2.1, fun v z => by cases z⟩

/-- what tuple(..) gives -/
def QTup (Q : VK) : List V → Hp → Prop := fun ys H => ys.length ≤ sizeLine ∧ ∀ p, H p = none → Q (.ref p) (upd H p (.tup ys))

theorem call_tupleT {G : Cx} {elt tg iter : Expr} {ifs : List Expr} {scope : Scope} {gpos : Pos} {code : Value} {J : It} {H3 : Hp} {it a : Addr} {fp : List Addr} {tn : Nat → Heap → Prop} {gn : Nat} {s5 : Shared} {g : TG} {tt : TT} {te : TE} {vs : List Nat} {Q : VK} {k : Nat}
    (hc : X.calm = true) (hr : Room k X.A) (hco : scope.isCoroutine = false)
    (M : Made X X.A.in1.in1.in1.in1 pins σ (wipe σ vs) (.GeneratorExp elt [⟨tg, iter, ifs, 0⟩] scope gpos) tg scope code G J H3 it a fp tn gn s5) (pg : PG G tg g) (pt : PTs G ifs tt) (pe : PE G elt te) (q : ColLoop g tt te vs σ (QTup Q) J H3) :
    wpAny (model X.prog X.w) X.A (call (.type "tuple") [.ref a]) (EP X pins σ Q) X.xe s5 := by
  refine callType_codes (Q₁ := fun obj s₁ => s₁.TypeIs obj "tuple" ∧ EP X pins σ Q obj s₁) F.called_tuple (F.typeCall_tuple_1 _) F.entry_object_init ?_ fun obj s₁ h₁ =>
    ⟨h₁.1, F.args_object_init_2 obj _, object_init_meets F.called_tuple.init.lookup F.called_tuple.made (by decide) X.prog X.w X.A.in1 _ s₁ ⟨h₁.1, rfl, h₁.2⟩⟩
  refine codeAny_of_tree ?_
  show wpAny _ X.A.in1.in1 (do checkBuiltinCall "tuple.__new__" ⟨[.type "tuple", .ref a], []⟩; again (.builtin "tuple.__new__" ⟨[.type "tuple", .ref a], []⟩)) _ _ s5
  refine wpAny_bind (wpAny_of_eq (F.newCall_tuple_1 _) (wpAny_pure ⟨plainId_quiet F.plain_tuple_new _, codeAny_builtin F.entry_tuple_new ?_⟩))
  rw [Around.under_plainId F.plain_tuple_new _]
  have hsub := sub_tuple_self
  have hinit := init_tuple_lookup
  have hmh := madeHere_tuple
  have hTI : s5.TypeIs (.ref a) "generator" := Heap.IsGen.typeIs (M.isg _ _ _ _ M.inv)
  wp_walk using wpAny_typeOf hTI, collectT (A := X.A.in1.in1) hc hr.hd (by have := hr.dp; show X.A.depth < _; omega) hco M pg pt pe q
  intro ys acc s1 H1 I1 rv q1
  show wpAny _ _ (Builtin.Tuple.tupleExact acc.toList.toArray >>= fun v => ret v) _ _ _
  unfold Builtin.Tuple.tupleExact
  have e : acc.toList.toArray = acc := by simp
  rw [e]
  have hz : acc.size = ys.length := by rw [← Array.length_toList, rv.length]
  refine wpAny_bind (wpAny_newObj_type ?_ (by show acc.size ≤ sizeLine; rw [hz]; exact q1.1))
  refine wpAny_pure ?_
  have I2 : Inv X pins σ (upd H1 s1.heap.objs.size (.tup ys)) { s1 with heap := s1.heap.push { cls := .type "tuple", data := .seq acc } } := by
    have I2 := I1.laid (o := .tup ys) (a := s1.heap.objs.size) (h' := s1.heap.push { cls := .type "tuple", data := .seq acc.toList.toArray }) (t' := s1.toks) (fun b o e => Heap.get?_push_of_some _ e) (Nat.le_refl _) (show ObjOk X.prog X.w _ _ _ (.tup ys) from ⟨q1.1, acc.toList, rv, IsTup.new _ _⟩)
    rw [e] at I2
    exact I2
  exact ⟨⟨_, Heap.get?_push_size _ rfl, rfl⟩, .ref s1.heap.objs.size, _, I2, rfl, q1.2 _ (I1.hok.fresh (Nat.le_refl _))⟩

/-- tuple(e for ..): the maker is a def; te may ask for the generator's own code object -/
def tTupG (P : Addr) (gpos : Pos) (wi : TI) (g : TG) (tt : Value → TT) (te : Value → TE) (vs : List Nat) : TE := fun σ H Q => wi σ H fun J H1 => TabN H1 P ∧ ∀ H2 code, TabbedN P H1 H2 → GoodC H2 code → ColLoop g (tt code) (te code) vs σ (QTup Q) J H2
theorem pe_tupG {c P : Addr} {elt tg iter : Expr} {ifs : List Expr} {scope : Scope} {own : List (Str × Nat)} {p pos gpos : Pos} {wi : TI} {g : TG} {tt : Value → TT} {te : Value → TE} {k : Nat}
    (hc : X.calm = true) (hN : X.N.Nodup) (hr : Room k X.A) (hgl : Gl X "tuple") (hm : X.mg "tuple" = none) (TB : TabB X.base X.mg c P) (hcode : X.env.code = .ref c) (ok : GOk X.N X.env.scope scope own) (hi : PI X tg iter wi)
    (hg : ∀ (s : Shared) (H : Hp) (C : Addr) (cl : List (Str × Addr)) (code : Value) (bi : Addr) (fp : List Addr) (pn : List (Addr × Obj)), PG (gblkT X s H (genEnv scope cl C code bi X.env) fp pn) tg g)
    (ht : ∀ (s : Shared) (H : Hp) (C : Addr) (cl : List (Str × Addr)) (code : Value) (bi : Addr) (fp : List Addr) (pn : List (Addr × Obj)), PTs (gblkT X s H (genEnv scope cl C code bi X.env) fp pn) ifs (tt code))
    (he : ∀ (s : Shared) (H : Hp) (C : Addr) (cl : List (Str × Addr)) (code : Value) (bi : Addr) (fp : List Addr) (pn : List (Addr × Obj)), PE (gblkT X s H (genEnv scope cl C code bi X.env) fp pn) elt (te code))
    (hs : ∀ v, genFold iter X.env v = pure v := by intro _; rfl)
    (hst : starEach [.GeneratorExp elt [⟨tg, iter, ifs, 0⟩] scope gpos] X.env = (false, eval (.GeneratorExp elt [⟨tg, iter, ifs, 0⟩] scope gpos) X.env) :: starEach [] X.env := by rfl) :
    PE X (.Call (.Name "tuple" p) [.GeneratorExp elt [⟨tg, iter, ifs, 0⟩] scope gpos] [] pos) (tTupG P gpos wi g tt te (own.map Prod.snd)) := by
  refine ⟨fun pins s σ H Q I h => ?_⟩
  refine Call_ (ld_blt I hgl hm boot_tuple (PyProof.Rows.callWith_type1 (PyProof.Rows.args_cons ?_ hst) hst rfl))
  refine gen_made (B := X.A.in1.in1.in1.in1) (R0 := fun J H1 => TabN H1 P ∧ ∀ H2 code, TabbedN P H1 H2 → GoodC H2 code → ColLoop g (tt code) (te code) (own.map Prod.snd) σ (QTup Q) J H2) hN hr I.ok.frames I.ok.hd TB.bm hcode ok hi hs I h (base_code TB fun J H2 q => q.1) fun J H2 H3 code G it a fp tn gn s5 qq hT hcA M => ?_
  refine PyProof.Rows.args_nil ?_
  obtain ⟨⟨_, _, _, _, _, _, rfl⟩, _⟩ := id M
  exact call_tupleT hc hr ok.co M (hg ..) (ht ..) (he ..) (qq.2 H3 code hT ((qq.1.tabbed hT).good hcA))

/-- the same within a generator expression, whose code object is known -/
def tTupI (code : Value) (wi : TI) (g : TG) (tt : TT) (te : TE) (vs : List Nat) : TE := fun σ H Q => wi σ H fun J H1 => GoodC H1 code ∧ ∀ H2 P, TabbedN P H1 H2 → ColLoop g tt te vs σ (QTup Q) J H2
theorem pe_tupI {P0 : Addr} {code : Value} {elt tg iter : Expr} {ifs : List Expr} {scope : Scope} {own : List (Str × Nat)} {p pos gpos : Pos} {wi : TI} {g : TG} {tt : TT} {te : TE} {k : Nat}
    (hc : X.calm = true) (hN : X.N.Nodup) (hr : Room k X.A) (hgl : Gl X "tuple") (hm : X.mg "tuple" = none) (bm : X.base.BuiltinsAt X.mg P0) (hcode : X.env.code = code) (ok : GOk X.N X.env.scope scope own) (hi : PI X tg iter wi)
    (hg : ∀ (s : Shared) (H : Hp) (C : Addr) (cl : List (Str × Addr)) (code : Value) (bi : Addr) (fp : List Addr) (pn : List (Addr × Obj)), PG (gblkT X s H (genEnv scope cl C code bi X.env) fp pn) tg g)
    (ht : ∀ (s : Shared) (H : Hp) (C : Addr) (cl : List (Str × Addr)) (code : Value) (bi : Addr) (fp : List Addr) (pn : List (Addr × Obj)), PTs (gblkT X s H (genEnv scope cl C code bi X.env) fp pn) ifs tt)
    (he : ∀ (s : Shared) (H : Hp) (C : Addr) (cl : List (Str × Addr)) (code : Value) (bi : Addr) (fp : List Addr) (pn : List (Addr × Obj)), PE (gblkT X s H (genEnv scope cl C code bi X.env) fp pn) elt te)
    (hs : ∀ v, genFold iter X.env v = pure v := by intro _; rfl)
    (hst : starEach [.GeneratorExp elt [⟨tg, iter, ifs, 0⟩] scope gpos] X.env = (false, eval (.GeneratorExp elt [⟨tg, iter, ifs, 0⟩] scope gpos) X.env) :: starEach [] X.env := by rfl) :
    PE X (.Call (.Name "tuple" p) [.GeneratorExp elt [⟨tg, iter, ifs, 0⟩] scope gpos] [] pos) (tTupI code wi g tt te (own.map Prod.snd)) := by
  refine ⟨fun pins s σ H Q I h => ?_⟩
  refine Call_ (ld_blt I hgl hm boot_tuple (PyProof.Rows.callWith_type1 (PyProof.Rows.args_cons ?_ hst) hst rfl))
  refine gen_madeC (B := X.A.in1.in1.in1.in1) (R0 := fun J H1 => GoodC H1 code ∧ ∀ H2 P, TabbedN P H1 H2 → ColLoop g tt te (own.map Prod.snd) σ (QTup Q) J H2) hN hr I.ok.frames I.ok.hd bm ok hi hs I h (fun J H2 s2 q I2 => ?_) fun J H2 P H3 code G it a fp tn gn s5 qq hT M => ?_
  · obtain ⟨c, P, qs, rfl, h1, h2, h3⟩ := q.1
    exact ⟨c, P, hcode, (I2.hok c _ h1).1, qs, h2, h3⟩
  refine PyProof.Rows.args_nil ?_
  obtain ⟨⟨_, _, _, _, _, _, rfl⟩, _⟩ := id M
  exact call_tupleT hc hr ok.co M (hg ..) (ht ..) (he ..) (qq.2 H3 P hT)
end
end GX
set_option maxHeartbeats 4000000
/-! all, any of a generator expression of two clauses. -/
namespace GX
open PySem PySem.Spec PyProof.Rows L2 GxR GenW

theorem compTurn_two0 (elt target iter tg2 iter2 : Expr) (ifs ifs2 : List Expr) (scope : Scope) (pos : Pos) (it acc : Value) (env : Env) :
    compTurn (.GeneratorExp elt [⟨target, iter, ifs, 0⟩, ⟨tg2, iter2, ifs2, 0⟩] scope pos) 0 it acc env = (do
      standAt iter.pos
      match ← pyNext it with
      | none => pure (.done .next)
      | some v =>
        letOwnedTupleGo target it v
        assign target env v
        let mut ok := true
        for c in ifs do
          if ok then ok ← isTrue c env (eval c env)
        if ok then
          let x ← eval iter2 env
          standAt iter2.pos
          let x ← foldedSetIterable iter2 env x
          let it2 ← holding [x] (pyIter x)
          let _ ← runOwn (.compStart (.GeneratorExp elt [⟨target, iter, ifs, 0⟩, ⟨tg2, iter2, ifs2, 0⟩] scope pos) 1 it2 acc env) env
        again (.compLoop (.GeneratorExp elt [⟨target, iter, ifs, 0⟩, ⟨tg2, iter2, ifs2, 0⟩] scope pos) 0 it acc env)) := by rfl

theorem compTurn_two1 (elt target iter tg2 iter2 : Expr) (ifs ifs2 : List Expr) (scope : Scope) (pos : Pos) (it acc : Value) (env : Env) :
    compTurn (.GeneratorExp elt [⟨target, iter, ifs, 0⟩, ⟨tg2, iter2, ifs2, 0⟩] scope pos) 1 it acc env = (do
      standAt iter2.pos
      match ← pyNext it with
      | none => pure (.done .next)
      | some v =>
        letOwnedTupleGo tg2 it v
        assign tg2 env v
        let mut ok := true
        for c in ifs2 do
          if ok then ok ← isTrue c env (eval c env)
        if ok then
          (do let v ← eval elt env; standAt elt.pos; let _ ← yieldOut env v)
        again (.compLoop (.GeneratorExp elt [⟨target, iter, ifs, 0⟩, ⟨tg2, iter2, ifs2, 0⟩] scope pos) 1 it acc env)) := by rfl

theorem wipe_keep {σ : L2.St} {j : Nat} : ∀ {vs : List Nat}, j ∉ vs → (wipe σ vs)[j]? = σ[j]?
  | [], _ => rfl
  | v :: vs, h => by
    unfold wipe
    rw [List.getElem?_set_ne (fun e => h (by rw [e]; exact List.mem_cons_self))]
    exact wipe_keep fun z => h (List.mem_cons_of_mem _ z)

section
variable {X : Cx} {pins : List (Addr × Obj)} {σ : L2.St} {H : Hp} {s : Shared}

/-- two clauses; one count for both, falling at each turn of either -/
def AllLoop2 (b₀ : Bool) (g : TG) (tt : TT) (wi2 : TI) (g2 : TG) (tt2 : TT) (te : TE) (vs vs2 : List Nat) (σ : L2.St) (Q : VK) (J : It) (H2 : Hp) : Prop := ∃ W : Nat → Nat → Hp → Prop, (∃ m, W 0 m H2) ∧ ∀ i m H, W i m H →
  (J.stop i H ∧ Q (.bl (!b₀)) H) ∨ (J.go i H ∧ ∀ x H', J.yld i H x H' → g x (wipe σ vs) H' fun σ2 H2 => wipe σ2 vs = wipe σ vs ∧ tt σ2 H2 fun b H3 =>
    if b = true then wi2 σ2 H3 fun J2 H4 => ∃ W2 : Nat → Nat → Hp → Prop, (∃ m2, m2 < m ∧ W2 0 m2 H4) ∧ ∀ i2 m2 H, W2 i2 m2 H →
      (J2.stop i2 H ∧ ∃ m', m' ≤ m2 ∧ W (i + 1) m' H) ∨ (J2.go i2 H ∧ ∀ x H', J2.yld i2 H x H' → g2 x (wipe σ2 vs2) H' fun σ3 H5 => wipe σ3 vs2 = wipe σ2 vs2 ∧ tt2 σ3 H5 fun b H6 =>
        if b = true then te σ3 H6 fun y H7 => ∃ c, y = .bl c ∧ if c = b₀ then Q (.bl b₀) H7 else ∃ m2', m2' < m2 ∧ W2 (i2 + 1) m2' H7 else ∃ m2', m2' < m2 ∧ W2 (i2 + 1) m2' H6)
    else ∃ m', m' < m ∧ W (i + 1) m' H3)
def tAllG2 (b₀ : Bool) (P : Addr) (wi : TI) (g : TG) (tt : TT) (wi2 : TI) (g2 : TG) (tt2 : TT) (te : TE) (vs vs2 : List Nat) : TE := fun σ H Q => wi σ H fun J H1 => TabN H1 P ∧ ∀ H2, TabbedN P H1 H2 → AllLoop2 b₀ g tt wi2 g2 tt2 te vs vs2 σ Q J H2

theorem seg_inner {G : Cx} {A : Around} {elt tg iter tg2 iter2 : Expr} {ifs ifs2 : List Expr} {scope : Scope} {pos : Pos} {it2 : Addr} {fp2 : List Addr} {tn2 : Nat → Heap → Prop} {J2 : It} {g2 : TG} {tt2 : TT} {te : TE} {vs vs2 : List Nat} {σ0 σ2 : L2.St} {b₀ : Bool} {Q : VK}
    {W2 : Nat → Nat → Hp → Prop} {Fin2 : Nat → Hp → Prop} {pinsO : List (Addr × Obj)} {c0 : Code} {p0 : Pos} {k : Result → Sem PySem.Fin} {l : List Value}
    (hov : A.over c0 [] = G.A) (hxe : G.xe = fun _ _ => False) (hc : G.calm = true) (hco : G.env.scope.isCoroutine = false) (hw2 : wipe σ2 vs = wipe σ0 vs) (hsub : ∀ v ∈ vs2, v ∈ vs)
    (T2 : Turn G.prog G.w G.K tg2 J2 fp2 it2 tn2) (pg2 : PG G tg2 g2) (pt2 : PTs G ifs2 tt2) (pe : PE G elt te)
    (turn2 : ∀ i2 m2 H, W2 i2 m2 H → (J2.stop i2 H ∧ Fin2 m2 H) ∨ (J2.go i2 H ∧ ∀ x H', J2.yld i2 H x H' → g2 x (wipe σ2 vs2) H' fun σ3 H5 => wipe σ3 vs2 = wipe σ2 vs2 ∧ tt2 σ3 H5 fun b H6 =>
        if b = true then te σ3 H6 fun y H7 => ∃ c, y = .bl c ∧ if c = b₀ then Q (.bl b₀) H7 else ∃ m2', m2' < m2 ∧ W2 (i2 + 1) m2' H7 else ∃ m2', m2' < m2 ∧ W2 (i2 + 1) m2' H6))
    (M : Nat) (done : ∀ m2 n H5 s₀ s', m2 < n → m2 < M → Inv G pinsO (wipe σ2 vs2) H5 s' → Fin2 m2 H5 → Seg (model G.prog G.w) A (fun n s₀ r s₁ => r = .ok .next ∧ gR G (wipe σ0 vs) b₀ Q n s₀ s₁) (gY G (wipe σ0 vs) b₀ Q) n s₀ c0 (k (.ok .next)) [] s') :
    ∀ (m2 n i2 : Nat) (H' : Hp) (s₀ s : Shared), m2 < n → m2 < M → Inv G pinsO (wipe σ2 vs2) H' s → tn2 i2 s.heap → (∀ b ∈ fp2, FpOk G pinsO H' b) → W2 i2 m2 H' →
      Seg (model G.prog G.w) A (fun n s₀ r s₁ => r = .ok .next ∧ gR G (wipe σ0 vs) b₀ Q n s₀ s₁) (gY G (wipe σ0 vs) b₀ Q) n s₀ (.compLoop (.GeneratorExp elt [⟨tg, iter, ifs, 0⟩, ⟨tg2, iter2, ifs2, 0⟩] scope pos) 1 (.ref it2) .none G.env)
        ((model G.prog G.w).den (.compLoop (.GeneratorExp elt [⟨tg, iter, ifs, 0⟩, ⟨tg2, iter2, ifs2, 0⟩] scope pos) 1 (.ref it2) .none G.env)) [.ret k none false l c0 p0 []] s := by
  have hov2 : A.over (.compLoop (.GeneratorExp elt [⟨tg, iter, ifs, 0⟩, ⟨tg2, iter2, ifs2, 0⟩] scope pos) 1 (.ref it2) .none G.env) [.ret k none false l c0 p0 []] = G.A := by
    rw [over_loop (by rfl) (by rfl)]; exact hov
  intro m2
  induction m2 using Nat.strongRecOn with
  | ind m2 ih =>
  intro n i2 H5 s₀ s5 hmn hM I5 st5 f5 w5
  show Seg _ A _ _ _ s₀ _ ((compTurn (.GeneratorExp elt [⟨tg, iter, ifs, 0⟩, ⟨tg2, iter2, ifs2, 0⟩] scope pos) 1 (.ref it2) .none G.env).onRaise (fun x => do noteFrame x G.env; theTreesLotGoes x)) _ s5
  rw [compTurn_two1, Sem.onRaise_eq_wrap]
  refine seg_bind_wrap (wpAny_standAt ?_)
  rcases turn2 i2 m2 H5 w5 with ⟨stop, qq⟩ | ⟨go, step⟩
  · refine seg_bind_wrap ?_
    rw [hov2]
    refine thnF (T2.done G rfl rfl rfl hc i2 pinsO s5 _ H5 (fun _ _ => False) I5 f5 st5 stop) fun r s6 ⟨hr, I6⟩ => ?_
    subst hr
    exact seg_leaf (.ok .next) (done m2 n H5 s₀ s6 hmn hM I6 qq)
  · refine seg_bind_wrap ?_
    rw [hov2]
    refine thnF (T2.item G rfl rfl rfl hc i2 pinsO s5 _ H5 (fun _ _ => False) I5 f5 st5 go) fun r s6 ⟨u, hr, h6⟩ => ?_
    subst hr
    refine seg_bind_wrap ?_
    rw [hov2]
    refine thnF h6 fun _ s7 ⟨x, H7, I7, r7, y7, st7, n7⟩ => ?_
    have f7 : ∀ b ∈ fp2, FpOk G pinsO H7 b := fun b hb => ⟨n7 b hb, (f5 b hb).2⟩
    have I7' := I7.pinned f7 (T2.obj _ _ st7)
    refine seg_bind_wrap ?_
    rw [hov2]
    have pgr := pg2.run _ s7 _ H7 x u _ I7' r7 (step x H7 y7)
    rw [hxe] at pgr
    refine thnF pgr fun _ s8 ⟨σ8, H8, I8, hw8, q8⟩ => ?_
    refine seg_bind_wrap ?_
    rw [hov2]
    have ptr := pt2.run _ s8 σ8 H8 _ I8 q8
    rw [hxe] at ptr
    refine thnF ptr fun b s9 ⟨H9, I9, q9⟩ => ?_
    have fin : ∀ {s' : Shared} {H' : Hp}, Inv G (pinsO ++ pinsAt fp2 s7.heap) σ8 H' s' → Inv G pinsO (wipe σ2 vs2) H' s' ∧ tn2 (i2 + 1) s'.heap ∧ (∀ b ∈ fp2, FpOk G pinsO H' b) := fun {s' H'} I' => by
      have pin' : ∀ b ∈ fp2, ∀ o, s7.heap.get? b = some o → s'.heap.get? b = some o ∧ H' b = none := fun b hb o e =>
        let z := I'.pin (b, o) (List.mem_append_right _ (List.mem_append_right _ (mem_pinsAt hb e)))
        ⟨z.1, z.2.1⟩
      have hl : (wipe σ2 vs2).length = σ8.length := by rw [← hw8, wipe_length]
      refine ⟨(I'.unpinned (pins := pinsO)).weak hl (fun j v e => ?_), T2.keep _ _ _ st7 fun b hb o e => (pin' b hb o e).1, fun b hb => ?_⟩
      · rw [← hw8] at e
        exact (wipe_some e).1
      · obtain ⟨o, e, _⟩ := T2.obj _ _ st7 b hb
        exact ⟨(pin' b hb o e).2, (f5 b hb).2⟩
    cases b with
    | false =>
      simp only [Bool.false_eq_true, if_false] at q9 ⊢
      obtain ⟨m', hm, w'⟩ := q9
      obtain ⟨f1, f2, f3⟩ := fin I9
      exact seg_again rfl (ih m' hm n (i2 + 1) H9 s₀ s9 (by omega) (by omega) f1 f2 f3 w')
    | true =>
      simp only [if_true] at q9 ⊢
      have hy : ∀ v, yieldOut G.env v = yieldValue v := fun v => by simp only [yieldOut, hco, Bool.false_eq_true, if_false]
      simp only [hy]
      rw [Sem.bind_eq_wrap', Sem.bind_eq_wrap', Sem.wrap_wrap, Sem.wrap_wrap]
      refine seg_wrap ?_
      rw [hov2]
      have per := pe.run _ s9 σ8 H9 _ I9 q9
      rw [hxe] at per
      refine thnF per fun z s10 ⟨yv, H10, I10, r10, c, hyv, q10⟩ => ?_
      subst hyv
      cases r10
      obtain ⟨f1, f2, f3⟩ := fin I10
      have I0 : Inv G [] (wipe σ0 vs) H10 s10 := by
        have hl : (wipe σ0 vs).length = (wipe σ2 vs2).length := by rw [← hw2, wipe_length, wipe_length]
        refine (f1.pins_of (pins' := []) fun p hp => by cases hp).weak hl fun j v e => ?_
        rw [← hw2] at e
        obtain ⟨e1, e2⟩ := wipe_some e
        rw [wipe_keep fun z => e2 (hsub j z)]
        exact e1
      by_cases hcb : c = b₀
      · rw [if_pos hcb] at q10
        cases n with
        | zero => omega
        | succ n => exact seg_at (seg_yield rfl rfl rfl ⟨c, H10, rfl, I0, fun _ => q10, fun hne => absurd hcb hne⟩)
      · rw [if_neg hcb] at q10
        obtain ⟨m', hm, w'⟩ := q10
        cases n with
        | zero => omega
        | succ n =>
          refine seg_at (seg_yield rfl rfl rfl ⟨c, H10, rfl, I0, fun h => absurd h hcb, fun _ s2 hh ho hb => ?_⟩)
          exact seg_again rfl (ih m' hm n (i2 + 1) H10 s2 s2 (by omega) (by omega) (inv_gens f1 hh ho hb) (by rw [hh]; exact f2) f3 w')

theorem seg_start2 {G : Cx} {A : Around} {elt tg iter tg2 iter2 : Expr} {ifs ifs2 : List Expr} {scope : Scope} {pos : Pos} {it2 : Addr} {R : GenEnd} {Y : Protocol} {n : Nat} {s₀ s : Shared} {fp2 : List Addr} {tn2 : Nat → Heap → Prop} {J2 : It} {fs : List Frame}
    (T : Turn G.prog G.w G.K tg2 J2 fp2 it2 tn2) (st : tn2 0 s.heap)
    (loop : Seg (model G.prog G.w) A R Y n s₀ (.compLoop (.GeneratorExp elt [⟨tg, iter, ifs, 0⟩, ⟨tg2, iter2, ifs2, 0⟩] scope pos) 1 (.ref it2) .none G.env) ((model G.prog G.w).den (.compLoop (.GeneratorExp elt [⟨tg, iter, ifs, 0⟩, ⟨tg2, iter2, ifs2, 0⟩] scope pos) 1 (.ref it2) .none G.env)) fs s) :
    Seg (model G.prog G.w) A R Y n s₀ (.compStart (.GeneratorExp elt [⟨tg, iter, ifs, 0⟩, ⟨tg2, iter2, ifs2, 0⟩] scope pos) 1 (.ref it2) .none G.env) ((model G.prog G.w).den (.compStart (.GeneratorExp elt [⟨tg, iter, ifs, 0⟩, ⟨tg2, iter2, ifs2, 0⟩] scope pos) 1 (.ref it2) .none G.env)) fs s := by
  show Seg _ A _ _ _ s₀ _ ((compStart (.GeneratorExp elt [⟨tg, iter, ifs, 0⟩, ⟨tg2, iter2, ifs2, 0⟩] scope pos) 1 (.ref it2) .none G.env).onRaise (fun x => do noteFrame x G.env; standAt theWindowsPlace)) fs s
  unfold compStart
  rw [Sem.onRaise_eq_wrap]
  show Seg _ A _ _ _ s₀ _ ((ask >>= _).wrap _ _ _ _) fs s
  refine seg_bind_wrap (wpAny_askSetting ?_)
  split
  · exact seg_again rfl loop
  · first
      | exact seg_bind_wrap (wpAny_rule (seg_bind_wrap (wpAny_standAt (seg_bind_wrap (T.self _ 0 s _ _ st (seg_again rfl loop))))))
      | (refine seg_bind_wrap (wpAny_rule ?_); show Seg _ A _ _ _ s₀ _ ((standAt iter2.pos >>= _).wrap _ _ _ _) fs s; exact seg_bind_wrap (wpAny_standAt (seg_bind_wrap (T.self _ 0 s _ _ st (seg_again rfl loop)))))

theorem seg_start1 {G : Cx} {A : Around} {elt tg iter : Expr} {ifs : List Expr} {more : List Comprehension} {scope : Scope} {pos : Pos} {it : Addr} {R : GenEnd} {Y : Protocol} {n : Nat} {s₀ s : Shared} {fp : List Addr} {tn : Nat → Heap → Prop} {J : It}
    (T : Turn G.prog G.w G.K tg J fp it tn) (st : tn 0 s.heap)
    (loop : Seg (model G.prog G.w) A R Y n s₀ (.compLoop (.GeneratorExp elt (⟨tg, iter, ifs, 0⟩ :: more) scope pos) 0 (.ref it) .none G.env) ((model G.prog G.w).den (.compLoop (.GeneratorExp elt (⟨tg, iter, ifs, 0⟩ :: more) scope pos) 0 (.ref it) .none G.env)) [] s) :
    Seg (model G.prog G.w) A R Y n s₀ (.compStart (.GeneratorExp elt (⟨tg, iter, ifs, 0⟩ :: more) scope pos) 0 (.ref it) .none G.env) ((model G.prog G.w).den (.compStart (.GeneratorExp elt (⟨tg, iter, ifs, 0⟩ :: more) scope pos) 0 (.ref it) .none G.env)) [] s := by
  show Seg _ A _ _ _ s₀ _ ((compStart (.GeneratorExp elt (⟨tg, iter, ifs, 0⟩ :: more) scope pos) 0 (.ref it) .none G.env).onRaise (leaving G.env)) [] s
  unfold compStart
  rw [Sem.onRaise_eq_wrap]
  show Seg _ A _ _ _ s₀ _ ((ask >>= _).wrap _ _ _ _) [] s
  refine seg_bind_wrap (wpAny_askSetting ?_)
  split
  · exact seg_again rfl loop
  · first
      | exact seg_bind_wrap (wpAny_rule (seg_bind_wrap (wpAny_standAt (seg_bind_wrap (T.self _ 0 s _ _ st (seg_again rfl loop))))))
      | (refine seg_bind_wrap (wpAny_rule ?_); show Seg _ A _ _ _ s₀ _ ((standAt iter.pos >>= _).wrap _ _ _ _) [] s; exact seg_bind_wrap (wpAny_standAt (seg_bind_wrap (T.self _ 0 s _ _ st (seg_again rfl loop)))))

theorem seg_gen2 {G : Cx} {A : Around} {elt tg iter tg2 iter2 : Expr} {ifs ifs2 : List Expr} {scope : Scope} {pos : Pos} {it : Addr} {fp : List Addr} {tn : Nat → Heap → Prop} {J : It} {g g2 : TG} {tt tt2 : TT} {te : TE} {wi2 : TI} {vs vs2 : List Nat} {σ0 : L2.St} {b₀ : Bool} {Q : VK} {W : Nat → Nat → Hp → Prop}
    (hA : G.A = A.deeper G.env) (hxe : G.xe = fun _ _ => False) (hc : G.calm = true) (hco : G.env.scope.isCoroutine = false) (hex : G.ex = fp) (hpn : ∀ p ∈ G.pn, p.1 ∉ fp) (hsub : ∀ v ∈ vs2, v ∈ vs)
    (T : Turn G.prog G.w G.K tg J fp it tn) (pg : PG G tg g) (pt : PTs G ifs tt) (hi2 : PI G tg2 iter2 wi2) (pg2 : PG G tg2 g2) (pt2 : PTs G ifs2 tt2) (pe : PE G elt te) (hs2 : ∀ v, foldedSetIterable iter2 G.env v = pure v)
    (turn : ∀ i m H, W i m H → (J.stop i H ∧ Q (.bl (!b₀)) H) ∨ (J.go i H ∧ ∀ x H', J.yld i H x H' → g x (wipe σ0 vs) H' fun σ2 H2 => wipe σ2 vs = wipe σ0 vs ∧ tt σ2 H2 fun b H3 =>
      if b = true then wi2 σ2 H3 fun J2 H4 => ∃ W2 : Nat → Nat → Hp → Prop, (∃ m2, m2 < m ∧ W2 0 m2 H4) ∧ ∀ i2 m2 H, W2 i2 m2 H →
        (J2.stop i2 H ∧ ∃ m', m' ≤ m2 ∧ W (i + 1) m' H) ∨ (J2.go i2 H ∧ ∀ x H', J2.yld i2 H x H' → g2 x (wipe σ2 vs2) H' fun σ3 H5 => wipe σ3 vs2 = wipe σ2 vs2 ∧ tt2 σ3 H5 fun b H6 =>
          if b = true then te σ3 H6 fun y H7 => ∃ c, y = .bl c ∧ if c = b₀ then Q (.bl b₀) H7 else ∃ m2', m2' < m2 ∧ W2 (i2 + 1) m2' H7 else ∃ m2', m2' < m2 ∧ W2 (i2 + 1) m2' H6)
      else ∃ m', m' < m ∧ W (i + 1) m' H3)) :
    ∀ (m n i : Nat) (H' : Hp) (s₀ s : Shared), m < n → Inv G [] (wipe σ0 vs) H' s → tn i s.heap → (∀ b ∈ fp, H' b = none) → W i m H' →
      Seg (model G.prog G.w) A (fun n s₀ r s₁ => r = .ok .next ∧ gR G (wipe σ0 vs) b₀ Q n s₀ s₁) (gY G (wipe σ0 vs) b₀ Q) n s₀ (.compLoop (.GeneratorExp elt [⟨tg, iter, ifs, 0⟩, ⟨tg2, iter2, ifs2, 0⟩] scope pos) 0 (.ref it) .none G.env)
        ((model G.prog G.w).den (.compLoop (.GeneratorExp elt [⟨tg, iter, ifs, 0⟩, ⟨tg2, iter2, ifs2, 0⟩] scope pos) 0 (.ref it) .none G.env)) [] s := by
  have stat : ∀ {σ' : L2.St} {H' : Hp} {s' : Shared}, Inv G [] σ' H' s' → (∀ b ∈ fp, H' b = none) → ∀ b ∈ fp, FpOk G [] H' b := fun {σ' H' s'} I' hn b hb =>
    ⟨hn b hb, (I'.ok.exf b (by rw [hex]; exact hb)).1, I'.ok.exfs b (by rw [hex]; exact hb), .inl (by rw [hex]; exact hb), fun x c e => (I'.ok.exf b (by rw [hex]; exact hb)).2 x c e, fun p hp => by
      rw [List.append_nil] at hp
      exact fun z => hpn p hp (by rw [z]; exact hb)⟩
  have hov : A.over (.compLoop (.GeneratorExp elt [⟨tg, iter, ifs, 0⟩, ⟨tg2, iter2, ifs2, 0⟩] scope pos) 0 (.ref it) .none G.env) [] = G.A := by rw [hA]; exact over_gen
  intro m
  induction m using Nat.strongRecOn with
  | ind m ih =>
  intro n i H5 s₀ s5 hmn I5 st5 n5 w5
  show Seg _ A _ _ _ s₀ _ ((compTurn (.GeneratorExp elt [⟨tg, iter, ifs, 0⟩, ⟨tg2, iter2, ifs2, 0⟩] scope pos) 0 (.ref it) .none G.env).onRaise (leaving G.env)) [] s5
  rw [compTurn_two0, Sem.onRaise_eq_wrap]
  refine seg_bind_wrap (wpAny_standAt ?_)
  rcases turn i m H5 w5 with ⟨stop, qq⟩ | ⟨go, step⟩
  · refine seg_bind_wrap ?_
    rw [hov]
    refine thnF (T.done G rfl rfl rfl hc i [] s5 _ H5 (fun _ _ => False) I5 (stat I5 n5) st5 stop) fun r s6 ⟨hr, I6⟩ => ?_
    subst hr
    exact seg_end (.ok .next) ⟨rfl, H5, I6, qq⟩
  · refine seg_bind_wrap ?_
    rw [hov]
    refine thnF (T.item G rfl rfl rfl hc i [] s5 _ H5 (fun _ _ => False) I5 (stat I5 n5) st5 go) fun r s6 ⟨u, hr, h6⟩ => ?_
    subst hr
    refine seg_bind_wrap ?_
    rw [hov]
    refine thnF h6 fun _ s7 ⟨x, H7, I7, r7, y7, st7, n7⟩ => ?_
    have I7' := I7.pinned (stat I7 n7) (T.obj _ _ st7)
    refine seg_bind_wrap ?_
    rw [hov]
    have pgr := pg.run _ s7 _ H7 x u _ I7' r7 (step x H7 y7)
    rw [hxe] at pgr
    refine thnF pgr fun _ s8 ⟨σ8, H8, I8, hw8, q8⟩ => ?_
    refine seg_bind_wrap ?_
    rw [hov]
    have ptr := pt.run _ s8 σ8 H8 _ I8 q8
    rw [hxe] at ptr
    refine thnF ptr fun b s9 ⟨H9, I9, q9⟩ => ?_
    have fin : ∀ {s' : Shared} {H' : Hp} {σ' : L2.St}, (wipe σ0 vs).length = σ'.length → (∀ (j : Nat) v, (wipe σ0 vs)[j]? = some (some v) → σ'[j]? = some (some v)) → Inv G ([] ++ pinsAt fp s7.heap) σ' H' s' → Inv G [] (wipe σ0 vs) H' s' ∧ tn (i + 1) s'.heap ∧ (∀ b ∈ fp, H' b = none) := fun {s' H' σ'} hl hw' I' => by
      have pin' : ∀ b ∈ fp, ∀ o, s7.heap.get? b = some o → s'.heap.get? b = some o ∧ H' b = none := fun b hb o e =>
        let z := I'.pin (b, o) (List.mem_append_right _ (List.mem_append_right _ (mem_pinsAt hb e)))
        ⟨z.1, z.2.1⟩
      refine ⟨(I'.unpinned (pins := [])).weak hl hw', T.keep _ _ _ st7 fun b hb o e => (pin' b hb o e).1, fun b hb => ?_⟩
      · obtain ⟨o, e, _⟩ := T.obj _ _ st7 b hb
        exact (pin' b hb o e).2
    cases b with
    | false =>
      simp only [Bool.false_eq_true, if_false] at q9 ⊢
      obtain ⟨m', hm, w'⟩ := q9
      obtain ⟨f1, f2, f3⟩ := fin (by rw [← hw8, wipe_length]) (fun j v e => by
        rw [← hw8] at e
        exact (wipe_some e).1) I9
      exact seg_again rfl (ih m' hm n (i + 1) H9 s₀ s9 (by omega) f1 f2 f3 w')
    | true =>
      simp only [if_true] at q9 ⊢
      refine seg_bind_wrap ?_
      rw [hov]
      have hir := hi2.run _ s9 σ8 H9 _ I9 q9
      rw [hxe] at hir
      refine thnF hir fun v s10 h10 => ?_
      refine seg_bind_wrap (wpAny_standAt ?_)
      refine seg_bind_wrap (wpAny_of_eq (hs2 v) ?_)
      refine seg_bind_wrap (wpAny_holding ?_)
      rw [hov]
      refine thnF h10 fun itv s11 h11 => ?_
      obtain ⟨it2, fp2, tn2, J2, H11, e, I11, T2, st11, f11, W2, ⟨m2, hm2, w2⟩, turn2⟩ := h11
      subst e
      rw [Sem.bind_eq_wrap', Sem.wrap_wrap]
      refine seg_call fun p => ?_
      refine seg_start2 T2 st11 ?_
      have I11w : Inv G ([] ++ pinsAt fp s7.heap) (wipe σ8 vs2) H11 s11 := I11.weak (wipe_length _ _) fun j v e => (wipe_some e).1
      refine seg_inner (W2 := W2) (Fin2 := fun m2 H => ∃ m', m' ≤ m2 ∧ W (i + 1) m' H) (pinsO := [] ++ pinsAt fp s7.heap) hov hxe hc hco hw8 hsub T2 pg2 pt2 pe turn2 m (fun m2 n' H12 s₀ s12 hmn' hm2' I12 hf => ?_) m2 n 0 H11 s₀ s11 (by omega) hm2 I11w st11 f11 w2
      obtain ⟨m', hm', w'⟩ := hf
      obtain ⟨f1, f2, f3⟩ := fin (by rw [← hw8, wipe_length, wipe_length]) (fun j v e => by
        rw [← hw8] at e
        obtain ⟨e1, e2⟩ := wipe_some e
        rw [wipe_keep fun z => e2 (hsub j z)]
        exact e1) I12
      exact seg_again rfl (ih m' (by omega) n' (i + 1) H12 s₀ s12 (by omega) f1 f2 f3 w')
theorem held_made2 {G : Cx} {elt tg iter tg2 iter2 : Expr} {ifs ifs2 : List Expr} {vs2 : List Nat} {wi2 : TI} {g2 : TG} {tt2 : TT} {scope : Scope} {own : List (Str × Nat)} {gpos : Pos} {code : Value} {J : It} {H3 : Hp} {it a : Addr} {fp : List Addr} {tn : Nat → Heap → Prop} {gn : Nat} {s5 : Shared} {g : TG} {tt : TT} {te : TE} {b₀ : Bool} {Q : VK}
    (hc : X.calm = true) (hco : scope.isCoroutine = false)
    (hsub : ∀ v ∈ vs2, v ∈ own.map (·.2)) (hi2 : ∀ (s : Shared) (H : Hp) (C : Addr) (cl : List (Str × Addr)) (code : Value) (bi : Addr) (fp : List Addr) (pn : List (Addr × Obj)), PI (gblk X s H (genEnv scope cl C code bi X.env) fp pn) tg2 iter2 wi2)
    (hg2 : ∀ (s : Shared) (H : Hp) (C : Addr) (cl : List (Str × Addr)) (code : Value) (bi : Addr) (fp : List Addr) (pn : List (Addr × Obj)), PG (gblk X s H (genEnv scope cl C code bi X.env) fp pn) tg2 g2)
    (ht2 : ∀ (s : Shared) (H : Hp) (C : Addr) (cl : List (Str × Addr)) (code : Value) (bi : Addr) (fp : List Addr) (pn : List (Addr × Obj)), PTs (gblk X s H (genEnv scope cl C code bi X.env) fp pn) ifs2 tt2)
    (hg : ∀ (s : Shared) (H : Hp) (C : Addr) (cl : List (Str × Addr)) (code : Value) (bi : Addr) (fp : List Addr) (pn : List (Addr × Obj)), PG (gblk X s H (genEnv scope cl C code bi X.env) fp pn) tg g)
    (ht : ∀ (s : Shared) (H : Hp) (C : Addr) (cl : List (Str × Addr)) (code : Value) (bi : Addr) (fp : List Addr) (pn : List (Addr × Obj)), PTs (gblk X s H (genEnv scope cl C code bi X.env) fp pn) ifs tt)
    (he : ∀ (s : Shared) (H : Hp) (C : Addr) (cl : List (Str × Addr)) (code : Value) (bi : Addr) (fp : List Addr) (pn : List (Addr × Obj)), PE (gblk X s H (genEnv scope cl C code bi X.env) fp pn) elt te)
    (hs2 : ∀ (C : Addr) (cl : List (Str × Addr)) (code : Value) (bi : Addr) v, foldedSetIterable iter2 (genEnv scope cl C code bi X.env) v = pure v)
    (M : Made X X.A.in1.in1 pins σ (wipe σ (own.map (·.2))) (.GeneratorExp elt [⟨tg, iter, ifs, 0⟩, ⟨tg2, iter2, ifs2, 0⟩] scope gpos) tg scope code G J H3 it a fp tn gn s5) (q : AllLoop2 b₀ g tt wi2 g2 tt2 te (own.map (·.2)) vs2 σ Q J H3) : ∃ n, Held G (wipe σ (own.map (·.2))) b₀ Q X.A.in1.in1 a gn n s5 := by
  obtain ⟨⟨s, Hs, C, cl, bi, pn, rfl⟩, pn1, T, I5, hgen, st5, fr5, isg, back, _, _⟩ := M
  obtain ⟨W, ⟨m0, w0⟩, turn⟩ := q
  refine ⟨m0 + 1, isg _ _ _ _ I5, I5.nolimit, _, hgen, rfl, ?_⟩
  refine seg_start1 (G := gblk X s Hs (genEnv scope cl C code bi X.env) fp pn) T st5 ?_
  exact seg_gen2 (G := gblk X s Hs (genEnv scope cl C code bi X.env) fp pn) (W := W) rfl rfl hc hco rfl (fun p hp => (pn1 p hp).1) hsub T (hg ..) (ht ..) (hi2 ..) (hg2 ..) (ht2 ..) (he ..) (hs2 _ _ _ _) turn m0 (m0 + 1) 0 H3 _ _ (Nat.lt_succ_self _) (inv_gens I5 rfl rfl (bare_set I5.bare rfl)) st5 (fun b hb => (fr5 b hb).1) w0

theorem pe_allG2 {c P : Addr} {elt tg iter tg2 iter2 : Expr} {ifs ifs2 : List Expr} {vs2 : List Nat} {wi2 : TI} {g2 : TG} {tt2 : TT} {scope : Scope} {own : List (Str × Nat)} {p pos gpos : Pos} {wi : TI} {g : TG} {tt : TT} {te : TE} {k : Nat}
    (hc : X.calm = true) (hN : X.N.Nodup) (hr : Room k X.A) (hgl : Gl X "all") (hm : X.mg "all" = none) (TB : TabB X.base X.mg c P) (hcode : X.env.code = .ref c) (ok : GOk X.N X.env.scope scope own) (hi : PI X tg iter wi)
    (hsub : ∀ v ∈ vs2, v ∈ own.map (·.2)) (hi2 : ∀ (s : Shared) (H : Hp) (C : Addr) (cl : List (Str × Addr)) (code : Value) (bi : Addr) (fp : List Addr) (pn : List (Addr × Obj)), PI (gblk X s H (genEnv scope cl C code bi X.env) fp pn) tg2 iter2 wi2)
    (hg2 : ∀ (s : Shared) (H : Hp) (C : Addr) (cl : List (Str × Addr)) (code : Value) (bi : Addr) (fp : List Addr) (pn : List (Addr × Obj)), PG (gblk X s H (genEnv scope cl C code bi X.env) fp pn) tg2 g2)
    (ht2 : ∀ (s : Shared) (H : Hp) (C : Addr) (cl : List (Str × Addr)) (code : Value) (bi : Addr) (fp : List Addr) (pn : List (Addr × Obj)), PTs (gblk X s H (genEnv scope cl C code bi X.env) fp pn) ifs2 tt2)
    (hg : ∀ (s : Shared) (H : Hp) (C : Addr) (cl : List (Str × Addr)) (code : Value) (bi : Addr) (fp : List Addr) (pn : List (Addr × Obj)), PG (gblk X s H (genEnv scope cl C code bi X.env) fp pn) tg g)
    (ht : ∀ (s : Shared) (H : Hp) (C : Addr) (cl : List (Str × Addr)) (code : Value) (bi : Addr) (fp : List Addr) (pn : List (Addr × Obj)), PTs (gblk X s H (genEnv scope cl C code bi X.env) fp pn) ifs tt)
    (he : ∀ (s : Shared) (H : Hp) (C : Addr) (cl : List (Str × Addr)) (code : Value) (bi : Addr) (fp : List Addr) (pn : List (Addr × Obj)), PE (gblk X s H (genEnv scope cl C code bi X.env) fp pn) elt te)
    (hs : ∀ v, genFold iter X.env v = pure v := by intro _; rfl)
    (hs2 : ∀ (C : Addr) (cl : List (Str × Addr)) (code : Value) (bi : Addr) v, foldedSetIterable iter2 (genEnv scope cl C code bi X.env) v = pure v := by intros; rfl)
    (hst : starEach [.GeneratorExp elt [⟨tg, iter, ifs, 0⟩, ⟨tg2, iter2, ifs2, 0⟩] scope gpos] X.env = (false, eval (.GeneratorExp elt [⟨tg, iter, ifs, 0⟩, ⟨tg2, iter2, ifs2, 0⟩] scope gpos) X.env) :: starEach [] X.env := by rfl) :
    PE X (.Call (.Name "all" p) [.GeneratorExp elt [⟨tg, iter, ifs, 0⟩, ⟨tg2, iter2, ifs2, 0⟩] scope gpos] [] pos) (tAllG2 false P wi g tt wi2 g2 tt2 te (own.map (·.2)) vs2) := by
  refine ⟨fun pins s σ H Q I h => ?_⟩
  refine wpAny_Call_Name_kw (ld_blt I hgl hm (show bootBuiltins "all" = some (.builtin "all") by decide +kernel) ?_)
  refine PyProof.Rows.callWith_builtin1 ?_ hst (by rfl)
  rw [hst]
  show wpAny _ _ (spliced ((false, eval (.GeneratorExp elt [⟨tg, iter, ifs, 0⟩, ⟨tg2, iter2, ifs2, 0⟩] scope gpos) X.env) :: backTo pos (starEach [] X.env))) _ _ s
  refine Calls.spliced_cons (gen_made (B := X.A.in1.in1) (R0 := fun J H1 => TabN H1 P ∧ ∀ H2, TabbedN P H1 H2 → AllLoop2 false g tt wi2 g2 tt2 te (own.map Prod.snd) vs2 σ Q J H2) hN hr I.ok.frames I.ok.hd TB.bm hcode ok hi hs I h (base_code TB fun J H2 q => q.1) fun J H2 H3 code G it a fp tn gn s5 qq hT hcA M => ?_)
  obtain ⟨n, hh⟩ := held_made2 hc ok.co hsub hi2 hg2 ht2 hg ht he hs2 M (qq.2 H3 hT)
  have eP : G.prog = X.prog := by obtain ⟨⟨_, _, _, _, _, _, e⟩, _⟩ := M; rw [e]
  have eW : G.w = X.w := by obtain ⟨⟨_, _, _, _, _, _, e⟩, _⟩ := M; rw [e]
  refine Calls.spliced_nil ?_
  refine call_function_tree F.kind_all F.plain_all F.entry_all (F.args_all1 _) ?_
  unfold Builtin.«all»
  refine wpAny_bind (m := oneArg "all" _) (wpAny_pure ?_)
  refine wpAny_bind (wpAny_pyIter_gen hh.1 ?_)
  rw [← eP, ← eW]
  exact wpAny_pure ⟨plainId_quiet F.plain_all_loop _, all_loop (A := X.A) hr.hd (by have := hr.dp; omega) (fun s1 H1 I1 => M.isg _ _ s1 H1 I1) (fun c s1 H1 I1 q => ⟨.bl c, H1, M.back _ _ s1 H1 I1, rfl, q⟩) n s5 hh⟩

theorem pe_anyG2 {c P : Addr} {elt tg iter tg2 iter2 : Expr} {ifs ifs2 : List Expr} {vs2 : List Nat} {wi2 : TI} {g2 : TG} {tt2 : TT} {scope : Scope} {own : List (Str × Nat)} {p pos gpos : Pos} {wi : TI} {g : TG} {tt : TT} {te : TE} {k : Nat}
    (hc : X.calm = true) (hN : X.N.Nodup) (hr : Room k X.A) (hgl : Gl X "any") (hm : X.mg "any" = none) (TB : TabB X.base X.mg c P) (hcode : X.env.code = .ref c) (ok : GOk X.N X.env.scope scope own) (hi : PI X tg iter wi)
    (hsub : ∀ v ∈ vs2, v ∈ own.map (·.2)) (hi2 : ∀ (s : Shared) (H : Hp) (C : Addr) (cl : List (Str × Addr)) (code : Value) (bi : Addr) (fp : List Addr) (pn : List (Addr × Obj)), PI (gblk X s H (genEnv scope cl C code bi X.env) fp pn) tg2 iter2 wi2)
    (hg2 : ∀ (s : Shared) (H : Hp) (C : Addr) (cl : List (Str × Addr)) (code : Value) (bi : Addr) (fp : List Addr) (pn : List (Addr × Obj)), PG (gblk X s H (genEnv scope cl C code bi X.env) fp pn) tg2 g2)
    (ht2 : ∀ (s : Shared) (H : Hp) (C : Addr) (cl : List (Str × Addr)) (code : Value) (bi : Addr) (fp : List Addr) (pn : List (Addr × Obj)), PTs (gblk X s H (genEnv scope cl C code bi X.env) fp pn) ifs2 tt2)
    (hg : ∀ (s : Shared) (H : Hp) (C : Addr) (cl : List (Str × Addr)) (code : Value) (bi : Addr) (fp : List Addr) (pn : List (Addr × Obj)), PG (gblk X s H (genEnv scope cl C code bi X.env) fp pn) tg g)
    (ht : ∀ (s : Shared) (H : Hp) (C : Addr) (cl : List (Str × Addr)) (code : Value) (bi : Addr) (fp : List Addr) (pn : List (Addr × Obj)), PTs (gblk X s H (genEnv scope cl C code bi X.env) fp pn) ifs tt)
    (he : ∀ (s : Shared) (H : Hp) (C : Addr) (cl : List (Str × Addr)) (code : Value) (bi : Addr) (fp : List Addr) (pn : List (Addr × Obj)), PE (gblk X s H (genEnv scope cl C code bi X.env) fp pn) elt te)
    (hs : ∀ v, genFold iter X.env v = pure v := by intro _; rfl)
    (hs2 : ∀ (C : Addr) (cl : List (Str × Addr)) (code : Value) (bi : Addr) v, foldedSetIterable iter2 (genEnv scope cl C code bi X.env) v = pure v := by intros; rfl)
    (hst : starEach [.GeneratorExp elt [⟨tg, iter, ifs, 0⟩, ⟨tg2, iter2, ifs2, 0⟩] scope gpos] X.env = (false, eval (.GeneratorExp elt [⟨tg, iter, ifs, 0⟩, ⟨tg2, iter2, ifs2, 0⟩] scope gpos) X.env) :: starEach [] X.env := by rfl) :
    PE X (.Call (.Name "any" p) [.GeneratorExp elt [⟨tg, iter, ifs, 0⟩, ⟨tg2, iter2, ifs2, 0⟩] scope gpos] [] pos) (tAllG2 true P wi g tt wi2 g2 tt2 te (own.map (·.2)) vs2) := by
  refine ⟨fun pins s σ H Q I h => ?_⟩
  refine wpAny_Call_Name_kw (ld_blt I hgl hm (show bootBuiltins "any" = some (.builtin "any") by decide +kernel) ?_)
  refine PyProof.Rows.callWith_builtin1 ?_ hst (by rfl)
  rw [hst]
  show wpAny _ _ (spliced ((false, eval (.GeneratorExp elt [⟨tg, iter, ifs, 0⟩, ⟨tg2, iter2, ifs2, 0⟩] scope gpos) X.env) :: backTo pos (starEach [] X.env))) _ _ s
  refine Calls.spliced_cons (gen_made (B := X.A.in1.in1) (R0 := fun J H1 => TabN H1 P ∧ ∀ H2, TabbedN P H1 H2 → AllLoop2 true g tt wi2 g2 tt2 te (own.map Prod.snd) vs2 σ Q J H2) hN hr I.ok.frames I.ok.hd TB.bm hcode ok hi hs I h (base_code TB fun J H2 q => q.1) fun J H2 H3 code G it a fp tn gn s5 qq hT hcA M => ?_)
  obtain ⟨n, hh⟩ := held_made2 hc ok.co hsub hi2 hg2 ht2 hg ht he hs2 M (qq.2 H3 hT)
  have eP : G.prog = X.prog := by obtain ⟨⟨_, _, _, _, _, _, e⟩, _⟩ := M; rw [e]
  have eW : G.w = X.w := by obtain ⟨⟨_, _, _, _, _, _, e⟩, _⟩ := M; rw [e]
  refine Calls.spliced_nil ?_
  refine call_function_tree F.kind_any F.plain_any F.entry_any (F.args_any1 _) ?_
  unfold Builtin.«any»
  refine wpAny_bind (m := oneArg "any" _) (wpAny_pure ?_)
  refine wpAny_bind (wpAny_pyIter_gen hh.1 ?_)
  rw [← eP, ← eW]
  exact wpAny_pure ⟨plainId_quiet F.plain_any_loop _, any_loop (A := X.A) hr.hd (by have := hr.dp; omega) (fun s1 H1 I1 => M.isg _ _ s1 H1 I1) (fun c s1 H1 I1 q => ⟨.bl c, H1, M.back _ _ s1 H1 I1, rfl, q⟩) n s5 hh⟩
end
end GX
set_option maxHeartbeats 4000000
/-! What the proofs of all laws of this program share: the context, heaps that grow, a def and its promise. -/
namespace Pm
open PySem PySem.Spec PyProof.Rows L2 GxR GX

/-- the context of a law: the program, the world, the written part, the module's names, the heap at the entry, the tables of code objects -/
structure Ct where
  P : Program
  w : World
  K : PySem.W.Frag
  mg : Str → Option Value
  base : Heap
  ts : List Addr

/-! ### heaps that grow -/
/-- what was tracked stands; tables may have grown, by good code objects -/
def Gr (H H' : Hp) : Prop := ∀ b o, H b = some o → H' b = some o ∨ ∃ ps ps', o = .tbl ps ∧ H' b = some (.tbl ps') ∧ (TriplesOk ps.toList → TriplesOk ps'.toList) ∧ ∀ (pos : Pos) (cv : Value), codeAmong pos ps'.toList = some cv → codeAmong pos ps.toList = some cv ∨ GoodC H' cv
theorem goodC_gr {H H' : Hp} {cv : Value} (g : Gr H H') (h : GoodC H cv) : GoodC H' cv := by
  obtain ⟨c, P, qs, rfl, h1, h2, h3⟩ := h
  have h1' : H' c = some (GenC c P) := by
    rcases g c _ h1 with q | ⟨ps, _, z, _⟩
    · exact q
    · exact absurd z (genC_ne ps)
  rcases g P _ h2 with q | ⟨ps, ps', z, q, t, _⟩
  · exact ⟨c, P, qs, rfl, h1', q, h3⟩
  · cases z
    exact ⟨c, P, ps', rfl, h1', q, t h3⟩
theorem Gr.refl (H : Hp) : Gr H H := fun _ _ e => .inl e
theorem Gr.trans {H H1 H2 : Hp} (a : Gr H H1) (b : Gr H1 H2) : Gr H H2 := fun c o e => by
  rcases a c o e with q | ⟨ps, ps', rfl, q, t, u⟩
  · exact b c o q
  · rcases b c _ q with q2 | ⟨qs, qs', e2, q2, t2, u2⟩
    · exact .inr ⟨ps, ps', rfl, q2, t, fun pos cv z => (u pos cv z).imp id (goodC_gr b)⟩
    · cases e2
      refine .inr ⟨ps, qs', rfl, q2, fun z => t2 (t z), fun pos cv z => ?_⟩
      rcases u2 pos cv z with z | z
      · exact (u pos cv z).imp id (goodC_gr b)
      · exact .inr z
theorem Gr.new {H : Hp} {p : Addr} {o : HO} (h : H p = none) : Gr H (upd H p o) := fun b x e => .inl (by rw [upd_ne (ne_of_none e h)]; exact e)
/-- no code object and no table stands there -/
def NoC (H : Hp) (b : Addr) : Prop := ∀ o, H b = some o → (∀ c P, o ≠ GenC c P) ∧ ∀ ps, o ≠ .tbl ps
theorem NoC.free {H : Hp} {b : Addr} (h : H b = none) : NoC H b := fun o e => by rw [h] at e; cases e
theorem NoC.lst {H : Hp} {b : Addr} {xs : List V} (h : H b = some (.lst xs)) : NoC H b := fun o e => by
  rw [h] at e; cases e
  exact ⟨fun c P z => (by unfold GenC at z; cases z), fun ps z => nomatch z⟩
theorem NoC.tup {H : Hp} {b : Addr} {xs : List V} (h : H b = some (.tup xs)) : NoC H b := fun o e => by
  rw [h] at e; cases e
  exact ⟨fun c P z => (by unfold GenC at z; cases z), fun ps z => nomatch z⟩
theorem NoC.dK {H : Hp} {b : Addr} {xs : List (Key × V)} (h : H b = some (.dK xs)) : NoC H b := fun o e => by
  rw [h] at e; cases e
  exact ⟨fun c P z => (by unfold GenC at z; cases z), fun ps z => nomatch z⟩
theorem NoC.ins {H : Hp} {b C dx : Addr} {xs : List (Str × V)} (h : H b = some (.ins C dx xs)) : NoC H b := fun o e => by
  rw [h] at e; cases e
  exact ⟨fun c P z => (by unfold GenC at z; cases z), fun ps z => nomatch z⟩
theorem NoC.frz {H : Hp} {b : Addr} {o : Obj} {u : HO} (h : H b = some (.frz o u)) : NoC H b := fun o e => by
  rw [h] at e; cases e
  exact ⟨fun c P z => (by unfold GenC at z; cases z), fun ps z => nomatch z⟩
theorem goodC_put {H : Hp} {D : Addr} {o : HO} {cv : Value} (n : NoC H D) (h : GoodC H cv) : GoodC (upd H D o) cv := by
  obtain ⟨c, P, qs, rfl, h1, h2, h3⟩ := h
  have n1 : c ≠ D := fun z => by rw [z] at h1; exact (n _ h1).1 _ _ rfl
  have n2 : P ≠ D := fun z => by rw [z] at h2; exact (n _ h2).2 _ rfl
  exact ⟨c, P, qs, rfl, by rw [upd_ne n1]; exact h1, by rw [upd_ne n2]; exact h2, h3⟩
theorem Gr.keep {H H' : Hp} {b : Addr} {o : HO} (g : Gr H H') (e : H b = some o) (n : ∀ ps, o ≠ .tbl ps) : H' b = some o := by
  rcases g b o e with q | ⟨ps, _, z, _⟩
  · exact q
  · exact absurd z (n ps)
theorem Gr.tup {H H' : Hp} {b : Addr} {xs : List V} (g : Gr H H') (e : H b = some (.tup xs)) : H' b = some (.tup xs) := g.keep e fun _ z => nomatch z
theorem Gr.lst {H H' : Hp} {b : Addr} {xs : List V} (g : Gr H H') (e : H b = some (.lst xs)) : H' b = some (.lst xs) := g.keep e fun _ z => nomatch z
theorem Gr.free {H H' : Hp} {b : Addr} (g : Gr H H') (e : H' b = none) : H b = none := by
  cases q : H b with
  | none => rfl
  | some o =>
    rcases g b o q with z | ⟨_, _, _, z, _⟩ <;> (rw [z] at e; cases e)
theorem Gr.sqT {K : PySem.W.Frag} {H H' : Hp} {a : Addr} {xs : List V} (g : Gr H H') (h : SqT K H a xs) : SqT K H' a xs := by
  rcases h with (h | ⟨o, h⟩) | h
  · exact .inl (.inl (g.tup h))
  · exact .inl (.inr ⟨o, g.keep h fun _ z => nomatch z⟩)
  · exact .inr h
theorem Gr.sqL {K : PySem.W.Frag} {H H' : Hp} {a : Addr} {xs : List V} (g : Gr H H') (h : SqL K H a xs) : SqL K H' a xs := by
  rcases h with (h | ⟨o, h⟩) | h
  · exact .inl (.inl (g.lst h))
  · exact .inl (.inr ⟨o, g.keep h fun _ z => nomatch z⟩)
  · exact .inr h
/-- the table at P has grown, nothing else has changed -/
theorem Gr.tabbed {H H' : Hp} {P : Addr} (t : TabN H P) (h : TabbedN P H H') : Gr H H' := fun b o e => by
  by_cases hb : b = P
  · obtain ⟨⟨ps, ps', hp, hp', ht', u⟩, _⟩ := h
    rw [hb, hp] at e
    cases e
    exact .inr ⟨ps, ps', rfl, by rw [hb]; exact hp', fun _ => ht', u⟩
  · exact .inl (h.2 b o hb e)
theorem Gr.tabbedG {H H' : Hp} {P : Addr} (h : TabbedN P H H') : Gr H H' := fun b o e => by
  by_cases hb : b = P
  · obtain ⟨⟨ps, ps', hp, hp', ht', u⟩, _⟩ := h
    rw [hb, hp] at e
    cases e
    exact .inr ⟨ps, ps', rfl, by rw [hb]; exact hp', fun _ => ht', u⟩
  · exact .inl (h.2 b o hb e)
/-- the tables are well -/
def Tabs (ts : List Addr) (H : Hp) : Prop := ∀ P ∈ ts, TabN H P
theorem Tabs.gr {ts : List Addr} {H H' : Hp} (t : Tabs ts H) (g : Gr H H') : Tabs ts H' := fun P hP => by
  obtain ⟨ps, hp, ht, hg⟩ := t P hP
  rcases g P _ hp with q | ⟨qs, qs', e, q, z, u⟩
  · exact ⟨ps, q, ht, fun pos cv e => goodC_gr g (hg pos cv e)⟩
  · cases e
    refine ⟨qs', q, z ht, fun pos cv e => ?_⟩
    rcases u pos cv e with e | e
    · exact goodC_gr g (hg pos cv e)
    · exact e
mutual
theorem dp_gr {K : PySem.W.Frag} {H H' : Hp} (g : Gr H H') : ∀ {d : PyData} {v : V}, Dp K H v d → Dp K H' v d
  | .none, _, h => by cases h; exact .non
  | .bool b, _, h => by cases h; exact .bl b
  | .int i, _, h => by cases h; exact .int i
  | .str x, _, h => by cases h; exact .str x
  | .list ds, _, h => by
    cases h with
    | lst s a => exact .lst (g.sqL s) (dpAll_gr g a)
  | .tuple ds, _, h => by
    cases h with
    | tup s a => exact .tup (g.sqT s) (dpAll_gr g a)
  | .dict _, _, h => by cases h
theorem dpAll_gr {K : PySem.W.Frag} {H H' : Hp} (g : Gr H H') : ∀ {ds : List PyData} {vs : List V}, DpAll K H vs ds → DpAll K H' vs ds
  | [], _, h => by cases h; exact .nil
  | d :: ds, _, h => by
    cases h with
    | cons a b => exact .cons (dp_gr g a) (dpAll_gr g b)
end

/-! ### a def, its promise -/
/-- the def st stands under the module's name x; cd: its code object -/
def DefAt (c : Ct) (x : Str) (st : Stmt) (kws : List (Str × V)) (f : Addr) (fd : FuncData) (cd : Addr) : Prop :=
  (∃ (oc : Value) (od : Option Addr) (dV kV doc pm : Value) (an : Option Addr) (ct : Value) (osl : Array (Option Value)),
    fd = PySem.W.fnOf x x (defArgs st) (defBody st) (defScope st) dV kV doc pm an (.ref cd) ct ∧ c.K.lookup f = some ⟨oc, od, .func fd, osl⟩ ∧ PySem.W.codeIn c.K (.ref cd) x = true ∧ DflV c.K dV [] ∧ KwdV c.K kV kws) ∧
  PySem.W.keepIn c.K (.ref f) = true ∧ c.mg x = some (.ref f)
/-- .. without defaults -/
def Df (c : Ct) (x : Str) (st : Stmt) : Prop := ∃ f fd cd, DefAt c x st [] f fd cd
/-- .. with its code object's table -/
def Tf (c : Ct) (x : Str) (st : Stmt) : Prop := ∃ f fd cd tb, DefAt c x st [] f fd cd ∧ TabB c.base c.mg cd tb ∧ tb ∈ c.ts
theorem Tf.df {c : Ct} {x : Str} {st : Stmt} (h : Tf c x st) : Df c x st := let ⟨f, fd, cd, _, h, _⟩ := h; ⟨f, fd, cd, h⟩

/-- what the module's name x promises, at the level k -/
def Ok (c : Ct) (x : Str) (k : Nat) (ps : List Str) (sp : Sp) : Prop := ∃ f fd, FnOk c.P c.w c.K c.mg c.base CX0 k f fd ps sp ∧ c.mg x = some (.ref f) ∧ PySem.W.keepIn c.K (.ref f) = true ∧ Binds c.K fd ps []

theorem df_ok {c : Ct} {x : Str} {st : Stmt} {N ps : List Str} {k : Nat} {sp : Sp} (D : Df c x st) (S : FnScope N ps (defScope st)) (len : ∀ vs H Q E, sp vs H Q E → vs.length = ps.length)
    (hb : ∀ (kV doc pm : Value) (an : Option Addr) (cdv ct : Value) (us : List Value), us.length = ps.length → bindArgs (PySem.W.fnOf x x (defArgs st) (defBody st) (defScope st) .none kV doc pm an cdv ct) ⟨us, []⟩ = pure (ps.zip us))
    (hbody : ∀ (f cd : Addr) (A : Around) (outer : List Env) (s : Shared) (H : Hp) (vs : List V) (Q : VK) (E : XK), Room k (A.deeper (envOfC x (defScope st) s.heap.objs.size f (.ref cd))) → sp vs H Q E →
      ∃ t, PSs (cxOf CX0 c.P c.w c.K c.mg c.base N x (defScope st) f (.ref cd) A outer s H E).nox (defBody st) t ∧ t { nx := fun _ H' => Q .non H', rt := Q } (start N vs) H) : Ok c x (k + 1) ps sp := by
  obtain ⟨f, fd, cd, ⟨oc, od, dV, kV, doc, pm, an, ct, osl, rfl, lk, hcd, hD, _⟩, kp, hm⟩ := D
  have e : dV = .none := by
    rcases hD with ⟨_, e⟩ | ⟨e, _⟩
    · exact e
    · exact absurd rfl e
  subst e
  refine ⟨f, _, fn_of lk hcd S len fun A outer s H vs Q E hr hsp => ?_, hm, kp, .all (hb kV doc pm an (.ref cd) ct)⟩
  obtain ⟨t, h, q⟩ := hbody f cd A outer s H vs Q E hr hsp
  exact ⟨t, h.nox, q⟩
theorem tf_ok {c : Ct} {x : Str} {st : Stmt} {N ps : List Str} {k : Nat} {sp : Sp} (D : Tf c x st) (S : FnScope N ps (defScope st)) (len : ∀ vs H Q E, sp vs H Q E → vs.length = ps.length)
    (hb : ∀ (kV doc pm : Value) (an : Option Addr) (cdv ct : Value) (us : List Value), us.length = ps.length → bindArgs (PySem.W.fnOf x x (defArgs st) (defBody st) (defScope st) .none kV doc pm an cdv ct) ⟨us, []⟩ = pure (ps.zip us))
    (hbody : ∀ (f cd tb : Addr) (A : Around) (outer : List Env) (s : Shared) (H : Hp) (vs : List V) (Q : VK) (E : XK), TabB c.base c.mg cd tb → tb ∈ c.ts → Room k (A.deeper (envOfC x (defScope st) s.heap.objs.size f (.ref cd))) → sp vs H Q E →
      ∃ t, PSs (cxOf CX0 c.P c.w c.K c.mg c.base N x (defScope st) f (.ref cd) A outer s H E).nox (defBody st) t ∧ t { nx := fun _ H' => Q .non H', rt := Q } (start N vs) H) : Ok c x (k + 1) ps sp := by
  obtain ⟨f, fd, cd, tb, ⟨⟨oc, od, dV, kV, doc, pm, an, ct, osl, rfl, lk, hcd, hD, _⟩, kp, hm⟩, TB, hm2⟩ := D
  have e : dV = .none := by
    rcases hD with ⟨_, e⟩ | ⟨e, _⟩
    · exact e
    · exact absurd rfl e
  subst e
  refine ⟨f, _, fn_of lk hcd S len fun A outer s H vs Q E hr hsp => ?_, hm, kp, .all (hb kV doc pm an (.ref cd) ct)⟩
  obtain ⟨t, h, q⟩ := hbody f cd tb A outer s H vs Q E TB hm2 hr hsp
  exact ⟨t, h.nox, q⟩
theorem Ok.mono {c : Ct} {x : Str} {j k : Nat} {ps : List Str} {sp : Sp} (h : Ok c x j ps sp) (hjk : j ≤ k) : Ok c x k ps sp := let ⟨f, fd, F, r⟩ := h; ⟨f, fd, F.mono hjk, r⟩
theorem Ok.imp {c : Ct} {x : Str} {k : Nat} {ps : List Str} {sp sp' : Sp} (h : Ok c x k ps sp) (hi : ∀ vs H Q E, sp' vs H Q E → sp vs H Q E) : Ok c x k ps sp' := let ⟨f, fd, F, r⟩ := h; ⟨f, fd, F.imp hi, r⟩

section
variable {X : Cx} {x : Str} {k : Nat} {ps : List Str} {sp : Sp} {p pos : Pos} {e : Expr} {es : List Expr} {t : TA}
/-- x(e, ..) -/
theorem pe_f (c : Ct) (O : Ok c x k ps sp) (hr : Room k X.A) (ha : PA X (e :: es) t) (h1 : X.prog = c.P := by rfl) (h2 : X.w = c.w := by rfl) (h3 : X.K = c.K := by rfl) (h4 : X.mg = c.mg := by rfl) (h5 : X.base = c.base := by rfl)
    (hg : Gl X x := by rfl) (hdb : (x == ("__debug__" : Str)) = false := by decide) (he : starEach (e :: es) X.env = (false, eval e X.env) :: starEach es X.env := by rfl) (hpl : (backTo pos (starEach es X.env)).any (·.1) = false := by rfl) :
    PE X (.Call (.Name x p) (e :: es) [] pos) (tCall sp [] E0 t) := by
  obtain ⟨f, fd, F, hm, kp, hb⟩ := O
  refine pe_call (CX := CX0) (f := f) (fd := fd) (ps := ps) (ds := []) ?_ hr hg ?_ ?_ ?_ .nil pass0 ha hdb he hpl
  · rw [h1, h2, h3, h4, h5]; exact F
  · rw [h4]; exact hm
  · rw [h3]; exact kp
  · rw [h3]; exact hb
end
/-- the frame of a generator expression, by looking -/
theorem gok_by {N : List Str} {sc scope : Scope} {own : List (Str × Nat)} (h : blkC N sc scope own = true) (h1 : scope.isCoroutine = false := by rfl) (h3 : scope.names.lookup (".0" : Str) = some NameKind.local := by rfl) : GOk N sc scope own :=
  ⟨blkOk_by h, h1, h3⟩
end Pm
set_option maxHeartbeats 4000000
/-! the text of the row by places -/
namespace Pm
open PySem PySem.Spec PyProof.Rows L2 GxR GX
def topS (i : Nat) : Stmt := PySem.Challenge.pw_passmill_k01_whole_runs.main.body.getD i (.Pass ⟨0, 0, 0, 0⟩)
abbrev s_is_whole : Stmt := topS 9
abbrev s_is_value : Stmt := topS 10
abbrev s_is_word : Stmt := topS 11
abbrev s_is_name : Stmt := topS 12
abbrev s_is_program : Stmt := topS 19
abbrev s_is_block : Stmt := topS 20
abbrev s_has_form : Stmt := topS 21
abbrev s_is_part : Stmt := topS 22
abbrev s_parts_of : Stmt := topS 23
abbrev s_rows_of : Stmt := topS 24
abbrev s_check_program : Stmt := topS 25
abbrev s_State_init : Stmt := inClass (topS 29) 0
abbrev s_State_value_of : Stmt := inClass (topS 29) 1
abbrev s_State_next_input : Stmt := inClass (topS 29) 2
abbrev s_State_do_step : Stmt := inClass (topS 29) 3
abbrev s_State_value_for : Stmt := inClass (topS 29) 4
abbrev s_State_block_behind : Stmt := inClass (topS 29) 5
abbrev s_sum_of : Stmt := topS 30
abbrev s_check_inputs : Stmt := topS 31
abbrev s_check_turns : Stmt := topS 32
abbrev s_run : Stmt := topS 33
abbrev s_law_pick : Stmt := topS 35
abbrev s_law_step : Stmt := topS 36
abbrev s_law_program : Stmt := topS 37
abbrev s_law_loud : Stmt := topS 38
abbrev s_law_inputs : Stmt := topS 39
abbrev s_law_plain : Stmt := topS 40
abbrev s_law : Stmt := topS 41
end Pm
set_option maxHeartbeats 4000000
/-! The readings of all, any of a generator expression by an invariant. -/
namespace Pm
open PySem PySem.Spec PyProof.Rows L2 GxR GX
section
variable {b0 : Bool} {g : TG} {tt : TT} {te : TE} {vs : List Nat} {σ : L2.St} {H2 : Hp} {Q : VK} {K : PySem.W.Frag}
theorem all_loop_n {J : It} (n : Nat) (Pv : Nat → Hp → Prop) (h0 : Pv 0 H2) (hgo : ∀ i H, i < n → Pv i H → J.go i H) (hst : ∀ H, Pv n H → J.stop n H)
    (hs : ∀ i H x H', i < n → Pv i H → J.yld i H x H' → AllStep b0 g tt te vs σ Q x H' (Pv (i + 1))) (hd : ∀ H, Pv n H → Q (.bl (!b0)) H) : AllLoop b0 g tt te vs σ Q J H2 := by
  refine ⟨fun i m H => m = n - i ∧ i ≤ n ∧ Pv i H, ⟨n, by simp, Nat.zero_le _, h0⟩, ?_⟩
  rintro i m H ⟨rfl, hi, p⟩
  by_cases hlt : i < n
  · exact .inr ⟨hgo i H hlt p, Pv (i + 1), fun H' p' => ⟨n - (i + 1), by omega, rfl, hlt, p'⟩, fun x H' y => hs i H x H' hlt p y⟩
  · have e : i = n := by omega
    subst e
    exact .inl ⟨hst H p, hd H p⟩
theorem all_str {x : Str} (Pv : Nat → Hp → Prop) (h0 : Pv 0 H2) (hs : ∀ i c H, x.cps.toList[i]? = some c → Pv i H → AllStep b0 g tt te vs σ Q (.str ⟨#[c]⟩) H (Pv (i + 1))) (hd : ∀ H, Pv x.cps.toList.length H → Q (.bl (!b0)) H) :
    AllLoop b0 g tt te vs σ Q (Its x) H2 := by
  have el : x.cps.size = x.cps.toList.length := by simp
  refine all_loop_n x.cps.toList.length Pv h0 (fun i H h _ => ?_) (fun H _ => ?_) (fun i H v H' h p y => ?_) hd
  · show i < x.cps.size
    rw [el]; exact h
  · show x.cps.size ≤ x.cps.toList.length
    rw [el]; exact Nat.le_refl _
  · obtain ⟨rfl, c, hc, rfl⟩ := y
    exact hs i c _ (by rw [Array.getElem?_toList]; exact hc) p
theorem all_tup {a : Addr} {xs : List V} (Pv : Nat → Hp → Prop) (h0 : Pv 0 H2) (hl : ∀ i H, Pv i H → SqT K H a xs) (hs : ∀ i x H, xs[i]? = some x → Pv i H → AllStep b0 g tt te vs σ Q x H (Pv (i + 1))) (hd : ∀ H, Pv xs.length H → Q (.bl (!b0)) H) :
    AllLoop b0 g tt te vs σ Q (Itt K a) H2 := by
  refine all_loop_n xs.length Pv h0 (fun i H h p => ⟨xs, xs[i], hl i H p, List.getElem?_eq_getElem h⟩) (fun H p => ⟨xs, hl _ H p, Nat.le_refl _⟩) (fun i H v H' h p y => ?_) hd
  obtain ⟨rfl, hy⟩ := y
  exact hs i v _ (hy xs (hl i _ p)) p
theorem all_lst {a : Addr} {xs : List V} (Pv : Nat → Hp → Prop) (h0 : Pv 0 H2) (hl : ∀ i H, Pv i H → SqL K H a xs) (hs : ∀ i x H, xs[i]? = some x → Pv i H → AllStep b0 g tt te vs σ Q x H (Pv (i + 1))) (hd : ∀ H, Pv xs.length H → Q (.bl (!b0)) H) :
    AllLoop b0 g tt te vs σ Q (Itl K a) H2 := by
  refine all_loop_n xs.length Pv h0 (fun i H h p => ⟨xs, xs[i], hl i H p, List.getElem?_eq_getElem h⟩) (fun H p => ⟨xs, hl _ H p, Nat.le_refl _⟩) (fun i H v H' h p y => ?_) hd
  obtain ⟨rfl, hy⟩ := y
  exact hs i v _ (hy xs (hl i _ p)) p
/-- two tuples side by side; the pair is new at T -/
theorem all_zipT {a b : Addr} {xs ys : List V} (n : Nat) (hn : n = min xs.length ys.length) (Pv : Nat → Hp → Prop) (h0 : Pv 0 H2) (hl : ∀ i H, Pv i H → SqT K H a xs ∧ SqT K H b ys)
    (hs : ∀ i x y T H, xs[i]? = some x → ys[i]? = some y → Pv i H → H T = none → AllStep b0 g tt te vs σ Q (.ref T) (upd H T (.tup [x, y])) (Pv (i + 1))) (hd : ∀ H, Pv n H → Q (.bl (!b0)) H) :
    AllLoop b0 g tt te vs σ Q (RZ.ItzT K a b) H2 := by
  refine all_loop_n n Pv h0 (fun i H h p => ⟨xs, ys, xs[i]'(by omega), ys[i]'(by omega), (hl i H p).1, (hl i H p).2, List.getElem?_eq_getElem (by omega), List.getElem?_eq_getElem (by omega)⟩) (fun H p => ⟨xs, ys, (hl _ H p).1, (hl _ H p).2, by omega⟩) (fun i H v H' h p y => ?_) hd
  obtain ⟨T, x, y, rfl, hT, rfl, h1, h2⟩ := y
  exact hs i x y T H (h1 xs (hl i H p).1) (h2 ys (hl i H p).2) p hT
end
end Pm
set_option maxHeartbeats 4000000
namespace Pm
open PySem PySem.Spec PyProof.Rows L2 GxR GX
/-- the built-ins that the text uses are the built-ins -/
structure Bl (c : Ct) : Prop where
  len : c.mg "len" = none
  all : c.mg "all" = none
  isi : c.mg "isinstance" = none
  bool : c.mg "bool" = none
  int : c.mg "int" = none
  str : c.mg "str" = none
  tuple : c.mg "tuple" = none
  list : c.mg "list" = none
  set : c.mg "set" = none
  zip : c.mg "zip" = none
  range : c.mg "range" = none
/-! ### kinds of data -/
def tyD : PyData → String
  | .none => "NoneType"
  | .bool _ => "bool"
  | .int _ => "int"
  | .str _ => "str"
  | .list _ => "list"
  | .tuple _ => "tuple"
  | .dict _ => "dict"
theorem tyx_sqT {K : PySem.W.Frag} {H : Hp} {a : Addr} {xs : List V} (h : SqT K H a xs) : TyX K H (.ref a) (.type "tuple") := by
  rcases h with (h | ⟨o, h⟩) | ⟨o, its, n, h, hc, _⟩
  · exact .base (.tup h)
  · exact .fTuple h
  · exact .kTuple h hc
theorem tyx_sqL {K : PySem.W.Frag} {H : Hp} {a : Addr} {xs : List V} (h : SqL K H a xs) : TyX K H (.ref a) (.type "list") := by
  rcases h with (h | ⟨o, h⟩) | ⟨o, its, n, h, hc, _⟩
  · exact .base (.lst h)
  · exact .base (.frz h)
  · exact .kList h hc
theorem tyx_dp {K : PySem.W.Frag} {H : Hp} {v : V} {d : PyData} (h : Dp K H v d) : TyX K H v (.type (tyD d)) := by
  cases h with
  | non => exact .base .non
  | bl b => exact .base (.bl b)
  | int i => exact .base (.int i)
  | str x => exact .base (.str x)
  | lst s _ => exact tyx_sqL s
  | tup s _ => exact tyx_sqT s
/-- the answer of isinstance of such data -/
def isS (a b : String) : Bool := a == b || (a == "bool" && b == "int")
abbrev isD (d : PyData) (t : String) : Bool := isS (tyD d) t
theorem kit_all : ∀ a ∈ ["NoneType", "bool", "int", "str", "list", "tuple"], ∀ t ∈ ["bool", "int", "str", "list", "tuple"], kitB a t = some (isS a t) := by decide +kernel
theorem kit_dp {K : PySem.W.Frag} (d : PyData) (hd : ∀ k, d ≠ .dict k) : ∀ t ∈ ["bool", "int", "str", "list", "tuple"], PySem.W.kitOne K (.type (tyD d)) (.type t) = some (isD d t) := by
  intro t ht
  refine kit_ty (kit_all (tyD d) ?_ t ht)
  cases d with
  | dict k => exact absurd rfl (hd k)
  | _ => simp [tyD]
theorem dp_nodict {K : PySem.W.Frag} {H : Hp} {v : V} {d : PyData} (h : Dp K H v d) : ∀ k, d ≠ .dict k := fun k e => by subst e; cases h

theorem iteT' {A B : Prop} (h : A) : if false = false then A else B := by
  rw [if_pos rfl]
  exact h
theorem iteF' {A B : Prop} (h : B) : if true = false then A else B := by
  rw [if_neg (by decide)]
  exact h
/-! ### is_whole, is_value -/
def wholeD (d : PyData) (lo hi : Int) : Bool := match d with
  | .int i => decide (lo ≤ i) && decide (i ≤ hi)
  | _ => false
def spIsWhole (c : Ct) : Sp := fun vs H Q _ => ∃ v d lo hi, vs = [v, .int lo, .int hi] ∧ Dp c.K H v d ∧ Q (.bl (wholeD d lo hi)) H
theorem sc_is_whole : FnScope ["thing", "low", "high"] ["thing", "low", "high"] (defScope s_is_whole) := ⟨rfl, rfl, rfl, by decide +kernel, rfl, by decide +kernel, by decide +kernel⟩
theorem ok_is_whole {c : Ct} (D : Df c "is_whole" s_is_whole) (B : Bl c) : Ok c "is_whole" 1 ["thing", "low", "high"] (spIsWhole c) := by
  refine df_ok D sc_is_whole (fun vs H Q E h => ?_) (fun _ _ _ _ _ _ us hl => match us, hl with | [_, _, _], _ => rfl) fun f cd A outer s H vs Q E hr h => ?_
  · obtain ⟨v, d, lo, hi, rfl, _⟩ := h
    rfl
  · obtain ⟨v, d, lo, hi, rfl, hv, q⟩ := h
    refine ⟨_, pss_cons (ps_if (PW.pt (pw_or (pt_val (pe_callB call_isi (by rfl) B.isi (by decide +kernel) (pa_cons (pv 0) (pa_cons (pe_bltn (v := .ty "bool") (by rfl) B.bool (by decide +kernel) rfl) pa_nil))))
        (pw_or1 (pt_not (pt_val (pe_callB call_isi (by rfl) B.isi (by decide +kernel) (pa_cons (pv 0) (pa_cons (pe_bltn (v := .ty "int") (by rfl) B.int (by decide +kernel) rfl) pa_nil))))))))
        (pss_one (ps_ret pe_bl)) pss_nil)
      (pss_one (ps_ret (pe_chain op_le op_le (pv 1) (pv 0) (pv 2)))), ?_⟩
    have kb := kit_dp (K := c.K) d (dp_nodict hv) "bool" (by simp)
    have ki := kit_dp (K := c.K) d (dp_nodict hv) "int" (by simp)
    refine ⟨v, rfl, v, .ty "bool", .type (tyD d), .type "bool", _, rfl, .ty _, tyx_dp hv, kb, _, rfl, ?_⟩
    cases hv with
    | bl b => exact q
    | non => exact ⟨.non, rfl, .non, .ty "int", .type "NoneType", .type "int", _, rfl, .ty _, tyx_dp .non, ki, _, rfl, q⟩
    | str x => exact ⟨.str x, rfl, .str x, .ty "int", .type "str", .type "int", _, rfl, .ty _, tyx_dp (.str x), ki, _, rfl, q⟩
    | lst s1 s2 => exact ⟨_, rfl, _, .ty "int", .type "list", .type "int", _, rfl, .ty _, tyx_sqL s1, ki, _, rfl, q⟩
    | tup s1 s2 => exact ⟨_, rfl, _, .ty "int", .type "tuple", .type "int", _, rfl, .ty _, tyx_sqT s1, ki, _, rfl, q⟩
    | int i =>
      refine ⟨.int i, rfl, .int i, .ty "int", .type "int", .type "int", _, rfl, .ty _, tyx_dp (.int i), ki, _, rfl, ?_⟩
      refine ⟨.int lo, rfl, .int i, rfl, lo, i, rfl, rfl, _, rfl, ite2 (fun e => ?_) fun e => ?_⟩
      · have e1 : wholeD (.int i) lo hi = decide (i ≤ hi) := by
          show (decide (lo ≤ i) && decide (i ≤ hi)) = _
          rw [e, Bool.true_and]
        rw [e1] at q
        exact ⟨.int hi, rfl, i, hi, rfl, rfl, q⟩
      · have e1 : wholeD (.int i) lo hi = false := by
          show (decide (lo ≤ i) && decide (i ≤ hi)) = _
          rw [Bool.eq_false_iff.mpr e, Bool.false_and]
        rw [e1] at q
        exact q

def valueD (d : PyData) : Bool := wholeD d 0 9972
def spIsValue (c : Ct) : Sp := fun vs H Q _ => ∃ v d, vs = [v] ∧ Dp c.K H v d ∧ Q (.bl (valueD d)) H
theorem sc_is_value : FnScope ["thing"] ["thing"] (defScope s_is_value) := ⟨rfl, rfl, rfl, by decide +kernel, rfl, by decide +kernel, by decide +kernel⟩
theorem ok_is_value {c : Ct} (D : Df c "is_value" s_is_value) (O : Ok c "is_whole" 1 ["thing", "low", "high"] (spIsWhole c)) (hM : ∃ t, c.mg "MODULUS" = some (.int 9973 t)) : Ok c "is_value" 2 ["thing"] (spIsValue c) := by
  obtain ⟨tM, hM⟩ := hM
  refine df_ok D sc_is_value (fun vs H Q E h => ?_) (fun _ _ _ _ _ _ us hl => match us, hl with | [_], _ => rfl) fun f cd A outer s H vs Q E hr h => ?_
  · obtain ⟨v, d, rfl, _⟩ := h
    rfl
  · obtain ⟨v, d, rfl, hv, q⟩ := h
    refine ⟨_, pss_one (ps_ret (pe_f c O hr (pa_cons (pv 0) (pa_cons pe_int (pa_cons (pe_op op_sub (pe_glob (v := .int 9973) (by rfl) hM ⟨_, rfl⟩) pe_int) pa_nil))))), ?_⟩
    exact ⟨v, rfl, 9973, 1, rfl, rfl, v, d, 0, 9972, rfl, hv, q⟩

/-! ### is_word, is_name -/
def lowB (c : Nat) : Bool := decide (97 ≤ c) && decide (c ≤ 122)
def wordD (d : PyData) (m : Int) : Bool := match d with
  | .str x => (decide (1 ≤ (x.length : Int)) && decide ((x.length : Int) ≤ m)) && x.cps.toList.all lowB
  | _ => false
/-- a text is not too long for the model -/
def FitD (d : PyData) : Prop := ∀ x, d = .str x → x.length ≤ sizeLine
def letters : Str := "abcdefghijklmnopqrstuvwxyz"
theorem letters_mem (c : Nat) : decide (c ∈ letters.cps.toList) = lowB c := by
  have e : letters.cps.toList = [97, 98, 99, 100, 101, 102, 103, 104, 105, 106, 107, 108, 109, 110, 111, 112, 113, 114, 115, 116, 117, 118, 119, 120, 121, 122] := by decide +kernel
  rw [e]
  unfold lowB
  rw [Bool.eq_iff_iff]
  simp only [List.mem_cons, List.not_mem_nil, or_false, decide_eq_true_eq, Bool.and_eq_true]
  omega
def spIsWord (c : Ct) : Sp := fun vs H Q _ => ∃ v d m, vs = [v, .int m] ∧ Dp c.K H v d ∧ FitD d ∧ Tabs c.ts H ∧ ∀ H', Gr H H' → Q (.bl (wordD d m)) H'
theorem sc_is_word : FnScope ["thing", "longest", "letter"] ["thing", "longest"] (defScope s_is_word) := ⟨rfl, rfl, rfl, by decide +kernel, rfl, by decide +kernel, by decide +kernel⟩
theorem ok_is_word {c : Ct} (D : Tf c "is_word" s_is_word) (B : Bl c) (hL : ∃ t, c.mg "LETTERS" = some (.str letters t)) : Ok c "is_word" 1 ["thing", "longest"] (spIsWord c) := by
  obtain ⟨tL, hL⟩ := hL
  refine tf_ok D sc_is_word (fun vs H Q E h => ?_) (fun _ _ _ _ _ _ us hl => match us, hl with | [_, _], _ => rfl) fun f cd tb A outer s H vs Q E TB hmt hr h => ?_
  · obtain ⟨v, d, m, rfl, _⟩ := h
    rfl
  · obtain ⟨v, d, m, rfl, hv, hfit, hT, q⟩ := h
    refine ⟨_, pss_cons (ps_if (PW.pt (pw_or (pt_not (pt_val (pe_callB call_isi (by rfl) B.isi (by decide +kernel) (pa_cons (pv 0) (pa_cons (pe_bltn (v := .ty "str") (by rfl) B.str (by decide +kernel) rfl) pa_nil)))))
        (pw_or1 (pt_not (pt_chain op_le op_le pe_int (pe_callB call_len_str (by rfl) B.len PySem.boot_len (pa_cons (pv 0) pa_nil)) (pv 1))))))
        (pss_one (ps_ret pe_bl)) pss_nil)
      (pss_one (ps_ret (pe_allG (own := [("letter", 2)]) (g := gName 2) (tt := tYes) rfl sc_is_word.nd hr (by rfl) B.all TB rfl (gok_by (N := ["thing", "longest", "letter"]) (sc := defScope s_is_word) (by decide +kernel)) (pi_str (pv 0))
        (fun _ _ _ _ _ _ _ _ => pg_name (i := 2) sc_is_word.nd rfl (.inl rfl)) (fun _ _ _ _ _ _ _ _ => pts_nil)
        (fun _ _ _ _ _ _ _ _ => pe_cmpR op_in_sign (pv 2) (pe_glob (v := .str letters) (by rfl) hL ⟨_, rfl⟩) (by rfl))))), ?_⟩
    have ks := kit_dp (K := c.K) d (dp_nodict hv) "str" (by simp)
    refine ⟨v, rfl, v, .ty "str", .type (tyD d), .type "str", _, rfl, .ty _, tyx_dp hv, ks, _, rfl, ?_⟩
    cases hv with
    | bl b => exact q H (.refl H)
    | non => exact q H (.refl H)
    | int i => exact q H (.refl H)
    | lst s1 s2 => exact q H (.refl H)
    | tup s1 s2 => exact q H (.refl H)
    | str x =>
      refine ⟨.str x, rfl, x, rfl, hfit x rfl, 1, (x.length : Int), rfl, rfl, _, rfl, ?_⟩
      refine ite2 (fun e1 => ?_) (fun e1 => ?_)
      · refine ⟨.int m, rfl, (x.length : Int), m, rfl, rfl, _, rfl, ?_⟩
        by_cases e2 : decide ((x.length : Int) ≤ m) = true
        · rw [e2]
          refine iteF ?_
          have eq0 : wordD (.str x) m = x.cps.toList.all lowB := by
            show ((decide (1 ≤ (x.length : Int)) && decide ((x.length : Int) ≤ m)) && x.cps.toList.all lowB) = _
            rw [e1, e2, Bool.and_self, Bool.true_and]
          rw [eq0] at q
          refine ⟨.str x, rfl, x, rfl, hT tb hmt, fun H2 hTab => ?_⟩
          have g0 : Gr H H2 := .tabbed (hT tb hmt) hTab
          refine all_str (fun i H' => Gr H H' ∧ (x.cps.toList.take i).all lowB = true) ⟨g0, rfl⟩ (fun i ch H' hch ⟨hg, ha⟩ => ?_) fun H' ⟨hg, ha⟩ => ?_
          · refine ⟨rfl, ⟨_, rfl, ch, letters, rfl, rfl, _, rfl, ?_⟩⟩
            rw [letters_mem]
            cases hb : lowB ch with
            | false =>
              refine iteT' ?_
              have e9 : x.cps.toList.all lowB = false := by
                rw [List.all_eq_false]
                exact ⟨ch, List.mem_of_getElem? hch, by rw [hb]; decide⟩
              rw [e9] at q
              exact q H' hg
            | true =>
              refine iteF' ⟨hg, ?_⟩
              rw [List.take_add_one, hch, List.all_append, ha]
              simp [hb]
          · rw [List.take_length] at ha
            rw [ha] at q
            exact q H' hg
        · have e3 : decide ((x.length : Int) ≤ m) = false := Bool.eq_false_iff.mpr e2
          rw [e3]
          refine iteT ?_
          have eq0 : wordD (.str x) m = false := by
            show ((decide (1 ≤ (x.length : Int)) && decide ((x.length : Int) ≤ m)) && x.cps.toList.all lowB) = _
            rw [e3, Bool.and_false, Bool.false_and]
          rw [eq0] at q
          exact q H (.refl H)
      · have e3 : decide (1 ≤ (x.length : Int)) = false := Bool.eq_false_iff.mpr e1
        refine ⟨_, rfl, iteT ?_⟩
        have eq0 : wordD (.str x) m = false := by
          show ((decide (1 ≤ (x.length : Int)) && decide ((x.length : Int) ≤ m)) && x.cps.toList.all lowB) = _
          rw [e3, Bool.false_and, Bool.false_and]
        rw [eq0] at q
        exact q H (.refl H)

def nameD (d : PyData) : Bool := wordD d 3
def spIsName (c : Ct) : Sp := fun vs H Q _ => ∃ v d, vs = [v] ∧ Dp c.K H v d ∧ FitD d ∧ Tabs c.ts H ∧ ∀ H', Gr H H' → Q (.bl (nameD d)) H'
theorem sc_is_name : FnScope ["thing"] ["thing"] (defScope s_is_name) := ⟨rfl, rfl, rfl, by decide +kernel, rfl, by decide +kernel, by decide +kernel⟩
theorem ok_is_name {c : Ct} (D : Df c "is_name" s_is_name) (O : Ok c "is_word" 1 ["thing", "longest"] (spIsWord c)) (hM : ∃ t, c.mg "LONGEST_NAME" = some (.int 3 t)) : Ok c "is_name" 2 ["thing"] (spIsName c) := by
  obtain ⟨tM, hM⟩ := hM
  refine df_ok D sc_is_name (fun vs H Q E h => ?_) (fun _ _ _ _ _ _ us hl => match us, hl with | [_], _ => rfl) fun f cd A outer s H vs Q E hr h => ?_
  · obtain ⟨v, d, rfl, _⟩ := h
    rfl
  · obtain ⟨v, d, rfl, hv, hf, hT, q⟩ := h
    refine ⟨_, pss_one (ps_ret (pe_f c O hr (pa_cons (pv 0) (pa_cons (pe_glob (v := .int 3) (by rfl) hM ⟨_, rfl⟩) pa_nil)))), ?_⟩
    exact ⟨v, rfl, v, d, 3, rfl, hv, hf, hT, q⟩
end Pm
set_option maxHeartbeats 4000000
namespace Pm
open PySem PySem.Spec PyProof.Rows L2 GxR GX
/-! ### is_part -/
def kindD (d : PyData) (z : Str) : Bool := if z = "value" then valueD d else nameD d
def spKind (c : Ct) (kd : PyData → Str → Bool) : Sp := fun vs H Q _ => ∃ v d z, vs = [v, .str z] ∧ Dp c.K H v d ∧ FitD d ∧ Tabs c.ts H ∧ ∀ H', Gr H H' → Q (.bl (kd d z)) H'
abbrev spIsPart (c : Ct) : Sp := spKind c kindD
theorem sc_is_part : FnScope ["part", "kind"] ["part", "kind"] (defScope s_is_part) := ⟨rfl, rfl, rfl, by decide +kernel, rfl, by decide +kernel, by decide +kernel⟩
theorem ok_is_part {c : Ct} (D : Df c "is_part" s_is_part) (O1 : Ok c "is_value" 2 ["thing"] (spIsValue c)) (O2 : Ok c "is_name" 2 ["thing"] (spIsName c)) : Ok c "is_part" 3 ["part", "kind"] (spIsPart c) := by
  refine df_ok D sc_is_part (fun vs H Q E h => ?_) (fun _ _ _ _ _ _ us hl => match us, hl with | [_, _], _ => rfl) fun f cd A outer s H vs Q E hr h => ?_
  · obtain ⟨v, d, z, rfl, _⟩ := h
    rfl
  · obtain ⟨v, d, z, rfl, hv, hf, hT, q⟩ := h
    refine ⟨_, pss_cons (ps_if (pt_cmpR op_eq (pv 1) pe_str (nomark _)) (pss_one (ps_ret (pe_f c O1 hr (pa_cons (pv 0) pa_nil)))) pss_nil)
      (pss_one (ps_ret (pe_f c O2 hr (pa_cons (pv 0) pa_nil)))), ?_⟩
    refine ⟨.str z, rfl, rfl, _, rfl, ite2 (fun e => ?_) fun e => ?_⟩
    · have ez : z = "value" := V.str.inj (of_decide_eq_true e)
      have e0 : kindD d z = valueD d := if_pos ez
      rw [e0] at q
      exact ⟨v, rfl, v, d, rfl, hv, q H (.refl H)⟩
    · have ez : ¬ z = "value" := fun e2 => e (by rw [e2]; exact decide_eq_true rfl)
      have e0 : kindD d z = nameD d := if_neg ez
      rw [e0] at q
      exact ⟨v, rfl, v, d, rfl, hv, hf, hT, q⟩

/-! ### the forms -/
def stepWords : List Str := ["set", "copy", "add", "sub", "mul", "less", "same", "get", "put"]
def endWords : List Str := ["go", "if", "stop"]
def formsL : List (Str × List Str) := [("set", ["written", "value"]), ("copy", ["written", "read"]), ("add", ["written", "read", "read"]), ("sub", ["written", "read", "read"]), ("mul", ["written", "read", "read"]), ("less", ["written", "read", "read"]), ("same", ["written", "read", "read"]), ("get", ["written"]), ("put", ["read"]), ("go", ["block"]), ("if", ["read", "block", "block"]), ("stop", [])]
/-- the module's table of forms, its words -/
structure Fm (c : Ct) : Prop where
  forms : ∃ a, c.mg "FORMS" = some (.ref a) ∧ ∀ z ks, formsL.lookup z = some ks → ∃ t, KDct c.K c.w a z (.ref t) ∧ ∀ H, SqT c.K H t (ks.map V.str)
  steps : ∃ a, c.mg "STEP_WORDS" = some (.ref a) ∧ ∀ H, SqT c.K H a (stepWords.map V.str)
  ends : ∃ a, c.mg "END_WORDS" = some (.ref a) ∧ ∀ H, SqT c.K H a (endWords.map V.str)
/-- the texts in such data are not too long, n deep -/
def Fit : Nat → PyData → Prop
  | 0, _ => True
  | n + 1, d => FitD d ∧ (∀ ds, d = .tuple ds → ∀ e ∈ ds, Fit n e) ∧ (∀ ds, d = .list ds → ∀ e ∈ ds, Fit n e)
/-- a tuple's first item is no list, no tuple -/
def flatD : PyData → Bool
  | .list _ => false
  | .tuple _ => false
  | .dict _ => false
  | _ => true
def FlatFst (d : PyData) : Prop := ∀ e ds, d = .tuple (e :: ds) → flatD e = true
def hasFormK (kd : PyData → Str → Bool) (d : PyData) (ws : List Str) : Bool := match d with
  | .tuple (.str z :: ds) => ws.any (· == z) && (match formsL.lookup z with
    | some ks => decide (ds.length = ks.length) && (ds.zip ks).all fun p => kd p.1 p.2
    | none => false)
  | _ => false
abbrev hasFormD (d : PyData) (ws : List Str) : Bool := hasFormK kindD d ws
theorem dpAll_length {K : PySem.W.Frag} {H : Hp} : ∀ {vs : List V} {ds : List PyData}, DpAll K H vs ds → vs.length = ds.length
  | _, _, .nil => rfl
  | _, _, .cons _ t => congrArg Nat.succ (dpAll_length t)
theorem dpAll_get {K : PySem.W.Frag} {H : Hp} : ∀ {vs : List V} {ds : List PyData} {i : Nat} {v : V}, DpAll K H vs ds → vs[i]? = some v → ∃ d, ds[i]? = some d ∧ Dp K H v d
  | _, _, _, _, .nil, e => by simp at e
  | _, _, 0, _, .cons r _, e => by simp at e; subst e; exact ⟨_, rfl, r⟩
  | _, _, i + 1, v, .cons _ t, e => by
    obtain ⟨d, h1, h2⟩ := dpAll_get (i := i) (v := v) t (by simpa using e)
    exact ⟨d, by simpa using h1, h2⟩
/-- a flat value against a text -/
theorem eqV_text {K : PySem.W.Frag} {H : Hp} {v : V} {d : PyData} (h : Dp K H v d) (hf : flatD d = true) (ws : List Str) : flatV v = true ∧ inV v (ws.map V.str) = (match d with | .str z => ws.any (· == z) | _ => false) := by
  cases h with
  | non => exact ⟨rfl, by unfold inV; rw [List.any_map]; exact List.any_eq_false.mpr fun x _ => by simp [eqV]⟩
  | bl b => exact ⟨rfl, by unfold inV; rw [List.any_map]; exact List.any_eq_false.mpr fun x _ => by simp [eqV]⟩
  | int i => exact ⟨rfl, by unfold inV; rw [List.any_map]; exact List.any_eq_false.mpr fun x _ => by simp [eqV]⟩
  | str z => exact ⟨rfl, by unfold inV; rw [List.any_map]; rfl⟩
  | lst _ _ => cases hf
  | tup _ _ => cases hf
theorem flat_words (ws : List Str) : (ws.map V.str).all flatV = true := by
  rw [List.all_map]
  exact List.all_eq_true.mpr fun x _ => rfl
theorem cutV_one (xs : List V) : cutV xs (some 1) none = xs.drop 1 := by
  unfold cutV
  rw [show HT.sIx xs.length 0 (some 1) = min 1 xs.length from HT.sIx_nat xs.length 0 1, HT.sIx_none]
  cases xs with
  | nil => rfl
  | cons x r =>
    rw [show min 1 (x :: r).length = 1 by rw [List.length_cons]; omega]
    show List.take ((x :: r).length - 1) r = r
    rw [List.length_cons, Nat.add_sub_cancel]
    exact List.take_length
theorem cut_part (x : V) (r : List V) : ¬ (HT.sIx (x :: r).length 0 (some 1) = 0 ∧ HT.sIx (x :: r).length (x :: r).length none = (x :: r).length) := fun h => by
  have e := h.1
  rw [show HT.sIx (x :: r).length 0 (some 1) = min 1 (x :: r).length from HT.sIx_nat _ 0 1, List.length_cons] at e
  omega
end Pm
set_option maxHeartbeats 4000000
namespace Pm
open PySem PySem.Spec PyProof.Rows L2 GxR GX
/-! ### has_form -/
/-- the def at f keeps this promise -/
def OkA (c : Ct) (f : Addr) (k : Nat) (ps : List Str) (sp : Sp) : Prop := ∃ fd, FnOk c.P c.w c.K c.mg c.base CX0 k f fd ps sp ∧ PySem.W.keepIn c.K (.ref f) = true ∧ Binds c.K fd ps []
theorem Ok.at {c : Ct} {x : Str} {k : Nat} {ps : List Str} {sp : Sp} (h : Ok c x k ps sp) : ∃ f, OkA c f k ps sp ∧ c.mg x = some (.ref f) := let ⟨f, fd, F, hm, kp, hb⟩ := h; ⟨f, ⟨fd, F, kp, hb⟩, hm⟩
section
variable {X : Cx} {x : Str} {k : Nat} {ps : List Str} {sp : Sp} {p pos : Pos} {e : Expr} {es : List Expr} {t : TA}
/-- x(e, ..), x a local name that holds the def at f -/
theorem pe_l (c : Ct) (i : Nat) (f : Addr) (O : OkA c f k ps sp) (hr : Room k X.A) (ha : PA X (e :: es) t) (hN : X.N[i]? = some x := by rfl) (hv : Vis X.env.scope x := by first | exact .inl rfl | exact .inr (.inl rfl) | exact .inr (.inr rfl)) (h1 : X.prog = c.P := by rfl) (h2 : X.w = c.w := by rfl) (h3 : X.K = c.K := by rfl) (h4 : X.mg = c.mg := by rfl) (h5 : X.base = c.base := by rfl)
    (hdb : (x == ("__debug__" : Str)) = false := by decide) (hcd : (x == ("__classdict__" : Str)) = false := by decide) (he : starEach (e :: es) X.env = (false, eval e X.env) :: starEach es X.env := by rfl) (hpl : (backTo pos (starEach es X.env)).any (·.1) = false := by rfl) :
    PE X (.Call (.Name x p) (e :: es) [] pos) (tCallL i f sp [] E0 t) := by
  obtain ⟨fd, F, kp, hb⟩ := O
  refine pe_callL (CX := CX0) (f := f) (fd := fd) (ps := ps) (ds := []) ?_ hr hN hv ?_ ?_ .nil pass0 ha hdb hcd he hpl
  · rw [h1, h2, h3, h4, h5]; exact F
  · rw [h3]; exact kp
  · rw [h3]; exact hb
end
def spHasForm (c : Ct) (f : Addr) (kd : PyData → Str → Bool) : Sp := fun vs H Q _ => ∃ v d a ws, vs = [v, .ref a, .ref f] ∧ Dp c.K H v d ∧ SqT c.K H a (ws.map V.str) ∧ (∀ z ∈ ws, (formsL.lookup z).isSome = true) ∧ FlatFst d ∧ Fit 2 d ∧ Tabs c.ts H ∧ ∀ H', Gr H H' → Q (.bl (hasFormK kd d ws)) H'
theorem sc_has_form : FnScope ["thing", "words", "fits", "asked", "part", "kind"] ["thing", "words", "fits"] (defScope s_has_form) := ⟨rfl, rfl, rfl, by decide +kernel, rfl, by decide +kernel, by decide +kernel⟩
theorem ok_has_form {c : Ct} (D : Tf c "has_form" s_has_form) (B : Bl c) (F : Fm c) (kd : PyData → Str → Bool) (fo : Addr) (O : OkA c fo 3 ["part", "kind"] (spKind c kd)) : Ok c "has_form" 5 ["thing", "words", "fits"] (spHasForm c fo kd) := by
  obtain ⟨aF, hF, hFv⟩ := F.forms
  refine tf_ok D sc_has_form (fun vs H Q E h => ?_) (fun _ _ _ _ _ _ us hl => match us, hl with | [_, _, _], _ => rfl) fun f cd tb A outer s H vs Q E TB hmt hr h => ?_
  · obtain ⟨v, d, a, ws, rfl, _⟩ := h
    rfl
  · obtain ⟨v, d, a, ws, rfl, hv, hW, hws, hfl, hfit, hT, q⟩ := h
    refine ⟨_, pss_cons (ps_if (PW.pt (pw_or (pt_not (pt_val (pe_callB call_isi (by rfl) B.isi (by decide +kernel) (pa_cons (pv 0) (pa_cons (pe_bltn (v := .ty "tuple") (by rfl) B.tuple (by decide +kernel) rfl) pa_nil)))))
        (pw_or (pt_not (pt_truth (pv 0) (by intro _; rfl))) (pw_or1 (pt_cmpR op_notIn_seq (pe_ix ix_tup (pv 0) pe_int (fun _ _ => rfl)) (pv 1) (by rfl))))))
        (pss_one (ps_ret pe_bl)) pss_nil)
      (pss_cons (ps_set (i := 3) sc_has_form.nd rfl (.inl rfl) (pe_ix ix_kdict (pe_glob (v := .ref aF) (by rfl) hF rfl) (pe_ix ix_tup (pv 0) pe_int (fun _ _ => rfl)) (fun _ _ => rfl)))
      (pss_cons (ps_if (pt_cmpR op_ne (pe_callB call_len_seq (by rfl) B.len PySem.boot_len (pa_cons (pv 0) pa_nil)) (pe_op op_add pe_int (pe_callB call_len_seq (by rfl) B.len PySem.boot_len (pa_cons (pv 3) pa_nil))) (nomark _)) (pss_one (ps_ret pe_bl)) pss_nil)
      (pss_one (ps_ret (pe_allG (own := [("part", 4), ("kind", 5)]) (g := gTup c.K 2 (gCons (gName 4) (gCons (gName 5) gNil))) (tt := tYes) rfl sc_has_form.nd hr (by rfl) B.all TB rfl (gok_by (N := ["thing", "words", "fits", "asked", "part", "kind"]) (sc := defScope s_has_form) (by decide +kernel))
        (RZ.pi_zipA (by rfl) B.zip (pa_cons (pe_slice sl_tup (pv 0) (po_some pe_int) po_none) (pa_cons (pv 3) pa_nil)))
        (fun _ _ _ _ _ _ _ _ => pg_tup rfl (pgs_cons (pg_name (i := 4) sc_has_form.nd rfl (.inl rfl)) (pgs_cons (pg_name (i := 5) sc_has_form.nd rfl (.inl rfl)) pgs_nil))) (fun _ _ _ _ _ _ _ _ => pts_nil)
        (fun _ _ _ _ _ _ _ _ => pe_l c 2 fo O ((room_gen hr _).mono (by decide)) (pa_cons (pv 4) (pa_cons (pv 5) pa_nil)))))))), ?_⟩
    have kt := kit_dp (K := c.K) d (dp_nodict hv) "tuple" (by simp)
    refine ⟨v, rfl, v, .ty "tuple", .type (tyD d), .type "tuple", _, rfl, .ty _, tyx_dp hv, kt, _, rfl, ?_⟩
    cases hv with
    | bl b => exact q H (.refl H)
    | non => exact q H (.refl H)
    | int i => exact q H (.refl H)
    | str i => exact q H (.refl H)
    | lst s1 s2 => exact q H (.refl H)
    | @tup p xs ds s1 s2 =>
      refine ⟨.ref p, rfl, !xs.isEmpty, .inr (.inl ⟨xs, s1, rfl⟩), ?_⟩
      cases s2 with
      | nil => exact q H (.refl H)
      | @cons x xs e ds hx hxs =>
        have hfe := hfl e ds rfl
        obtain ⟨fx, ix⟩ := eqV_text hx hfe ws
        refine ⟨.ref p, rfl, p, x :: xs, 0, x, rfl, rfl, s1, atI_nat (j := 0) rfl, .ref a, rfl, a, ws.map V.str, rfl, .inr hW, fx, flat_words ws, _, rfl, ?_⟩
        show (if (!inV x (ws.map V.str)) = true then _ else _)
        rw [ix]
        cases hx with
        | non => exact q H (.refl H)
        | bl b => exact q H (.refl H)
        | int i => exact q H (.refl H)
        | lst _ _ => cases hfe
        | tup _ _ => cases hfe
        | str z =>
          show (if (!ws.any (· == z)) = true then _ else _)
          cases hz : ws.any (· == z) with
          | false =>
            have e0 : hasFormK kd (.tuple (.str z :: ds)) ws = false := by
              show (ws.any (· == z) && _) = false
              rw [hz, Bool.false_and]
            rw [e0] at q
            exact q H (.refl H)
          | true =>
            refine iteF ?_
            have hzm : z ∈ ws := by
              obtain ⟨y, hy, ey⟩ := List.any_eq_true.mp hz
              rw [← eq_of_beq ey]; exact hy
            obtain ⟨ks, hks⟩ := Option.isSome_iff_exists.mp (hws z hzm)
            obtain ⟨t, hkd, hsq⟩ := hFv z ks hks
            have e0 : hasFormK kd (.tuple (.str z :: ds)) ws = (decide (ds.length = ks.length) && (ds.zip ks).all fun p => kd p.1 p.2) := by
              show (ws.any (· == z) && (match formsL.lookup z with
                | some ks => decide (ds.length = ks.length) && (ds.zip ks).all fun p => kd p.1 p.2
                | none => false)) = _
              rw [hz, Bool.true_and, hks]
            rw [e0] at q
            refine ⟨.ref p, rfl, p, _, 0, .str z, rfl, rfl, s1, atI_nat (j := 0) rfl, aF, z, .ref t, rfl, rfl, hkd, ?_⟩
            have hlen := dpAll_length hxs
            refine ⟨.ref p, rfl, p, _, rfl, .inr s1, .ref t, rfl, t, _, rfl, .inr (hsq H), 1, (((ks.map V.str).length : Nat) : Int), rfl, rfl, rfl, _, rfl, ?_⟩
            refine ite2 (fun e => ?_) fun e => ?_
            · -- lengths that differ
              have ne : ¬ ds.length = ks.length := fun z9 => by
                have e9 : (!decide (V.int (((V.str z :: xs).length : Nat) : Int) = V.int (1 + (((ks.map V.str).length : Nat) : Int)))) = true := e
                rw [decide_eq_true (by rw [List.length_cons, List.length_map, hlen, z9]; congr 1; omega)] at e9
                cases e9
              rw [decide_eq_false ne, Bool.false_and] at q
              exact q H (.refl H)
            · have hl9 : ds.length = ks.length := by
                have e9 : decide (V.int (((V.str z :: xs).length : Nat) : Int) = V.int (1 + (((ks.map V.str).length : Nat) : Int))) = true := by
                  cases e8 : decide (V.int (((V.str z :: xs).length : Nat) : Int) = V.int (1 + (((ks.map V.str).length : Nat) : Int))) with
                  | true => rfl
                  | false =>
                    exfalso
                    apply e
                    show (!decide (V.int (((V.str z :: xs).length : Nat) : Int) = V.int (1 + (((ks.map V.str).length : Nat) : Int)))) = true
                    rw [e8]; rfl
                have e8 := V.int.inj (of_decide_eq_true e9)
                rw [List.length_cons, List.length_map, hlen] at e8
                omega
              rw [decide_eq_true hl9, Bool.true_and] at q
              refine ⟨.ref p, rfl, 1, rfl, p, _, rfl, s1, cut_part _ _, fun T nT => ?_⟩
              rw [cutV_one]
              refine ⟨.ref t, rfl, T, t, xs, ks.map V.str, rfl, .inr ⟨.inl (.inl upd_same), hsq _, hT.gr (.new nT) tb hmt, fun H2 hTab => ?_⟩⟩
              have g0 : Gr H H2 := (Gr.new nT).trans (.tabbed (hT.gr (.new nT) tb hmt) hTab)
              have gT : H2 T = some (.tup xs) := (Gr.tabbed (hT.gr (.new nT) tb hmt) hTab).tup upd_same
              refine all_zipT (xs := xs) (ys := ks.map V.str) ds.length (by rw [List.length_map, hlen, ← hl9]; omega) (fun i H' => Gr H2 H' ∧ ((ds.zip ks).take i).all (fun p => kd p.1 p.2) = true) ⟨.refl _, rfl⟩ (fun i H' ⟨hg, _⟩ => ⟨.inl (.inl (hg.tup gT)), hsq _⟩) (fun i x y T' H' hx hy ⟨hg, ha⟩ nT' => ?_) fun H' ⟨hg, ha⟩ => ?_
              · obtain ⟨kn, hkd2, rfl⟩ : ∃ kn, ks[i]? = some kn ∧ y = .str kn := by
                  rw [List.getElem?_map] at hy
                  cases e9 : ks[i]? with
                  | none => rw [e9] at hy; cases hy
                  | some kn => rw [e9] at hy; exact ⟨kn, rfl, (Option.some.inj hy).symm⟩
                obtain ⟨d1, hd1, hdp⟩ := dpAll_get hxs hx
                have hz1 : (ds.zip ks)[i]? = some (d1, kn) := by
                  rw [List.getElem?_zip_eq_some]; exact ⟨hd1, hkd2⟩
                have hfd : FitD d1 := (hfit.2.1 _ rfl d1 (List.mem_cons_of_mem _ (List.mem_of_getElem? hd1))).1
                have gA : Gr H (upd H' T' (.tup [x, .str kn])) := (g0.trans hg).trans (.new nT')
                refine ⟨T', [x, .str kn], rfl, .inl (.inl upd_same), rfl, x, [.str kn], rfl, .str kn, [], rfl, rfl, rfl, ?_⟩
                refine ⟨rfl, x, rfl, .str kn, rfl, x, d1, kn, rfl, dp_gr gA hdp, hfd, hT.gr gA, fun H3 hg3 => ⟨_, rfl, ?_⟩⟩
                cases hb : kd d1 kn with
                | false =>
                  refine iteT' ?_
                  have e9 : (ds.zip ks).all (fun p => kd p.1 p.2) = false := by
                    rw [List.all_eq_false]
                    exact ⟨(d1, kn), List.mem_of_getElem? hz1, by rw [hb]; decide⟩
                  rw [e9] at q
                  exact q H3 (gA.trans hg3)
                | true =>
                  refine iteF' ⟨(hg.trans (.new nT')).trans hg3, ?_⟩
                  rw [List.take_add_one, hz1, List.all_append, ha]
                  simp [hb]
              · rw [List.take_of_length_le (by rw [List.length_zip, hl9]; omega)] at ha
                rw [ha] at q
                exact q H' (g0.trans hg)
end Pm
set_option maxHeartbeats 4000000
/-! Comprehensions by an invariant; heaps behind them. -/
namespace Pm
open PySem PySem.Spec PyProof.Rows L2 GxR GX
theorem Gr.put {H H' : Hp} {D : Addr} {o : HO} (g : Gr H H') (n : H D = none) (nc : NoC H' D := by first | exact NoC.lst (by assumption) | exact NoC.free (by assumption) | exact NoC.tup (by assumption) | exact NoC.dK (by assumption) | exact NoC.lst upd_same | exact NoC.tup upd_same | exact NoC.dK upd_same | exact NoC.ins (by assumption) | exact NoC.frz (by assumption)) : Gr H (upd H' D o) := fun b x e => by
  have nb : b ≠ D := ne_of_none e n
  rw [upd_ne nb]
  rcases g b x e with q | ⟨ps, ps', rfl, q, t, u⟩
  · exact .inl q
  · exact .inr ⟨ps, ps', rfl, q, t, fun pos cv z => (u pos cv z).imp id (goodC_put nc)⟩
section
variable {K : PySem.W.Frag} {g : TG} {tt : TT} {te tk tv : TE} {vs : List Nat} {σ : L2.St} {H1 : Hp} {D : Addr} {Qd : Hp → Prop} {J : It}
theorem lc_n (n : Nat) (Pv : Nat → Hp → Prop) (h0 : Pv 0 (upd H1 D (.lst []))) (hgo : ∀ i H, i < n → Pv i H → J.go i H) (hst : ∀ H, Pv n H → J.stop n H)
    (hs : ∀ i H x H', i < n → Pv i H → J.yld i H x H' → g x (wipe σ vs) H' fun σ2 H2 => wipe σ2 vs = wipe σ vs ∧ tt σ2 H2 fun b H3 =>
      if b = true then te σ2 H3 fun y H4 => ∃ acc, H4 D = some (.lst acc) ∧ acc.length < sizeLine ∧ Pv (i + 1) (upd H4 D (.lst (acc ++ [y]))) else Pv (i + 1) H3) (hd : ∀ H, Pv n H → Qd H) :
    ∃ W : Nat → Nat → Hp → Prop, (∃ m, W 0 m (upd H1 D (.lst []))) ∧ ∀ i m H, W i m H →
      (J.stop i H ∧ Qd H) ∨ (J.go i H ∧ ∃ Nx : Hp → Prop, (∀ H', Nx H' → ∃ m', m' < m ∧ W (i + 1) m' H') ∧ ∀ x H', J.yld i H x H' → g x (wipe σ vs) H' fun σ2 H2 => wipe σ2 vs = wipe σ vs ∧ tt σ2 H2 fun b H3 =>
        if b = true then te σ2 H3 fun y H4 => ∃ acc, H4 D = some (.lst acc) ∧ acc.length < sizeLine ∧ Nx (upd H4 D (.lst (acc ++ [y]))) else Nx H3) := by
  refine ⟨fun i m H => m = n - i ∧ i ≤ n ∧ Pv i H, ⟨n, by simp, Nat.zero_le _, h0⟩, ?_⟩
  rintro i m H ⟨rfl, hi, p⟩
  by_cases hlt : i < n
  · exact .inr ⟨hgo i H hlt p, Pv (i + 1), fun H' p' => ⟨n - (i + 1), by omega, rfl, hlt, p'⟩, fun x H' y => hs i H x H' hlt p y⟩
  · have e : i = n := by omega
    subst e
    exact .inl ⟨hst H p, hd H p⟩
theorem lc_zipT {a b : Addr} {xs ys : List V} (n : Nat) (hn : n = min xs.length ys.length) (Pv : Nat → Hp → Prop) (h0 : Pv 0 (upd H1 D (.lst []))) (hl : ∀ i H, Pv i H → SqT K H a xs ∧ SqT K H b ys)
    (hs : ∀ i x y T H, xs[i]? = some x → ys[i]? = some y → Pv i H → H T = none → g (.ref T) (wipe σ vs) (upd H T (.tup [x, y])) fun σ2 H2 => wipe σ2 vs = wipe σ vs ∧ tt σ2 H2 fun b H3 =>
      if b = true then te σ2 H3 fun y H4 => ∃ acc, H4 D = some (.lst acc) ∧ acc.length < sizeLine ∧ Pv (i + 1) (upd H4 D (.lst (acc ++ [y]))) else Pv (i + 1) H3) (hd : ∀ H, Pv n H → Qd H) :
    ∃ W : Nat → Nat → Hp → Prop, (∃ m, W 0 m (upd H1 D (.lst []))) ∧ ∀ i m H, W i m H →
      ((RZ.ItzT K a b).stop i H ∧ Qd H) ∨ ((RZ.ItzT K a b).go i H ∧ ∃ Nx : Hp → Prop, (∀ H', Nx H' → ∃ m', m' < m ∧ W (i + 1) m' H') ∧ ∀ x H', (RZ.ItzT K a b).yld i H x H' → g x (wipe σ vs) H' fun σ2 H2 => wipe σ2 vs = wipe σ vs ∧ tt σ2 H2 fun b H3 =>
        if b = true then te σ2 H3 fun y H4 => ∃ acc, H4 D = some (.lst acc) ∧ acc.length < sizeLine ∧ Nx (upd H4 D (.lst (acc ++ [y]))) else Nx H3) := by
  refine lc_n n Pv h0 (fun i H h p => ⟨xs, ys, xs[i]'(by omega), ys[i]'(by omega), (hl i H p).1, (hl i H p).2, List.getElem?_eq_getElem (by omega), List.getElem?_eq_getElem (by omega)⟩) (fun H p => ⟨xs, ys, (hl _ H p).1, (hl _ H p).2, by omega⟩) (fun i H v H' h p y => ?_) hd
  obtain ⟨T, x, y, rfl, hT, rfl, h1, h2⟩ := y
  exact hs i x y T H (h1 xs (hl i H p).1) (h2 ys (hl i H p).2) p hT
end
end Pm
set_option maxHeartbeats 4000000
namespace Pm
open PySem PySem.Spec PyProof.Rows L2 GxR GX
/-! ### parts_of -/
def partsV : List V → List Str → Str → List V
  | v :: vs, k :: ks, kind => if k = kind then v :: partsV vs ks kind else partsV vs ks kind
  | _, _, _ => []
theorem partsV_length : ∀ (vs : List V) (ks : List Str) (kind : Str), (partsV vs ks kind).length ≤ ks.length
  | [], [], _ => Nat.le_refl _
  | [], _ :: _, _ => Nat.zero_le _
  | _ :: _, [], _ => Nat.le_refl _
  | v :: vs, k :: ks, kind => by
    have ih := partsV_length vs ks kind
    unfold partsV
    split
    · rw [List.length_cons, List.length_cons]; omega
    · rw [List.length_cons]; omega
theorem partsV_take : ∀ (vs : List V) (ks : List Str) (kind : Str) (i : Nat) (v : V) (k : Str), vs[i]? = some v → ks[i]? = some k →
    partsV (vs.take (i + 1)) (ks.take (i + 1)) kind = partsV (vs.take i) (ks.take i) kind ++ (if k = kind then [v] else [])
  | [], _, _, _, _, _, h, _ => by simp at h
  | _ :: _, [], _, _, _, _, _, h => by simp at h
  | x :: vs, y :: ks, kind, 0, v, k, h1, h2 => by
    simp only [List.getElem?_cons_zero, Option.some.injEq] at h1 h2
    subst h1 h2
    simp only [List.take_succ_cons, List.take_zero, partsV]
    split <;> rfl
  | x :: vs, y :: ks, kind, i + 1, v, k, h1, h2 => by
    have ih := partsV_take vs ks kind i v k (by simpa using h1) (by simpa using h2)
    simp only [List.take_succ_cons, partsV] at ih ⊢
    rw [ih]
    split <;> rfl
def spPartsOf (c : Ct) : Sp := fun vs H Q _ => ∃ a z rest ks kind, vs = [.ref a, .str kind] ∧ SqT c.K H a (.str z :: rest) ∧ formsL.lookup z = some ks ∧ rest.length = ks.length ∧ Tabs c.ts H ∧
  ∀ H' p, Gr H H' → H p = none → H' p = some (.lst (partsV rest ks kind)) → Q (.ref p) H'
theorem sc_parts_of : FnScope ["row", "kind", "part", "known"] ["row", "kind"] (defScope s_parts_of) := ⟨rfl, rfl, rfl, by decide +kernel, rfl, by decide +kernel, by decide +kernel⟩
theorem forms_short : ∀ p ∈ formsL, p.2.length ≤ 3 := by decide +kernel
theorem lookup_mem2 {α : Type} {z : Str} {v : α} : ∀ {l : List (Str × α)}, l.lookup z = some v → (z, v) ∈ l
  | [], h => by simp at h
  | (k, u) :: r, h => by
    rw [List.lookup_cons] at h
    cases hb : z == k with
    | true =>
      rw [hb] at h
      simp only [Option.some.injEq] at h
      rw [eq_of_beq hb, h]
      exact List.mem_cons_self
    | false =>
      rw [hb] at h
      exact List.mem_cons_of_mem _ (lookup_mem2 h)
theorem forms_len {z : Str} {ks : List Str} (h : formsL.lookup z = some ks) : ks.length ≤ 3 := forms_short _ (lookup_mem2 h)
theorem ok_parts_of {c : Ct} (D : Df c "parts_of" s_parts_of) (B : Bl c) (F : Fm c) : Ok c "parts_of" 1 ["row", "kind"] (spPartsOf c) := by
  obtain ⟨aF, hF, hFv⟩ := F.forms
  refine df_ok D sc_parts_of (fun vs H Q E h => ?_) (fun _ _ _ _ _ _ us hl => match us, hl with | [_, _], _ => rfl) fun f cd A outer s H vs Q E hr h => ?_
  · obtain ⟨a, z, rest, ks, kind, rfl, _⟩ := h
    rfl
  · obtain ⟨a, z, rest, ks, kind, rfl, hS, hks, hlen, hT, q⟩ := h
    obtain ⟨t, hkd, hsq⟩ := hFv z ks hks
    refine ⟨_, pss_one (ps_ret (pe_lc (own := [("part", 2), ("known", 3)]) (g := gTup c.K 2 (gCons (gName 2) (gCons (gName 3) gNil))) (tt := tB (tOp rEq (tVar 3) (tVar 1))) rfl sc_parts_of.nd
      (RZ.pi_zipA (by rfl) B.zip (pa_cons (pe_slice sl_tup (pv 0) (po_some pe_int) po_none) (pa_cons (pe_ix ix_kdict (pe_glob (v := .ref aF) (by rfl) hF rfl) (pe_ix ix_tup (pv 0) pe_int (fun _ _ => rfl)) (fun _ _ => rfl)) pa_nil)))
      (blkOk_by (N := ["row", "kind", "part", "known"]) (sc := defScope s_parts_of) (by decide +kernel))
      (fun _ _ _ _ _ => pg_tup rfl (pgs_cons (pg_name (i := 2) sc_parts_of.nd rfl (.inl rfl)) (pgs_cons (pg_name (i := 3) sc_parts_of.nd rfl (.inl rfl)) pgs_nil)))
      (fun _ _ _ _ _ => pts_one (pt_cmpR op_eq (pv 3) (pv 1) (nomark _))) (fun _ _ _ _ _ => pv 2))), ?_⟩
    refine ⟨.ref a, rfl, 1, rfl, a, _, rfl, hS, cut_part _ _, fun T nT => ?_⟩
    rw [cutV_one]
    have g1 := Gr.new (o := .tup rest) nT
    refine ⟨.ref a, rfl, a, _, 0, .str z, rfl, rfl, g1.sqT hS, atI_nat (j := 0) rfl, aF, z, .ref t, rfl, rfl, hkd, ?_⟩
    refine ⟨T, t, rest, ks.map V.str, rfl, .inr ⟨.inl (.inl upd_same), hsq _, fun D nD => ?_⟩⟩
    refine lc_zipT (xs := rest) (ys := ks.map V.str) ks.length (by rw [List.length_map, hlen]; omega) (fun i H' => Gr (upd H T (.tup rest)) H' ∧ H' D = some (.lst (partsV (rest.take i) (ks.take i) kind))) ⟨(Gr.refl _).put nD, upd_same⟩
      (fun i H' ⟨hg, _⟩ => ⟨.inl (.inl (hg.tup upd_same)), hsq _⟩) (fun i x y T' H' hx hy ⟨hg, hD⟩ nT' => ?_) fun H' ⟨hg, hD⟩ => ?_
    · obtain ⟨kd, hkd2, rfl⟩ : ∃ kd, ks[i]? = some kd ∧ y = .str kd := by
        rw [List.getElem?_map] at hy
        cases e9 : ks[i]? with
        | none => rw [e9] at hy; cases hy
        | some kd => rw [e9] at hy; exact ⟨kd, rfl, (Option.some.inj hy).symm⟩
      have nDT : D ≠ T' := ne_of_none hD nT'
      have hD2 : (upd H' T' (.tup [x, .str kd])) D = some (.lst (partsV (rest.take i) (ks.take i) kind)) := by rw [upd_ne nDT]; exact hD
      have hg2 : Gr (upd H T (.tup rest)) (upd H' T' (.tup [x, .str kd])) := hg.trans (.new nT')
      have ht := partsV_take rest ks kind i x kd hx hkd2
      refine ⟨T', [x, .str kd], rfl, .inl (.inl upd_same), rfl, x, [.str kd], rfl, .str kd, [], rfl, rfl, rfl, ?_⟩
      refine ⟨.str kd, rfl, .str kind, rfl, rfl, _, rfl, ite2 (fun e => ?_) fun e => ?_⟩
      · have ek : kd = kind := V.str.inj (of_decide_eq_true e)
        refine ⟨x, rfl, _, hD2, ?_, hg2.put nD, ?_⟩
        · have l1 := partsV_length (rest.take i) (ks.take i) kind
          have l2 := forms_len hks
          have l3 : (ks.take i).length ≤ ks.length := by rw [List.length_take]; omega
          exact small1000 (by omega)
        · rw [upd_same, ht, if_pos ek]
      · have ek : ¬ kd = kind := fun e2 => e (by rw [e2]; exact decide_eq_true rfl)
        refine ⟨hg2, ?_⟩
        rw [ht, if_neg ek, List.append_nil]
        exact hD2
    · rw [List.take_of_length_le (Nat.le_of_eq hlen), List.take_of_length_le (Nat.le_refl _)] at hD
      exact q H' D (g1.trans hg) (g1.free nD) hD
/-! ### rows_of -/
def spRowsOf (c : Ct) : Sp := fun vs H Q _ => ∃ a n p en xs, vs = [.ref a] ∧ SqT c.K H a [n, .ref p, en] ∧ SqT c.K H p xs ∧ xs.length ≤ 100 ∧ ∀ t, H t = none → Q (.ref t) (upd H t (.tup (xs ++ [en])))
theorem sc_rows_of : FnScope ["block", "name", "steps", "end"] ["block"] (defScope s_rows_of) := ⟨rfl, rfl, rfl, by decide +kernel, rfl, by decide +kernel, by decide +kernel⟩
theorem ok_rows_of {c : Ct} (D : Df c "rows_of" s_rows_of) : Ok c "rows_of" 1 ["block"] (spRowsOf c) := by
  refine df_ok D sc_rows_of (fun vs H Q E h => ?_) (fun _ _ _ _ _ _ us hl => match us, hl with | [_], _ => rfl) fun f cd A outer s H vs Q E hr h => ?_
  · obtain ⟨a, n, p, en, xs, rfl, _⟩ := h
    rfl
  · obtain ⟨a, n, p, en, xs, rfl, hA, hP, hx, q⟩ := h
    refine ⟨_, pss_cons (ps_asg (pv 0) (pg_tup rfl (pgs_cons (pg_name (i := 1) sc_rows_of.nd rfl (.inl rfl)) (pgs_cons (pg_name (i := 2) sc_rows_of.nd rfl (.inl rfl)) (pgs_cons (pg_name (i := 3) sc_rows_of.nd rfl (.inl rfl)) pgs_nil)))))
      (pss_one (ps_ret (pe_tup (StX.pa_star (pv 2) (pa_cons (pv 3) pa_nil))))), ?_⟩
    refine ⟨.ref a, rfl, a, _, rfl, hA, rfl, n, _, rfl, .ref p, _, rfl, en, _, rfl, rfl, ?_⟩
    refine ⟨.ref p, rfl, p, xs, rfl, .inl hP, en, rfl, ?_, fun t nt => q t nt⟩
    show (xs ++ [en]).length ≤ sizeLine
    rw [List.length_append, List.length_singleton]
    exact Nat.le_of_lt (small1000 (by omega))
end Pm
set_option maxHeartbeats 4000000
namespace Pm
open PySem PySem.Spec PyProof.Rows L2 GxR GX
/-! ### is_block -/
def stepsD (d : PyData) : Bool := match d with
  | .tuple ss => decide (ss.length ≤ 16) && ss.all fun s => hasFormK kindD s stepWords
  | _ => false
def blockD (d : PyData) : Bool := match d with
  | .tuple [n, st, en] => (nameD n && hasFormK kindD en endWords) && stepsD st
  | _ => false
def FlatB (d : PyData) : Prop := ∀ n st en, d = .tuple [n, st, en] → FlatFst en ∧ ∀ ss, st = .tuple ss → ∀ s ∈ ss, FlatFst s
def spIsBlock (c : Ct) : Sp := fun vs H Q _ => ∃ v d, vs = [v] ∧ Dp c.K H v d ∧ FlatB d ∧ Fit 4 d ∧ Tabs c.ts H ∧ ∀ H', Gr H H' → Q (.bl (blockD d)) H'
theorem sc_is_block : FnScope ["thing", "name", "steps", "end", "step"] ["thing"] (defScope s_is_block) := ⟨rfl, rfl, rfl, by decide +kernel, rfl, by decide +kernel, by decide +kernel⟩
theorem words_forms : (∀ z ∈ stepWords, (formsL.lookup z).isSome = true) ∧ ∀ z ∈ endWords, (formsL.lookup z).isSome = true := by decide +kernel
theorem Fit.mono {n : Nat} : ∀ {d : PyData}, Fit (n + 1) d → Fit n d := by
  induction n with
  | zero => exact fun _ => trivial
  | succ n ih => exact fun h => ⟨h.1, fun ds e x hx => ih (h.2.1 ds e x hx), fun ds e x hx => ih (h.2.2 ds e x hx)⟩
theorem blockD_len {ds : List PyData} (h : ds.length ≠ 3) : blockD (.tuple ds) = false := by
  match ds, h with
  | [], _ => rfl
  | [_], _ => rfl
  | [_, _], _ => rfl
  | [_, _, _], h => exact absurd rfl h
  | _ :: _ :: _ :: _ :: _, _ => rfl
theorem ok_is_block {c : Ct} (D : Tf c "is_block" s_is_block) (B : Bl c) (F : Fm c) (hM : ∃ t, c.mg "MOST_STEPS" = some (.int 16 t)) (O1 : Ok c "is_name" 2 ["thing"] (spIsName c)) (fo : Addr) (hfo : c.mg "is_part" = some (.ref fo)) (O2 : Ok c "has_form" 5 ["thing", "words", "fits"] (spHasForm c fo kindD)) : Ok c "is_block" 7 ["thing"] (spIsBlock c) := by
  obtain ⟨aS, hS, hSv⟩ := F.steps
  obtain ⟨aE, hE, hEv⟩ := F.ends
  obtain ⟨tM, hM⟩ := hM
  refine tf_ok D sc_is_block (fun vs H Q E h => ?_) (fun _ _ _ _ _ _ us hl => match us, hl with | [_], _ => rfl) fun f cd tb A outer s H vs Q E TB hmt hr h => ?_
  · obtain ⟨v, d, rfl, _⟩ := h
    rfl
  · obtain ⟨v, d, rfl, hv, hfl, hfit, hT, q⟩ := h
    refine ⟨_, pss_cons (ps_if (PW.pt (pw_or (pt_not (pt_val (pe_callB call_isi (by rfl) B.isi (by decide +kernel) (pa_cons (pv 0) (pa_cons (pe_bltn (v := .ty "tuple") (by rfl) B.tuple (by decide +kernel) rfl) pa_nil)))))
        (pw_or1 (pt_cmpR op_ne (pe_callB call_len_seq (by rfl) B.len PySem.boot_len (pa_cons (pv 0) pa_nil)) pe_int (nomark _)))))
        (pss_one (ps_ret pe_bl)) pss_nil)
      (pss_cons (ps_asg (pv 0) (pg_tup rfl (pgs_cons (pg_name (i := 1) sc_is_block.nd rfl (.inl rfl)) (pgs_cons (pg_name (i := 2) sc_is_block.nd rfl (.inl rfl)) (pgs_cons (pg_name (i := 3) sc_is_block.nd rfl (.inl rfl)) pgs_nil)))))
      (pss_cons (ps_if (PW.pt (pw_or (pt_not (pt_val (pe_f c O1 (hr.mono (by decide)) (pa_cons (pv 1) pa_nil)))) (pw_or1 (pt_not (pt_val (pe_f c O2 (hr.mono (by decide)) (pa_cons (pv 3) (pa_cons (pe_glob (v := .ref aE) (by rfl) hE rfl) (pa_cons (pe_glob (v := .ref fo) (by rfl) hfo rfl) pa_nil)))))))))
        (pss_one (ps_ret pe_bl)) pss_nil)
      (pss_cons (ps_if (PW.pt (pw_or (pt_not (pt_val (pe_callB call_isi (by rfl) B.isi (by decide +kernel) (pa_cons (pv 2) (pa_cons (pe_bltn (v := .ty "tuple") (by rfl) B.tuple (by decide +kernel) rfl) pa_nil)))))
        (pw_or1 (pt_cmpR op_gt (pe_callB call_len_seq (by rfl) B.len PySem.boot_len (pa_cons (pv 2) pa_nil)) (pe_glob (v := .int 16) (by rfl) hM ⟨_, rfl⟩) (nomark _)))))
        (pss_one (ps_ret pe_bl)) pss_nil)
      (pss_one (ps_ret (pe_allG (own := [("step", 4)]) (g := gName 4) (tt := tYes) rfl sc_is_block.nd hr (by rfl) B.all TB rfl (gok_by (N := ["thing", "name", "steps", "end", "step"]) (sc := defScope s_is_block) (by decide +kernel))
        (pi_tup (pv 2)) (fun _ _ _ _ _ _ _ _ => pg_name (i := 4) sc_is_block.nd rfl (.inl rfl)) (fun _ _ _ _ _ _ _ _ => pts_nil)
        (fun _ _ _ _ _ _ _ _ => pe_f c O2 (room_gen hr _) (pa_cons (pv 4) (pa_cons (pe_glob (v := .ref aS) (by rfl) hS rfl) (pa_cons (pe_glob (v := .ref fo) (by rfl) hfo rfl) pa_nil)))))))))), ?_⟩
    have kt := kit_dp (K := c.K) d (dp_nodict hv) "tuple" (by simp)
    refine ⟨v, rfl, v, .ty "tuple", .type (tyD d), .type "tuple", _, rfl, .ty _, tyx_dp hv, kt, _, rfl, ?_⟩
    cases hv with
    | bl b => exact q H (.refl H)
    | non => exact q H (.refl H)
    | int i => exact q H (.refl H)
    | str i => exact q H (.refl H)
    | lst s1 s2 => exact q H (.refl H)
    | @tup p xs ds s1 s2 =>
      have hl := dpAll_length s2
      refine ⟨.ref p, rfl, p, xs, rfl, .inr s1, rfl, _, rfl, ite2 (fun e => ?_) fun e => ?_⟩
      · have ne : ds.length ≠ 3 := fun z9 => by
          have e9 : (!decide (V.int ((xs.length : Nat) : Int) = V.int 3)) = true := e
          rw [decide_eq_true (by rw [hl, z9]; rfl)] at e9
          cases e9
        rw [blockD_len ne] at q
        exact q H (.refl H)
      · have h3 : xs.length = 3 := by
          cases e8 : decide (V.int ((xs.length : Nat) : Int) = V.int 3) with
          | true =>
            have e7 := V.int.inj (of_decide_eq_true e8)
            omega
          | false =>
            exfalso
            apply e
            show (!decide (V.int ((xs.length : Nat) : Int) = V.int 3)) = true
            rw [e8]; rfl
        cases s2 with
        | nil => cases h3
        | @cons n xs nD ds hn s2 =>
        cases s2 with
        | nil => cases h3
        | @cons st xs stD ds hst s2 =>
        cases s2 with
        | nil => cases h3
        | @cons en xs enD ds hen s2 =>
        cases s2 with
        | cons _ _ => cases h3
        | nil =>
        obtain ⟨fl1, fl2⟩ := hfl nD stD enD rfl
        have fit1 := hfit.2.1 _ rfl nD (by simp)
        have fit2 := hfit.2.1 _ rfl stD (by simp)
        have fit3 := hfit.2.1 _ rfl enD (by simp)
        refine ⟨.ref p, rfl, p, _, rfl, s1, rfl, n, _, rfl, st, _, rfl, en, _, rfl, rfl, ?_⟩
        have q' : ∀ H', Gr H H' → Q (.bl ((nameD nD && hasFormK kindD enD endWords) && stepsD stD)) H' := q
        refine ⟨n, rfl, n, nD, rfl, hn, fit1.1, hT, fun H1 g1 => ⟨_, rfl, ?_⟩⟩
        cases b1 : nameD nD with
        | false =>
          rw [b1] at q'
          exact q' H1 g1
        | true =>
          refine ⟨en, rfl, en, enD, aE, endWords, rfl, dp_gr g1 hen, hEv _, words_forms.2, fl1, fit3.mono, hT.gr g1, fun H2 g2 => ⟨_, rfl, ?_⟩⟩
          have g12 := g1.trans g2
          cases b2 : hasFormK kindD enD endWords with
          | false =>
            rw [b1, b2] at q'
            exact q' H2 g12
          | true =>
            rw [b1, b2] at q'
            have q2 : ∀ H', Gr H H' → Q (.bl (stepsD stD)) H' := q'
            have kt2 := kit_dp (K := c.K) stD (dp_nodict hst) "tuple" (by simp)
            refine ⟨st, rfl, st, .ty "tuple", .type (tyD stD), .type "tuple", _, rfl, .ty _, tyx_dp (dp_gr g12 hst), kt2, _, rfl, ?_⟩
            cases hst with
            | bl b => exact q2 H2 g12
            | non => exact q2 H2 g12
            | int i => exact q2 H2 g12
            | str i => exact q2 H2 g12
            | lst s1 s2 => exact q2 H2 g12
            | @tup ps ss ssD t1 t2 =>
              have hl2 := dpAll_length t2
              have t1' := g12.sqT t1
              refine ⟨.ref ps, rfl, ps, ss, rfl, .inr t1', _, _, rfl, rfl, _, rfl, ite2 (fun e => ?_) fun e => ?_⟩
              · have e9 := of_decide_eq_true e
                have e0 : stepsD (.tuple ssD) = false := by
                  show (decide (ssD.length ≤ 16) && _) = false
                  rw [decide_eq_false (by omega), Bool.false_and]
                rw [e0] at q2
                exact q2 H2 g12
              · have e9 : ssD.length ≤ 16 := by
                  refine Nat.le_of_not_lt fun z => e (decide_eq_true ?_)
                  omega
                have e0 : stepsD (.tuple ssD) = ssD.all fun s => hasFormK kindD s stepWords := by
                  show (decide (ssD.length ≤ 16) && _) = _
                  rw [decide_eq_true e9, Bool.true_and]
                rw [e0] at q2
                refine ⟨.ref ps, rfl, ps, rfl, ⟨ss, t1'⟩, hT.gr g12 tb hmt, fun H3 hTab => ?_⟩
                have g3 : Gr H H3 := g12.trans (.tabbed (hT.gr g12 tb hmt) hTab)
                refine all_tup (xs := ss) (fun i H' => Gr H H' ∧ (ssD.take i).all (fun s => hasFormK kindD s stepWords) = true) ⟨g3, rfl⟩ (fun i H' ⟨hg, _⟩ => hg.sqT t1) (fun i x H' hx ⟨hg, ha⟩ => ?_) fun H' ⟨hg, ha⟩ => ?_
                · obtain ⟨d1, hd1, hdp⟩ := dpAll_get t2 hx
                  have hm1 := List.mem_of_getElem? hd1
                  refine ⟨rfl, x, rfl, x, d1, aS, stepWords, rfl, dp_gr hg hdp, hSv _, words_forms.1, fl2 _ rfl d1 hm1, fit2.2.1 _ rfl d1 hm1, hT.gr hg, fun H4 g4 => ⟨_, rfl, ?_⟩⟩
                  cases hb : hasFormK kindD d1 stepWords with
                  | false =>
                    refine iteT' ?_
                    have e9 : ssD.all (fun s => hasFormK kindD s stepWords) = false := by
                      rw [List.all_eq_false]
                      exact ⟨d1, hm1, by rw [hb]; decide⟩
                    rw [e9] at q2
                    exact q2 H4 (hg.trans g4)
                  | true =>
                    refine iteF' ⟨hg.trans g4, ?_⟩
                    rw [List.take_add_one, hd1, List.all_append, ha]
                    simp [hb]
                · rw [List.take_of_length_le (Nat.le_of_eq hl2.symm)] at ha
                  rw [ha] at q2
                  exact q2 H' hg
end Pm
set_option maxHeartbeats 4000000
/-! len(set(xs)), xs a list of texts. -/
namespace Pm
open PySem PySem.Spec PyProof.Rows L2 GxR GX
/-- how many different ones stand among the first i; all of them, or fewer -/
def SetCount (xs : List Str) (i m : Nat) : Prop := m ≤ i ∧ (m = i ↔ (xs.take i).Nodup)
theorem setCount_step {xs : List Str} {i m : Nat} {x : Str} (hx : xs[i]? = some x) (h : SetCount xs i m) : SetCount xs (i + 1) (if decide (x ∈ xs.take i) = true then m else m + 1) := by
  obtain ⟨h1, h2⟩ := h
  have et : xs.take (i + 1) = xs.take i ++ [x] := by rw [List.take_add_one, hx]; rfl
  by_cases hm : x ∈ xs.take i
  · rw [if_pos (decide_eq_true hm)]
    refine ⟨by omega, fun e => by omega, fun nd => ?_⟩
    rw [et, List.nodup_append] at nd
    exact absurd rfl (nd.2.2 x hm x (by simp))
  · rw [if_neg (by simpa using hm)]
    refine ⟨by omega, fun e => ?_, fun nd => ?_⟩
    · rw [et, List.nodup_append]
      refine ⟨h2.mp (by omega), by simp, fun a ha b hb => ?_⟩
      rw [List.mem_singleton.mp hb]
      exact fun z => hm (z ▸ ha)
    · rw [et, List.nodup_append] at nd
      have := h2.mpr nd.1
      omega
section
variable {prog : Program} {w : World} {A : Around} {R : Result → Shared → Prop} {I : Addr} {fp wr : List Addr} {G : Array GenState → Array GenState → Prop} {n : Nat} {P : Nat → Value → Prop} {St : Nat → Shared → Prop}
theorem strs_loop (W : WalksS prog w A.in1 I fp wr G n P St) (S : Addr) (hSf : S ∉ fp) (xs : List Str) (hsz : xs.length = n) (hb : n + 1 < scanBound) (hval : ∀ i v, P i v → ∃ t, v = .str (xs.getD i Str.empty) t) :
    ∀ (k i : Nat) (s : Shared), n - i = k → i ≤ n → St i s → (∃ m, s.heap.SetOf (PySem.strKind prog w) S (fun k' => decide (k' ∈ xs.take i)) m ∧ SetCount xs i m) →
      (∀ s' m, Moved (S :: wr) G s s' → s'.heap.SetOf (PySem.strKind prog w) S (fun k' => decide (k' ∈ xs.take n)) m → SetCount xs n m → R (.ok (.ret .none)) s') →
      codeAny (model prog w) A (.builtin "set.update.loop" ⟨[.ref S, .ref I], []⟩) R s := by
  have nw : S ∉ wr := fun h => hSf (W.sub _ h)
  have sub : ∀ b ∈ wr, b ∈ S :: wr := fun b hb => List.mem_cons_of_mem _ hb
  have carry : ∀ {s s' : Shared} {T : Str → Bool} {m : Nat}, Moved wr G s s' → s.heap.SetOf (PySem.strKind prog w) S T m → s'.heap.SetOf (PySem.strKind prog w) S T m := fun hm hS => by
    obtain ⟨o, es, ep, t, ho, r⟩ := hS
    exact ⟨o, es, ep, t, hm.heap S _ nw ho, r⟩
  intro k
  induction k with
  | zero =>
    intro i s hk hi hst ⟨m, hS, hc⟩ hR
    obtain rfl : i = n := by omega
    refine codeAny_builtin PyProof.Rows.F.entry_set_update_loop ?_
    rw [Around.under_plainId PyProof.Rows.F.plain_set_update_loop _]
    show wpAny _ A.in1 (pyNext (.ref I) >>= _) _ _ s
    refine wpAny_bind (W.done s _ _ hst fun s' hm => ?_)
    exact wpAny_pure (hR s' m (hm.mono sub) (carry hm hS) hc)
  | succ k ih =>
    intro i s hk hi hst ⟨m, hS, hc⟩ hR
    have hlt : i < n := by omega
    have hxi : xs[i]? = some (xs.getD i Str.empty) := by
      rw [List.getD_eq_getElem?_getD, List.getElem?_eq_getElem (by omega)]; rfl
    refine codeAny_builtin PyProof.Rows.F.entry_set_update_loop ?_
    rw [Around.under_plainId PyProof.Rows.F.plain_set_update_loop _]
    show wpAny _ A.in1 (pyNext (.ref I) >>= _) _ _ s
    refine wpAny_bind (W.item i s _ _ hlt hst fun v s' hP hst' hm => ?_)
    obtain ⟨t, rfl⟩ := hval i v hP
    have hS1 := carry hm hS
    refine wpAny_bind (wpAny_holding ?_)
    unfold setAdd
    refine wpAny_holding (wpAny_bind ((PySem.strKind prog w).pyHash (k := xs.getD i Str.empty) (strKind_is _ _ _ _) ?_))
    refine wpAny_setAddHashed_of (knd := PySem.strKind prog w) (s := { s' with toks := s'.toks + 1 }) (strKind_is _ _ _ _) rfl hS1 (by have := hc.1; omega) fun h' hsb hS2 => ?_
    have hS3 : h'.SetOf (PySem.strKind prog w) S (fun k' => decide (k' ∈ xs.take (i + 1))) (if decide (xs.getD i Str.empty ∈ xs.take i) = true then m else m + 1) := by
      refine SetOf_congr hS2 (fun k' => ?_) rfl
      rw [List.take_add_one, hxi]
      simp
    refine wpAny_pure ⟨plainId_quiet PyProof.Rows.F.plain_set_update_loop _, ih (i + 1) _ (by omega) hlt (W.frame _ s' _ _ hst' (Nat.le_succ _) fun b hb o e => ?_) ⟨_, hS3, setCount_step hxi hc⟩ fun s'' m2 hm'' hS'' hc'' => ?_⟩
    · exact (hsb.2 b (fun z : b = S => hSf (z ▸ hb))).trans e
    · refine hR s'' m2 (Moved.trans W.gtrans ((hm.mono sub).then_heap (Nat.le_succ _) fun b o hb e => ?_) hm'') hS'' hc''
      exact (hsb.2 b (fun z : b = S => hb (z ▸ List.mem_cons_self))).trans e
end
section
variable {prog : Program} {w : World} {A : Around} {E : Value → Shared → Prop} {s : Shared}
abbrev newSet (led : Bool) : Obj := { cls := .type "set", dict := none, data := .set #[] 0 (.fresh 0 0 led) }
theorem set_of_strs {l : Addr} {items : Array Value} {xs : List Str} {Q : Value → Shared → Prop} (hh : A.handled = none) (hl : s.heap.IsList l items) (hi : PyProof.Rows.StrsAre items.toList xs) (hb : xs.length + 1 < scanBound)
    (h : ∀ (h' : Heap) (tk m : Nat), h'.SetOf (PySem.strKind prog w) s.heap.objs.size (fun k' => decide (k' ∈ xs)) m → SetCount xs xs.length m →
      (∀ b o, b < s.heap.objs.size → s.heap.get? b = some o → h'.get? b = some o) → Q (.ref s.heap.objs.size) { s with heap := h', toks := tk }) :
    wpAny (model prog w) A (call (.type "set") [.ref l]) Q E s := by
  have hsz : xs.length = items.size := by rw [← StrsAre.len_eq hi, Array.length_toList]
  obtain ⟨cc, tl, hmro⟩ := PySem.F.called_set.mro
  have hmade := PySem.F.called_set.made
  have hsub := PySem.F.called_set.sub
  refine wpAny_call (codeAny_of_tree ?_)
  show wpAny _ _ (callAny (.type "set") _) _ _ _
  refine wpAny_pure ⟨Code.quiet_builtin _ (by decide +kernel), codeAny_builtin PySem.F.entry_type_call ?_⟩
  rw [Around.under_plain (weight_type_call_type "set" [.ref l] []) rfl]
  have h1 := PySem.F.called_set.notType
  have h2 := PySem.F.called_set.canCreate
  have hct := PySem.F.typeCall_set_1 (.ref l)
  repeat (any_goals (first | assumption | wp_step))
  refine codeAny_mono (code_set_new_1 (.ref l) (E := E) (Q₁ := fun obj s₁ => ∃ led : Bool, obj = .ref s.heap.objs.size ∧ s₁ = { s with heap := s.heap.push (newSet led) }) fun led => ⟨led, rfl, rfl⟩) fun r s₁ hr => ?_
  cases r with
  | error e => exact hr
  | ok fl =>
  cases fl with
  | next => exact hr.elim
  | brk => exact hr.elim
  | cont => exact hr.elim
  | ret obj =>
    obtain ⟨led, rfl, rfl⟩ := hr
    have hS : (s.heap.push (newSet led)).get? s.heap.objs.size = some (newSet led) := Heap.get?_push_size _ rfl
    have hT : Shared.TypeIs { s with heap := s.heap.push (newSet led) } (.ref s.heap.objs.size) "set" := ⟨_, hS, rfl⟩
    have hli := PySem.F.called_set.init.lookup
    have hbi := PySem.F.called_set.init.bind (.ref s.heap.objs.size)
    repeat (any_goals (first | assumption | wp_step))
    refine codeAny_mono (codeAny_call_builtin (R := wants (fun r s₂ => r = .none ∧ ∃ h' tk m, s₂ = { s with heap := h', toks := tk } ∧ h'.SetOf (PySem.strKind prog w) s.heap.objs.size (fun k' => decide (k' ∈ xs)) m ∧ SetCount xs xs.length m ∧
        (∀ b o, b < s.heap.objs.size → s.heap.get? b = some o → h'.get? b = some o)) E) PySem.F.called_set.init.plain PySem.F.entry_set_init (check_set_init_1 hT ?_)) fun r₂ s₂ hr₂ => ?_
    · obtain ⟨ol, hol, hcl, nl, hdl⟩ := hl
      obtain ⟨ocls, odict, odata, oslots⟩ := ol
      simp only at hcl hdl
      subst hcl hdl
      have hol' := Heap.get?_push_of_some (newSet led) hol
      have hsls := PySem.F.sub_list_set
      have hslf := PySem.F.sub_list_frozenset
      have hne : (Value.type "list" == Value.type "dict") = false := by decide
      have hl1 : (s.heap.push (newSet led)).IsList l items := ⟨_, hol', rfl, nl, rfl⟩
      unfold Builtin.«set.__init__» noKeywords Builtin.Frozenset.updateFrom
      generalize hPI : pyIter = PI
      wp_walk
      subst hPI
      refine wpAny_pyIter_list hl1 (wpAny_bind (wpAny_runValue ?_))
      have hlS : l < s.heap.objs.size := Heap.lt_size hol
      have hz : (s.heap.push (newSet led)).objs.size = s.heap.objs.size + 1 := Heap.size_push ..
      have hneI : l ≠ (s.heap.push (newSet led)).objs.size := by rw [hz]; exact Nat.ne_of_lt (Nat.lt_succ_of_lt hlS)
      have hSf : s.heap.objs.size ∉ [(s.heap.push (newSet led)).objs.size, l] := by
        rw [hz]
        simp only [List.mem_cons, List.not_mem_nil, or_false, not_or]
        exact ⟨Nat.ne_of_lt (Nat.lt_succ_self _), Nat.ne_of_gt hlS⟩
      refine strs_loop ((Walks.list (by simp [hh]) _ l hneI items).toS) s.heap.objs.size hSf xs hsz (by omega) (fun i v hv => SS.strs_at hi i v (by rw [Array.getElem?_toList]; exact hv)) (items.size - 0) 0 _ (by omega) (Nat.zero_le _)
        ⟨⟨_, Heap.get?_push_size _ rfl, rfl, rfl⟩, hl1.push _⟩ ⟨0, ?_, Nat.le_refl _, fun _ => List.nodup_nil, fun _ => rfl⟩ fun s' m hm hS' hc => ?_
      · have hget := Heap.get?_push_of_some { cls := .type "list_iterator", data := .fields #[.ref l, .int 0 0] } hS
        exact PyProof.Rows.SetOf_congr ((PyProof.Rows.setObjOf_fresh (knd := PySem.strKind prog w) led).setOf hget (by unfold scanBound; omega)) (fun _ => by simp) rfl
      · obtain ⟨h', g', d', tk', os'⟩ := s'
        obtain rfl : g' = s.gens := hm.gens
        obtain rfl : d' = s.drawn := hm.drawn
        obtain rfl : os' = s.os := hm.os
        rw [List.take_of_length_le (Nat.le_of_eq hsz)] at hS'
        rw [← hsz] at hc
        refine wpAny_pure (wpAny_pure ⟨rfl, h', tk', m, rfl, hS', hc, fun b o hb e => ?_⟩)
        refine hm.heap b o ?_ (Heap.get?_push_of_some _ (Heap.get?_push_of_some _ e))
        rw [hz]
        simp only [List.mem_cons, List.not_mem_nil, or_false, not_or]
        exact ⟨Nat.ne_of_lt hb, Nat.ne_of_lt (Nat.lt_succ_of_lt hb)⟩
    · cases r₂ with
      | error e => exact hr₂
      | ok fl₂ =>
        cases fl₂ with
        | ret r =>
          obtain ⟨rfl, h', tk, m, rfl, hS', hc, hk'⟩ := hr₂
          repeat (any_goals (first | assumption | wp_step))
          exact h _ _ _ hS' hc hk'
        | next => exact hr₂.elim
        | brk => exact hr₂.elim
        | cont => exact hr₂.elim
end
/-- len(set(xs)): m, all of them if they differ, else fewer -/
def tLenSetS (K : PySem.W.Frag) (ta : TE) : TE := fun σ H Q => ta σ H fun x H1 => ∃ (l : Addr) (xs : List Str), x = .ref l ∧ SqL K H1 l (xs.map V.str) ∧ xs.length ≤ 4000 ∧ ∀ m : Nat, m ≤ xs.length → (m = xs.length ↔ xs.Nodup) → Q (.int m) H1
theorem pe_lenSetS {X : Cx} {a : Expr} {ta : TE} {p p2 q pos : Pos} (hc : X.calm = true) (hm : X.mg "len" = none) (hm2 : X.mg "set" = none) (ha : PE X a ta) (hg : Gl X "len" := by rfl) (hg2 : Gl X "set" := by rfl)
    (na : starEach [a] X.env = (false, eval a X.env) :: starEach [] X.env := by rfl) : PE X (.Call (.Name "len" p) [.Call (.Name "set" p2) [a] [] q] [] pos) (tLenSetS X.K ta) := by
  refine ⟨fun pins s σ H Q I h => ?_⟩
  refine Call_ (ld_blt I hg hm boot_len (PyProof.Rows.callWith_builtin1 (PyProof.Rows.args_cons (Call_ (ld_blt I hg2 hm2 boot_set ?_)) rfl) rfl rfl))
  refine PyProof.Rows.callWith_type1 (PyProof.Rows.args_cons (thn (ha.run pins s σ H _ I h) fun v s1 ⟨x, H1, I1, r1, q1⟩ => PyProof.Rows.args_nil ?_) na) na rfl
  obtain ⟨l, xs, rfl, hq, hl, q1⟩ := q1
  cases r1
  obtain ⟨its, r, pl, hz⟩ := I1.list hq
  refine set_of_strs (xs := xs) (I1.ok.hd hc) pl.isList (by simpa using strsAre_of r) (by unfold scanBound; omega) fun h' tk m hS hcn hk => ?_
  refine PyProof.Rows.args_nil ?_
  obtain ⟨o, es, ep, t, ho, hex, hd, _, _, _, hf, hn⟩ := hS
  have I2 : Inv X pins σ H1 { s1 with heap := h', toks := tk } := I1.kept fun b o e => hk b o (Heap.lt_size e) e
  have hml := hcn.1
  have hcn2 := hcn.2
  rw [List.take_length] at hcn2
  exact call_len_set ho hex hd hf (by rw [hn]; omega) ⟨.int m, H1, I2.tok _, ⟨_, by rw [hn]⟩, q1 m hml hcn2⟩
end Pm
set_option maxHeartbeats 4000000
namespace Pm
open PySem PySem.Spec PyProof.Rows L2 GxR GX
/-! ### is_program -/
def strsD : List PyData → List Str → Str → List Str
  | .str x :: ds, k :: ks, kind => if k = kind then x :: strsD ds ks kind else strsD ds ks kind
  | _ :: ds, _ :: ks, kind => strsD ds ks kind
  | _, _, _ => []
theorem parts_strs {K : PySem.W.Frag} {H : Hp} {kind : Str} (hk : kind ≠ "value") : ∀ {vs : List V} {ds : List PyData} {ks : List Str}, DpAll K H vs ds → ((ds.zip ks).all fun p => kindD p.1 p.2) = true → partsV vs ks kind = (strsD ds ks kind).map V.str
  | _, _, _, .nil, _ => by simp [partsV, strsD]
  | _, _, [], .cons (d := d) r t, _ => by cases d <;> simp [partsV, strsD]
  | _, _, k :: ks, .cons (v := v) (d := d) (ds := ds) r t, h => by
    have h2 : (kindD d k && (ds.zip ks).all fun p => kindD p.1 p.2) = true := h
    obtain ⟨h3, h4⟩ := Bool.and_eq_true_iff.mp h2
    have ih := parts_strs hk t h4
    by_cases e : k = kind
    · have h5 : nameD d = true := by
        have e0 : kindD d k = nameD d := if_neg (by rw [e]; exact hk)
        rw [← e0]; exact h3
      cases r with
      | str x => simp only [partsV, strsD, if_pos e, List.map_cons, ih]
      | non => cases h5
      | bl b => cases h5
      | int i => cases h5
      | lst _ _ => cases h5
      | tup _ _ => cases h5
    · cases d <;> simp only [partsV, strsD, if_neg e, ih]
def nmD : PyData → Str
  | .tuple (.str n :: _) => n
  | _ => Str.empty
def tgD : PyData → List Str
  | .tuple [_, _, .tuple (.str z :: ds)] => strsD ds ((formsL.lookup z).getD []) "block"
  | _ => []
def progD (d : PyData) : Bool := match d with
  | .tuple bs => (decide (1 ≤ (bs.length : Int)) && decide ((bs.length : Int) ≤ 12)) && (bs.all blockD && (decide (bs.map nmD).Nodup && bs.all fun b => (tgD b).all fun t => decide (t ∈ bs.map nmD)))
  | _ => false
/-- a block by its parts -/
theorem block_parts {K : PySem.W.Frag} {H : Hp} {v : V} {d : PyData} (h : Dp K H v d) (hb : blockD d = true) : ∃ a n p e z rest ds ks, v = .ref a ∧ SqT K H a [.str n, .ref p, .ref e] ∧ nmD d = n ∧ SqT K H e (.str z :: rest) ∧ DpAll K H rest ds ∧ formsL.lookup z = some ks ∧ rest.length = ks.length ∧ tgD d = strsD ds ks "block" ∧
    ((ds.zip ks).all fun p => kindD p.1 p.2) = true ∧ ∃ ss, SqT K H p ss ∧ ss.length ≤ 16 := by
  cases h with
  | non => cases hb
  | bl b => cases hb
  | int i => cases hb
  | str x => cases hb
  | lst _ _ => cases hb
  | @tup a xs ds s1 s2 =>
    have h3 : ds.length = 3 := Classical.byContradiction fun ne => by
      rw [blockD_len ne] at hb
      cases hb
    cases s2 with
    | nil => cases h3
    | @cons n xs nD ds hn s2 =>
    cases s2 with
    | nil => cases h3
    | @cons st xs stD ds hst s2 =>
    cases s2 with
    | nil => cases h3
    | @cons en xs enD ds hen s2 =>
    cases s2 with
    | cons _ _ => cases h3
    | nil =>
    have hb2 : ((nameD nD && hasFormK kindD enD endWords) && stepsD stD) = true := hb
    obtain ⟨hb3, hb4⟩ := Bool.and_eq_true_iff.mp hb2
    obtain ⟨hb5, hb6⟩ := Bool.and_eq_true_iff.mp hb3
    cases hn with
    | non => cases hb5
    | bl b => cases hb5
    | int i => cases hb5
    | lst _ _ => cases hb5
    | tup _ _ => cases hb5
    | str n =>
    cases hst with
    | non => cases hb4
    | bl b => cases hb4
    | int i => cases hb4
    | lst _ _ => cases hb4
    | str _ => cases hb4
    | @tup p ss ssD t1 t2 =>
    have hb7 : (decide (ssD.length ≤ 16) && ssD.all fun s => hasFormK kindD s stepWords) = true := hb4
    have hlen := of_decide_eq_true (Bool.and_eq_true_iff.mp hb7).1
    cases hen with
    | non => cases hb6
    | bl b => cases hb6
    | int i => cases hb6
    | lst _ _ => cases hb6
    | str _ => cases hb6
    | @tup e xs ds u1 u2 =>
    cases u2 with
    | nil => cases hb6
    | @cons x rest xD ds hx hrest =>
    cases hx with
    | non => cases hb6
    | bl b => cases hb6
    | int i => cases hb6
    | lst _ _ => cases hb6
    | tup _ _ => cases hb6
    | str z =>
    have hb8 : (endWords.any (· == z) && (match formsL.lookup z with
      | some ks => decide (ds.length = ks.length) && (ds.zip ks).all fun p => kindD p.1 p.2
      | none => false)) = true := hb6
    obtain ⟨hb9, hb10⟩ := Bool.and_eq_true_iff.mp hb8
    cases hks : formsL.lookup z with
    | none =>
      rw [hks] at hb10
      cases hb10
    | some ks =>
      rw [hks] at hb10
      obtain ⟨hb11, hb12⟩ := Bool.and_eq_true_iff.mp hb10
      have hl9 := of_decide_eq_true hb11
      refine ⟨a, n, p, e, z, rest, ds, ks, rfl, s1, rfl, u1, hrest, hks, (dpAll_length hrest).trans hl9, ?_, hb12, ss, t1, by rw [dpAll_length t2]; exact hlen⟩
      show strsD ds ((formsL.lookup z).getD []) "block" = strsD ds ks "block"
      rw [hks]
      rfl
end Pm
set_option maxHeartbeats 4000000
namespace Pm
open PySem PySem.Spec PyProof.Rows L2 GxR GX
def FlatP (d : PyData) : Prop := ∀ bs, d = .tuple bs → ∀ b ∈ bs, FlatB b
def spIsProgram (c : Ct) : Sp := fun vs H Q _ => ∃ v d, vs = [v] ∧ Dp c.K H v d ∧ FlatP d ∧ Fit 5 d ∧ Tabs c.ts H ∧ ∀ H', Gr H H' → Q (.bl (progD d)) H'
abbrev nIsProgram : List Str := ["thing", "names", "name", "steps", "end", "target", "block"]
theorem sc_is_program : FnScope nIsProgram ["thing"] (defScope s_is_program) := ⟨rfl, rfl, rfl, by decide +kernel, rfl, by decide +kernel, by decide +kernel⟩
theorem inV_str (t : Str) (ns : List Str) : inV (.str t) (ns.map V.str) = decide (t ∈ ns) := by
  unfold inV
  rw [List.any_map, Bool.eq_iff_iff, List.any_eq_true, decide_eq_true_eq]
  constructor
  · rintro ⟨y, hy, e⟩
    have e2 : (y == t) = true := e
    rw [← eq_of_beq e2]; exact hy
  · intro h
    refine ⟨t, h, ?_⟩
    show (t == t) = true
    exact beq_self_eq_true t
theorem ok_is_program {c : Ct} (D : Tf c "is_program" s_is_program) (B : Bl c) (F : Fm c) (hM : ∃ t, c.mg "MOST_BLOCKS" = some (.int 12 t)) (O1 : Ok c "is_block" 7 ["thing"] (spIsBlock c)) (O2 : Ok c "parts_of" 1 ["row", "kind"] (spPartsOf c)) : Ok c "is_program" 9 ["thing"] (spIsProgram c) := by
  obtain ⟨tM, hM⟩ := hM
  refine tf_ok D sc_is_program (fun vs H Q E h => ?_) (fun _ _ _ _ _ _ us hl => match us, hl with | [_], _ => rfl) fun f cd tb A outer s H vs Q E TB hmt hr h => ?_
  · obtain ⟨v, d, rfl, _⟩ := h
    rfl
  · obtain ⟨v, d, rfl, hv, hfl, hfit, hT, q⟩ := h
    refine ⟨_, pss_cons (ps_if (PW.pt (pw_or (pt_not (pt_val (pe_callB call_isi (by rfl) B.isi (by decide +kernel) (pa_cons (pv 0) (pa_cons (pe_bltn (v := .ty "tuple") (by rfl) B.tuple (by decide +kernel) rfl) pa_nil)))))
        (pw_or1 (pt_not (pt_chain op_le op_le pe_int (pe_callB call_len_seq (by rfl) B.len PySem.boot_len (pa_cons (pv 0) pa_nil)) (pe_glob (v := .int 12) (by rfl) hM ⟨_, rfl⟩))))))
        (pss_one (ps_ret pe_bl)) pss_nil)
      (pss_cons (ps_if (pt_not (pt_val (pe_allG (own := [("block", 6)]) (g := gName 6) (tt := tYes) rfl sc_is_program.nd hr (by rfl) B.all TB rfl (gok_by (N := nIsProgram) (sc := defScope s_is_program) (by decide +kernel))
        (pi_tup (pv 0)) (fun _ _ _ _ _ _ _ _ => pg_name (i := 6) sc_is_program.nd rfl (.inl rfl)) (fun _ _ _ _ _ _ _ _ => pts_nil)
        (fun _ _ _ _ _ _ _ _ => pe_f c O1 (room_gen hr _) (pa_cons (pv 6) pa_nil))))) (pss_one (ps_ret pe_bl)) pss_nil)
      (pss_cons (ps_set (i := 1) sc_is_program.nd rfl (.inr rfl) (pe_lc (own := [("name", 2), ("steps", 3), ("end", 4)]) (g := gTup c.K 3 (gCons (gName 2) (gCons (gName 3) (gCons (gName 4) gNil)))) (tt := tYes) rfl sc_is_program.nd (pi_tup (pv 0))
        (blkOk_by (N := nIsProgram) (sc := defScope s_is_program) (by decide +kernel))
        (fun _ _ _ _ _ => pg_tup rfl (pgs_cons (pg_name (i := 2) sc_is_program.nd rfl (.inl rfl)) (pgs_cons (pg_name (i := 3) sc_is_program.nd rfl (.inl rfl)) (pgs_cons (pg_name (i := 4) sc_is_program.nd rfl (.inl rfl)) pgs_nil))))
        (fun _ _ _ _ _ => pts_nil) (fun _ _ _ _ _ => pv 2)))
      (pss_cons (ps_if (pt_cmpR op_ne (pe_lenSetS rfl B.len B.set (pv 1)) (pe_callB call_len_seq (by rfl) B.len PySem.boot_len (pa_cons (pv 1) pa_nil)) (nomark _)) (pss_one (ps_ret pe_bl)) pss_nil)
      (pss_one (ps_ret (pe_allG2 (own := [("name", 2), ("steps", 3), ("end", 4), ("target", 5)]) (vs2 := [5]) (g := gTup c.K 3 (gCons (gName 2) (gCons (gName 3) (gCons (gName 4) gNil)))) (g2 := gName 5) (te := tOp (rIn c.K false) (tVar 5) (tVar 1)) (wi2 := iList c.K (tCall (spPartsOf c) [] E0 (tCons (tVar 4) (tCons (tC (.str "block")) tNil)))) (tt := tYes) (tt2 := tYes) rfl sc_is_program.nd hr (by rfl) B.all TB rfl (gok_by (N := nIsProgram) (sc := defScope s_is_program) (by decide +kernel))
        (pi_tup (pv 0)) (by decide)
        (fun _ _ _ _ _ _ _ _ => pi_list (pe_f c O2 (room_gen (k := 1) (hr.mono (by decide : 2 ≤ 8)) _) (pa_cons (pv 4) (pa_cons pe_str pa_nil))))
        (fun _ _ _ _ _ _ _ _ => pg_name (i := 5) sc_is_program.nd rfl (.inl rfl)) (fun _ _ _ _ _ _ _ _ => pts_nil)
        (fun _ _ _ _ _ _ _ _ => pg_tup rfl (pgs_cons (pg_name (i := 2) sc_is_program.nd rfl (.inl rfl)) (pgs_cons (pg_name (i := 3) sc_is_program.nd rfl (.inl rfl)) (pgs_cons (pg_name (i := 4) sc_is_program.nd rfl (.inl rfl)) pgs_nil))))
        (fun _ _ _ _ _ _ _ _ => pts_nil)
        (fun _ _ _ _ _ _ _ _ => pe_cmpR op_in_seq (pv 5) (pv 1) (by rfl)))))))), ?_⟩
    have kt := kit_dp (K := c.K) d (dp_nodict hv) "tuple" (by simp)
    refine ⟨v, rfl, v, .ty "tuple", .type (tyD d), .type "tuple", _, rfl, .ty _, tyx_dp hv, kt, _, rfl, ?_⟩
    cases hv with
    | bl b => exact q H (.refl H)
    | non => exact q H (.refl H)
    | int i => exact q H (.refl H)
    | str i => exact q H (.refl H)
    | lst s1 s2 => exact q H (.refl H)
    | @tup p xs bs s1 s2 =>
      have hl := dpAll_length s2
      have fb : ∀ b ∈ bs, FlatB b := hfl bs rfl
      have ft : ∀ b ∈ bs, Fit 4 b := hfit.2.1 bs rfl
      have q0 : ∀ H', Gr H H' → Q (.bl ((decide (1 ≤ (bs.length : Int)) && decide ((bs.length : Int) ≤ 12)) && (bs.all blockD && (decide (bs.map nmD).Nodup && bs.all fun b => (tgD b).all fun t => decide (t ∈ bs.map nmD))))) H' := q
      rw [← hl] at q0
      refine ⟨.ref p, rfl, p, xs, rfl, .inr s1, 1, (xs.length : Int), rfl, rfl, _, rfl, ?_⟩
      refine ite2 (fun e1 => ?_) (fun e1 => ?_)
      rotate_left
      · have e3 : decide (1 ≤ (xs.length : Int)) = false := Bool.eq_false_iff.mpr e1
        refine ⟨_, rfl, iteT ?_⟩
        rw [e3] at q0
        exact q0 H (.refl H)
      · refine ⟨(xs.length : Int), 12, rfl, rfl, _, rfl, ?_⟩
        by_cases e2 : decide ((xs.length : Int) ≤ 12) = true
        rotate_left
        · have e3 : decide ((xs.length : Int) ≤ 12) = false := Bool.eq_false_iff.mpr e2
          rw [e3]
          refine iteT ?_
          rw [e1, e3] at q0
          exact q0 H (.refl H)
        · rw [e2]
          refine iteF ?_
          rw [e1, e2, Bool.and_self, Bool.true_and] at q0
          have h12 : xs.length ≤ 12 := by
            have := of_decide_eq_true e2
            omega
          -- all blocks
          refine ⟨.ref p, rfl, p, rfl, ⟨xs, s1⟩, hT tb hmt, fun H1 hTab => ?_⟩
          have g1 : Gr H H1 := .tabbed (hT tb hmt) hTab
          refine all_tup (xs := xs) (fun i H' => Gr H H' ∧ (bs.take i).all blockD = true) ⟨g1, rfl⟩ (fun i H' ⟨hg, _⟩ => hg.sqT s1) (fun i x H' hx ⟨hg, ha⟩ => ?_) fun H2 ⟨g2, ha⟩ => ?_
          · obtain ⟨d1, hd1, hdp⟩ := dpAll_get s2 hx
            have hm1 := List.mem_of_getElem? hd1
            refine ⟨rfl, x, rfl, x, d1, rfl, dp_gr hg hdp, fb d1 hm1, ft d1 hm1, hT.gr hg, fun H4 g4 => ⟨_, rfl, ?_⟩⟩
            cases hb : blockD d1 with
            | false =>
              refine iteT' ⟨_, rfl, iteT ?_⟩
              have e9 : bs.all blockD = false := by
                rw [List.all_eq_false]
                exact ⟨d1, hm1, by rw [hb]; decide⟩
              rw [e9] at q0
              exact q0 H4 (hg.trans g4)
            | true =>
              refine iteF' ⟨hg.trans g4, ?_⟩
              rw [List.take_add_one, hd1, List.all_append, ha]
              simp [hb]
          · rw [List.take_of_length_le (Nat.le_of_eq hl.symm)] at ha
            rw [ha, Bool.true_and] at q0
            have hball : ∀ b ∈ bs, blockD b = true := fun b hb => List.all_eq_true.mp ha b hb
            refine ⟨_, rfl, iteF ?_⟩
            -- names
            refine ⟨.ref p, rfl, p, rfl, ⟨xs, g2.sqT s1⟩, fun D nD => ?_⟩
            refine lc_tup (xs := xs) (fun i H' => Gr H2 H' ∧ H' D = some (.lst (((bs.take i).map nmD).map V.str))) ⟨(Gr.refl _).put nD, upd_same⟩ (fun i H' _ ⟨hg, _⟩ => hg.sqT (g2.sqT s1)) (fun i x H' hx ⟨hg, hD⟩ => ?_) fun H3 ⟨g3, hD⟩ => ?_
            · obtain ⟨d1, hd1, hdp⟩ := dpAll_get s2 hx
              obtain ⟨a1, n1, p1, en1, z1, rest1, ds1, ks1, rfl, sq1, hn1, _⟩ := block_parts (dp_gr (g2.trans hg) hdp) (hball d1 (List.mem_of_getElem? hd1))
              refine ⟨a1, _, rfl, sq1, rfl, .str n1, _, rfl, .ref p1, _, rfl, .ref en1, _, rfl, rfl, rfl, ?_⟩
              refine ⟨.str n1, rfl, _, hD, ?_, hg.put nD, ?_⟩
              · rw [List.length_map, List.length_map, List.length_take]
                exact small1000 (by omega)
              · rw [upd_same, List.take_add_one, hd1]
                simp [hn1]
            · rw [List.take_of_length_le (Nat.le_of_eq hl.symm)] at hD
              have g23 := g2.trans g3
              -- different names
              refine ⟨.ref D, rfl, D, bs.map nmD, rfl, .inl (.inl hD), by rw [List.length_map]; omega, fun m hm hmn => ?_⟩
              refine ⟨.ref D, rfl, D, _, rfl, .inl (.inl (.inl hD)), rfl, _, rfl, ?_⟩
              rw [List.length_map] at hm hmn
              have hmnl : ((List.map V.str (bs.map nmD)).length : Int) = (bs.length : Int) := by rw [List.length_map, List.length_map]
              rw [hmnl]
              refine ite2 (fun e => ?_) fun e => ?_
              · have nd : ¬ (bs.map nmD).Nodup := fun nd => by
                  have e9 : (!decide (V.int (m : Int) = V.int (bs.length : Int))) = true := e
                  rw [decide_eq_true (by rw [hmn.mpr nd])] at e9
                  cases e9
                rw [decide_eq_false nd, Bool.false_and] at q0
                exact q0 H3 g23
              · have nd : (bs.map nmD).Nodup := by
                  refine hmn.mp ?_
                  cases e8 : decide (V.int (m : Int) = V.int (bs.length : Int)) with
                  | true =>
                    have e7 := V.int.inj (of_decide_eq_true e8)
                    omega
                  | false =>
                    exfalso
                    apply e
                    show (!decide (V.int (m : Int) = V.int (bs.length : Int))) = true
                    rw [e8]; rfl
                rw [decide_eq_true nd, Bool.true_and] at q0
                have hT3 := hT.gr g23
                refine ⟨.ref p, rfl, p, rfl, ⟨xs, g23.sqT s1⟩, hT3 tb hmt, fun H4 hTab4 => ?_⟩
                have g4 : Gr H3 H4 := .tabbed (hT3 tb hmt) hTab4
                refine ⟨fun i m H' => m = 4 * (xs.length - i) ∧ i ≤ xs.length ∧ Gr H3 H' ∧ ((bs.take i).all fun b => (tgD b).all fun t => decide (t ∈ bs.map nmD)) = true, ⟨_, rfl, Nat.zero_le _, g4, rfl⟩, ?_⟩
                rintro i m' H5 ⟨rfl, hi, g5, ha5⟩
                by_cases hlt : i < xs.length
                rotate_left
                · obtain rfl : i = xs.length := by omega
                  refine .inl ⟨⟨xs, (g23.trans g5).sqT s1, Nat.le_refl _⟩, ?_⟩
                  rw [List.take_of_length_le (Nat.le_of_eq hl.symm)] at ha5
                  rw [ha5] at q0
                  exact q0 H5 (g23.trans g5)
                · refine .inr ⟨⟨xs, xs[i], (g23.trans g5).sqT s1, List.getElem?_eq_getElem hlt⟩, fun x H6 hy => ?_⟩
                  obtain ⟨rfl, hy⟩ := hy
                  have hx := hy xs ((g23.trans g5).sqT s1)
                  obtain ⟨d1, hd1, hdp⟩ := dpAll_get s2 hx
                  have hm1 := List.mem_of_getElem? hd1
                  obtain ⟨a1, n1, p1, en1, z1, rest1, ds1, ks1, rfl, sq1, hn1, sqe, hda, hks1, hlr, htg, hkk, _⟩ := block_parts (dp_gr (g23.trans g5) hdp) (hball d1 hm1)
                  have hpt : partsV rest1 ks1 "block" = (tgD d1).map V.str := by rw [htg]; exact parts_strs (by decide +kernel) hda hkk
                  have hL : (tgD d1).length ≤ 3 := by
                    have l1 := partsV_length rest1 ks1 "block"
                    have l2 := forms_len hks1
                    rw [hpt, List.length_map] at l1
                    omega
                  refine ⟨a1, _, rfl, sq1, rfl, .str n1, _, rfl, .ref p1, _, rfl, .ref en1, _, rfl, rfl, rfl, ?_⟩
                  refine ⟨.ref en1, rfl, en1, z1, rest1, ks1, "block", rfl, sqe, hks1, hlr, hT.gr (g23.trans g5), fun H7 p7 g7 n7 h7 => ?_⟩
                  rw [hpt] at h7
                  refine ⟨p7, rfl, ⟨_, .inl (.inl h7)⟩, fun i2 m2 H' => m2 = 4 * (xs.length - i) - 1 - i2 ∧ i2 ≤ (tgD d1).length ∧ Gr H7 H' ∧ (((tgD d1).take i2).all fun t => decide (t ∈ bs.map nmD)) = true, ⟨4 * (xs.length - i) - 1, by omega, by omega, Nat.zero_le _, .refl _, rfl⟩, ?_⟩
                  rintro i2 m2 H8 ⟨rfl, hi2, g8, ha8⟩
                  by_cases hlt2 : i2 < (tgD d1).length
                  rotate_left
                  · obtain rfl : i2 = (tgD d1).length := by omega
                    refine .inl ⟨⟨_, .inl (.inl (g8.lst h7)), by rw [List.length_map]; exact Nat.le_refl _⟩, 4 * (xs.length - (i + 1)), by omega, rfl, hlt, (g5.trans g7).trans g8, ?_⟩
                    rw [List.take_length] at ha8
                    rw [List.take_add_one, hd1, List.all_append, ha5]
                    simp only [Option.toList_some, List.all_cons, List.all_nil, Bool.and_true, Bool.true_and]
                    exact ha8
                  · refine .inr ⟨⟨_, .str (tgD d1)[i2], .inl (.inl (g8.lst h7)), by rw [List.getElem?_map, List.getElem?_eq_getElem hlt2]; rfl⟩, fun y H9 hy2 => ?_⟩
                    obtain ⟨rfl, hy2⟩ := hy2
                    have hy3 := hy2 _ (.inl (.inl (g8.lst h7)))
                    rw [List.getElem?_map, List.getElem?_eq_getElem hlt2] at hy3
                    obtain rfl := Option.some.inj hy3
                    have g58 := (g5.trans g7).trans g8
                    refine ⟨rfl, .str (tgD d1)[i2], rfl, .ref D, rfl, D, (bs.map nmD).map V.str, rfl, .inl (.inl (.inl (g58.lst hD))), rfl, flat_words _, _, rfl, ?_⟩
                    show (if inV (.str (tgD d1)[i2]) ((bs.map nmD).map V.str) = false then _ else _)
                    rw [inV_str]
                    cases hb : decide ((tgD d1)[i2] ∈ bs.map nmD) with
                    | false =>
                      refine iteT' ?_
                      have e9 : (bs.all fun b => (tgD b).all fun t => decide (t ∈ bs.map nmD)) = false := by
                        rw [List.all_eq_false]
                        refine ⟨d1, hm1, ?_⟩
                        rw [Bool.not_eq_true, List.all_eq_false]
                        exact ⟨(tgD d1)[i2], List.getElem_mem hlt2, by rw [hb]; decide⟩
                      rw [e9] at q0
                      exact q0 H9 (g23.trans g58)
                    | true =>
                      refine iteF' ⟨4 * (xs.length - i) - 1 - (i2 + 1), by omega, rfl, hlt2, g8, ?_⟩
                      rw [List.take_add_one, List.getElem?_eq_getElem hlt2, List.all_append, ha8]
                      simp only [Option.toList_some, List.all_cons, List.all_nil, Bool.and_true, Bool.true_and]
                      exact hb
end Pm
set_option maxHeartbeats 4000000
namespace Pm
open PySem PySem.Spec PyProof.Rows L2 GxR GX
/-! ### programs as data -/
inductive Stp where
  | set (x : Str) (n : Int) | copy (x y : Str) | sum (w x y z : Str) | get (x : Str) | put (x : Str)
inductive En where
  | go (b : Str) | ite (x b c : Str) | stop
structure Blk where
  name : Str
  steps : List Stp
  en : En
def encS : Stp → PyData
  | .set x n => .tuple [.str "set", .str x, .int n]
  | .copy x y => .tuple [.str "copy", .str x, .str y]
  | .sum w x y z => .tuple [.str w, .str x, .str y, .str z]
  | .get x => .tuple [.str "get", .str x]
  | .put x => .tuple [.str "put", .str x]
def encE : En → PyData
  | .go b => .tuple [.str "go", .str b]
  | .ite x b c => .tuple [.str "if", .str x, .str b, .str c]
  | .stop => .tuple [.str "stop"]
def encB (b : Blk) : PyData := .tuple [.str b.name, .tuple (b.steps.map encS), encE b.en]
def encP (P : List Blk) : PyData := .tuple (P.map encB)
def sumWords : List Str := ["add", "sub", "mul", "less", "same"]
def NameOk (x : Str) : Prop := nameD (.str x) = true
def OkS : Stp → Prop
  | .set x n => NameOk x ∧ 0 ≤ n ∧ n ≤ 9972
  | .copy x y => NameOk x ∧ NameOk y
  | .sum w x y z => w ∈ sumWords ∧ NameOk x ∧ NameOk y ∧ NameOk z
  | .get x => NameOk x
  | .put x => NameOk x
def OkE : En → Prop
  | .go b => NameOk b
  | .ite x b c => NameOk x ∧ NameOk b ∧ NameOk c
  | .stop => True
def goals : En → List Str
  | .go b => [b]
  | .ite _ b c => [b, c]
  | .stop => []
structure OkB (b : Blk) : Prop where
  name : NameOk b.name
  few : b.steps.length ≤ 16
  steps : ∀ s ∈ b.steps, OkS s
  en : OkE b.en
structure OkP (P : List Blk) : Prop where
  one : 1 ≤ P.length
  few : P.length ≤ 12
  blk : ∀ b ∈ P, OkB b
  nd : (P.map (·.name)).Nodup
  go : ∀ b ∈ P, ∀ t ∈ goals b.en, t ∈ P.map (·.name)
theorem nameOk_len {x : Str} (h : NameOk x) : x.length ≤ 3 := by
  have h2 : ((decide (1 ≤ (x.length : Int)) && decide ((x.length : Int) ≤ 3)) && x.cps.toList.all lowB) = true := h
  have := of_decide_eq_true (Bool.and_eq_true_iff.mp (Bool.and_eq_true_iff.mp h2).1).2
  omega
theorem kind_rd {x : Str} (h : NameOk x) : kindD (.str x) "read" = true := (if_neg (by decide +kernel)).trans h
theorem kind_wr {x : Str} (h : NameOk x) : kindD (.str x) "written" = true := (if_neg (by decide +kernel)).trans h
theorem kind_block {x : Str} (h : NameOk x) : kindD (.str x) "block" = true := (if_neg (by decide +kernel)).trans h
theorem kind_value {n : Int} (h0 : 0 ≤ n) (h1 : n ≤ 9972) : kindD (.int n) "value" = true := by
  have e : kindD (.int n) "value" = valueD (.int n) := if_pos rfl
  rw [e]
  show (decide (0 ≤ n) && decide (n ≤ 9972)) = true
  rw [decide_eq_true h0, decide_eq_true h1]
  rfl
theorem look_set : formsL.lookup ("set" : Str) = some (["written", "value"] : List Str) := by decide +kernel
theorem look_copy : formsL.lookup ("copy" : Str) = some (["written", "read"] : List Str) := by decide +kernel
theorem look_get : formsL.lookup ("get" : Str) = some (["written"] : List Str) := by decide +kernel
theorem look_put : formsL.lookup ("put" : Str) = some (["read"] : List Str) := by decide +kernel
theorem look_go : formsL.lookup ("go" : Str) = some (["block"] : List Str) := by decide +kernel
theorem look_if : formsL.lookup ("if" : Str) = some (["read", "block", "block"] : List Str) := by decide +kernel
theorem look_stop : formsL.lookup ("stop" : Str) = some ([] : List Str) := by decide +kernel
theorem look_sum : ∀ w ∈ sumWords, formsL.lookup w = some (["written", "read", "read"] : List Str) ∧ stepWords.any (· == w) = true := by decide +kernel
theorem any_set : stepWords.any (· == ("set" : Str)) = true := by decide +kernel
theorem any_copy : stepWords.any (· == ("copy" : Str)) = true := by decide +kernel
theorem any_get : stepWords.any (· == ("get" : Str)) = true := by decide +kernel
theorem any_put : stepWords.any (· == ("put" : Str)) = true := by decide +kernel
theorem any_go : endWords.any (· == ("go" : Str)) = true := by decide +kernel
theorem any_if : endWords.any (· == ("if" : Str)) = true := by decide +kernel
theorem any_stop : endWords.any (· == ("stop" : Str)) = true := by decide +kernel
theorem hasForm_mk {z : Str} {ds : List PyData} {ws ks : List Str} (h1 : ws.any (· == z) = true) (h2 : formsL.lookup z = some ks) (h3 : ds.length = ks.length) (h4 : ((ds.zip ks).all fun p => kindD p.1 p.2) = true) : hasFormK kindD (.tuple (.str z :: ds)) ws = true := by
  show (ws.any (· == z) && (match formsL.lookup z with
    | some ks => decide (ds.length = ks.length) && (ds.zip ks).all fun p => kindD p.1 p.2
    | none => false)) = true
  rw [h1, h2, Bool.true_and]
  show (decide (ds.length = ks.length) && (ds.zip ks).all fun p => kindD p.1 p.2) = true
  rw [decide_eq_true h3, h4]
  rfl
theorem step_ok {s : Stp} (h : OkS s) : hasFormK kindD (encS s) stepWords = true := by
  cases s with
  | set x n =>
    obtain ⟨h1, h2, h3⟩ := h
    refine hasForm_mk any_set look_set rfl ?_
    simp only [List.zip_cons_cons, List.zip_nil_left, List.all_cons, List.all_nil, kind_rd h1, kind_wr h1, kind_value h2 h3, Bool.and_self]
  | copy x y =>
    obtain ⟨h1, h2⟩ := h
    refine hasForm_mk any_copy look_copy rfl ?_
    simp only [List.zip_cons_cons, List.zip_nil_left, List.all_cons, List.all_nil, kind_rd h1, kind_wr h1, kind_rd h2, kind_wr h2, Bool.and_self]
  | sum w x y z =>
    obtain ⟨h0, h1, h2, h3⟩ := h
    refine hasForm_mk (look_sum w h0).2 (look_sum w h0).1 rfl ?_
    simp only [List.zip_cons_cons, List.zip_nil_left, List.all_cons, List.all_nil, kind_rd h1, kind_wr h1, kind_rd h2, kind_wr h2, kind_rd h3, kind_wr h3, Bool.and_self]
  | get x =>
    refine hasForm_mk any_get look_get rfl ?_
    simp only [List.zip_cons_cons, List.zip_nil_left, List.all_cons, List.all_nil, kind_rd h, kind_wr h, Bool.and_self]
  | put x =>
    refine hasForm_mk any_put look_put rfl ?_
    simp only [List.zip_cons_cons, List.zip_nil_left, List.all_cons, List.all_nil, kind_rd h, kind_wr h, Bool.and_self]
theorem end_ok {e : En} (h : OkE e) : hasFormK kindD (encE e) endWords = true := by
  cases e with
  | go b =>
    refine hasForm_mk any_go look_go rfl ?_
    simp only [List.zip_cons_cons, List.zip_nil_left, List.all_cons, List.all_nil, kind_block h, Bool.and_self]
  | ite x b c =>
    obtain ⟨h1, h2, h3⟩ := h
    refine hasForm_mk any_if look_if rfl ?_
    simp only [List.zip_cons_cons, List.zip_nil_left, List.all_cons, List.all_nil, kind_rd h1, kind_wr h1, kind_block h2, kind_block h3, Bool.and_self]
  | stop => exact hasForm_mk any_stop look_stop rfl rfl
theorem block_ok {b : Blk} (h : OkB b) : blockD (encB b) = true := by
  show ((nameD (.str b.name) && hasFormK kindD (encE b.en) endWords) && (decide ((b.steps.map encS).length ≤ 16) && (b.steps.map encS).all fun s => hasFormK kindD s stepWords)) = true
  rw [show nameD (.str b.name) = true from h.name, end_ok h.en, decide_eq_true (by rw [List.length_map]; exact h.few)]
  simp only [Bool.true_and, List.all_map, List.all_eq_true]
  exact fun s hs => step_ok (h.steps s hs)
theorem tgD_enc (b : Blk) : tgD (encB b) = goals b.en := by
  obtain ⟨n, ss, e⟩ := b
  have k1 : ¬ ("read" : Str) = "block" := by decide +kernel
  cases e with
  | go x =>
    show strsD [.str x] ((formsL.lookup ("go" : Str)).getD []) "block" = [x]
    rw [look_go]
    simp [strsD]
  | ite x y z =>
    show strsD [.str x, .str y, .str z] ((formsL.lookup ("if" : Str)).getD []) "block" = [y, z]
    rw [look_if]
    simp [strsD, k1]
  | stop =>
    show strsD [] ((formsL.lookup ("stop" : Str)).getD []) "block" = []
    rw [look_stop]
    rfl
theorem prog_ok {P : List Blk} (h : OkP P) : progD (encP P) = true := by
  have hn : (P.map encB).map nmD = P.map (·.name) := by
    rw [List.map_map]
    rfl
  show ((decide (1 ≤ ((P.map encB).length : Int)) && decide (((P.map encB).length : Int) ≤ 12)) && ((P.map encB).all blockD && (decide ((P.map encB).map nmD).Nodup && (P.map encB).all fun b => (tgD b).all fun t => decide (t ∈ (P.map encB).map nmD)))) = true
  rw [hn, List.length_map, decide_eq_true (by have := h.one; omega), decide_eq_true (by have := h.few; omega), decide_eq_true h.nd]
  simp only [Bool.and_self, Bool.true_and, Bool.and_eq_true, List.all_map, List.all_eq_true]
  refine ⟨fun b hb => block_ok (h.blk b hb), fun b hb => ?_⟩
  show ((tgD (encB b)).all fun t => decide (t ∈ P.map (·.name))) = true
  rw [tgD_enc, List.all_eq_true]
  exact fun t ht => decide_eq_true (h.go b hb t ht)
/-! ### their texts are short, their first items texts -/
theorem fit_str {n : Nat} {x : Str} (h : x.length ≤ 1000) : Fit n (.str x) := by
  cases n with
  | zero => trivial
  | succ n => exact ⟨fun y e => by cases e; exact Nat.le_of_lt (small1000 h), fun _ e => (nomatch e), fun _ e => (nomatch e)⟩
theorem fit_int {n : Nat} {i : Int} : Fit n (.int i) := by
  cases n with
  | zero => trivial
  | succ n => exact ⟨fun _ e => (nomatch e), fun _ e => (nomatch e), fun _ e => (nomatch e)⟩
theorem fit_tup {n : Nat} {ds : List PyData} (h : ∀ d ∈ ds, Fit n d) : Fit (n + 1) (.tuple ds) := ⟨fun _ e => (nomatch e), fun es e x hx => by cases e; exact h x hx, fun _ e => (nomatch e)⟩
theorem w1 : ∀ w ∈ stepWords ++ endWords ++ sumWords, w.length ≤ 4 := by decide +kernel
theorem short {x : Str} (h : NameOk x) : x.length ≤ 1000 := by have := nameOk_len h; omega
theorem fit_step {s : Stp} (h : OkS s) : Fit 2 (encS s) := by
  have ws : ∀ w ∈ stepWords ++ endWords ++ sumWords, Fit 1 (.str w) := fun w hw => fit_str (by have := w1 w hw; omega)
  cases s with
  | set x n => exact fit_tup (by simp only [List.mem_cons, List.not_mem_nil, or_false]; rintro d (rfl | rfl | rfl); exact ws _ (by decide +kernel); exact fit_str (short h.1); exact fit_int)
  | copy x y => exact fit_tup (by simp only [List.mem_cons, List.not_mem_nil, or_false]; rintro d (rfl | rfl | rfl); exact ws _ (by decide +kernel); exact fit_str (short h.1); exact fit_str (short h.2))
  | sum w x y z => exact fit_tup (by simp only [List.mem_cons, List.not_mem_nil, or_false]; rintro d (rfl | rfl | rfl | rfl); exact ws _ (List.mem_append_right _ h.1); exact fit_str (short h.2.1); exact fit_str (short h.2.2.1); exact fit_str (short h.2.2.2))
  | get x => exact fit_tup (by simp only [List.mem_cons, List.not_mem_nil, or_false]; rintro d (rfl | rfl); exact ws _ (by decide +kernel); exact fit_str (short h))
  | put x => exact fit_tup (by simp only [List.mem_cons, List.not_mem_nil, or_false]; rintro d (rfl | rfl); exact ws _ (by decide +kernel); exact fit_str (short h))
theorem fit_end {e : En} (h : OkE e) : Fit 2 (encE e) := by
  have ws : ∀ w ∈ stepWords ++ endWords ++ sumWords, Fit 1 (.str w) := fun w hw => fit_str (by have := w1 w hw; omega)
  cases e with
  | go b => exact fit_tup (by simp only [List.mem_cons, List.not_mem_nil, or_false]; rintro d (rfl | rfl); exact ws _ (by decide +kernel); exact fit_str (short h))
  | ite x b c => exact fit_tup (by simp only [List.mem_cons, List.not_mem_nil, or_false]; rintro d (rfl | rfl | rfl | rfl); exact ws _ (by decide +kernel); exact fit_str (short h.1); exact fit_str (short h.2.1); exact fit_str (short h.2.2))
  | stop => exact fit_tup (by simp only [List.mem_cons, List.not_mem_nil, or_false]; rintro d rfl; exact ws _ (by decide +kernel))
theorem Fit.up {d : PyData} (h : Fit 2 d) (hd : ∀ ds, d = .tuple ds → ∀ e ∈ ds, flatD e = true) (hl : ∀ ds, d ≠ .list ds) : Fit 3 d := by
  refine ⟨h.1, fun ds e x hx => ?_, fun ds e => absurd e (hl ds)⟩
  have h1 := h.2.1 ds e x hx
  have h2 := hd ds e x hx
  exact ⟨h1.1, ⟨fun es z => (by rw [z] at h2; cases h2), fun es z => (by rw [z] at h2; cases h2)⟩⟩
theorem flat_step (s : Stp) : (∀ ds, encS s = .tuple ds → ∀ e ∈ ds, flatD e = true) ∧ ∀ ds, encS s ≠ .list ds := by
  cases s <;> refine ⟨fun ds e x hx => ?_, fun ds e => nomatch e⟩ <;> (cases e; simp only [List.mem_cons, List.not_mem_nil, or_false] at hx)
  · rcases hx with rfl | rfl | rfl <;> rfl
  · rcases hx with rfl | rfl | rfl <;> rfl
  · rcases hx with rfl | rfl | rfl | rfl <;> rfl
  · rcases hx with rfl | rfl <;> rfl
  · rcases hx with rfl | rfl <;> rfl
theorem flat_end (e : En) : (∀ ds, encE e = .tuple ds → ∀ x ∈ ds, flatD x = true) ∧ ∀ ds, encE e ≠ .list ds := by
  cases e <;> refine ⟨fun ds e x hx => ?_, fun ds e => nomatch e⟩ <;> (cases e; simp only [List.mem_cons, List.not_mem_nil, or_false] at hx)
  · rcases hx with rfl | rfl <;> rfl
  · rcases hx with rfl | rfl | rfl | rfl <;> rfl
  · rw [hx]; rfl
theorem fit_prog {P : List Blk} (h : OkP P) : Fit 5 (encP P) := by
  refine fit_tup fun d hd => ?_
  obtain ⟨b, hb, rfl⟩ := List.mem_map.mp hd
  have ob := h.blk b hb
  refine fit_tup ?_
  simp only [List.mem_cons, List.not_mem_nil, or_false]
  rintro d (rfl | rfl | rfl)
  · exact fit_str (short ob.name)
  · refine fit_tup fun d hd => ?_
    obtain ⟨s, hs, rfl⟩ := List.mem_map.mp hd
    exact fit_step (ob.steps s hs)
  · exact (fit_end ob.en).up (flat_end _).1 (flat_end _).2
theorem flat_prog {P : List Blk} : FlatP (encP P) := by
  intro bs e b hb
  cases e
  obtain ⟨b, _, rfl⟩ := List.mem_map.mp hb
  intro n st en e
  have e2 : ([.str b.name, .tuple (b.steps.map encS), encE b.en] : List PyData) = [n, st, en] := PyData.tuple.inj e
  simp only [List.cons.injEq, and_true] at e2
  obtain ⟨rfl, rfl, rfl⟩ := e2
  refine ⟨fun x ds e3 => (flat_end b.en).1 _ e3 x List.mem_cons_self, fun ss e3 s hs => ?_⟩
  cases e3
  obtain ⟨s, _, rfl⟩ := List.mem_map.mp hs
  exact fun x ds e4 => (flat_step s).1 _ e4 x List.mem_cons_self
end Pm
set_option maxHeartbeats 4000000
namespace Pm
open PySem PySem.Spec PyProof.Rows L2 GxR GX
/-! ### check_program, check_inputs, check_turns: what they let through -/
def spCheckProgram (c : Ct) : Sp := fun vs H Q _ => ∃ v P, vs = [v] ∧ Dp c.K H v (encP P) ∧ OkP P ∧ Tabs c.ts H ∧ ∀ H', Gr H H' → Q .non H'
theorem sc_check_program : FnScope ["thing"] ["thing"] (defScope s_check_program) := ⟨rfl, rfl, rfl, by decide +kernel, rfl, by decide +kernel, by decide +kernel⟩
theorem ok_check_program {c : Ct} (D : Df c "check_program" s_check_program) (O : Ok c "is_program" 9 ["thing"] (spIsProgram c)) : Ok c "check_program" 10 ["thing"] (spCheckProgram c) := by
  refine df_ok D sc_check_program (fun vs H Q E h => ?_) (fun _ _ _ _ _ _ us hl => match us, hl with | [_], _ => rfl) fun f cd A outer s H vs Q E hr h => ?_
  · obtain ⟨v, P, rfl, _⟩ := h
    rfl
  · obtain ⟨v, P, rfl, hv, ok, hT, q⟩ := h
    refine ⟨_, pss_one (ps_if (pt_not (pt_val (pe_f c O hr (pa_cons (pv 0) pa_nil)))) pss_never pss_nil), ?_⟩
    refine ⟨v, rfl, v, encP P, rfl, hv, flat_prog, fit_prog ok, hT, fun H1 g1 => ⟨_, rfl, ?_⟩⟩
    rw [prog_ok ok]
    exact iteF (q H1 g1)
/-! ### sum_of -/
def sumI (w : Str) (i j : Int) : Int := if w = "add" then (i + j) % 9973 else if w = "sub" then (i - j) % 9973 else if w = "mul" then (i * j) % 9973 else if w = "less" then (if i < j then 1 else 0) else (if i = j then 1 else 0)
def spSumOf : Sp := fun vs H Q _ => ∃ w i j, vs = [.str w, .int i, .int j] ∧ (0 ≤ i ∧ i ≤ 9972) ∧ Q (.int (sumI w i j)) H
theorem sc_sum_of : FnScope ["word", "left", "right"] ["word", "left", "right"] (defScope s_sum_of) := ⟨rfl, rfl, rfl, by decide +kernel, rfl, by decide +kernel, by decide +kernel⟩
theorem ok_sum_of {c : Ct} (D : Df c "sum_of" s_sum_of) (hM : ∃ t, c.mg "MODULUS" = some (.int 9973 t)) : Ok c "sum_of" 1 ["word", "left", "right"] spSumOf := by
  obtain ⟨tM, hM⟩ := hM
  refine df_ok D sc_sum_of (fun vs H Q E h => ?_) (fun _ _ _ _ _ _ us hl => match us, hl with | [_, _, _], _ => rfl) fun f cd A outer s H vs Q E hr h => ?_
  · obtain ⟨w, i, j, rfl, _⟩ := h
    rfl
  · obtain ⟨w, i, j, rfl, ⟨i0, i1⟩, q⟩ := h
    refine ⟨_, pss_cons (ps_if (pt_cmpR op_eq (pv 0) pe_str (nomark _)) (pss_one (ps_ret (pe_op op_mod (pe_op op_add (pv 1) (pv 2)) (pe_glob (v := .int 9973) (by rfl) hM ⟨_, rfl⟩)))) pss_nil)
      (pss_cons (ps_if (pt_cmpR op_eq (pv 0) pe_str (nomark _)) (pss_one (ps_ret (pe_op op_mod (pe_op op_sub (pv 1) (pv 2)) (pe_glob (v := .int 9973) (by rfl) hM ⟨_, rfl⟩)))) pss_nil)
      (pss_cons (ps_if (pt_cmpR op_eq (pv 0) pe_str (nomark _)) (pss_one (ps_ret (pe_op op_mod (pe_op op_mul (pv 1) (pv 2)) (pe_glob (v := .int 9973) (by rfl) hM ⟨_, rfl⟩)))) pss_nil)
      (pss_cons (ps_if (pt_cmpR op_eq (pv 0) pe_str (nomark _)) (pss_one (ps_ret (pe_ifExp (pt_cmpR op_lt (pv 1) (pv 2) (nomark _)) pe_int pe_int))) pss_nil)
      (pss_one (ps_ret (pe_ifExp (pt_cmpR op_eq (pv 1) (pv 2) (nomark _)) pe_int pe_int)))))), ?_⟩
    unfold sumI at q
    have sq : ∀ {a b : Str}, decide (V.str a = V.str b) = true → a = b := fun h => V.str.inj (of_decide_eq_true h)
    have sn : ∀ {a b : Str}, ¬ decide (V.str a = V.str b) = true → ¬ a = b := fun h e => h (by rw [e]; exact decide_eq_true rfl)
    refine ⟨.str w, rfl, rfl, _, rfl, ite2 (fun e => ?_) fun e => ?_⟩
    · rw [if_pos (sq e)] at q
      exact ⟨.int i, rfl, .int j, rfl, i, j, rfl, rfl, i + j, 9973, rfl, rfl, by show (0 : Int) < 9973; decide, q⟩
    rw [if_neg (sn e)] at q
    refine ⟨.str w, rfl, rfl, _, rfl, ite2 (fun e => ?_) fun e => ?_⟩
    · rw [if_pos (sq e)] at q
      exact ⟨.int i, rfl, .int j, rfl, i, j, rfl, rfl, i - j, 9973, rfl, rfl, by show (0 : Int) < 9973; decide, q⟩
    rw [if_neg (sn e)] at q
    refine ⟨.str w, rfl, rfl, _, rfl, ite2 (fun e => ?_) fun e => ?_⟩
    · rw [if_pos (sq e)] at q
      exact ⟨.int i, rfl, .int j, rfl, i, j, rfl, rfl, .inl ⟨by omega, by omega⟩, i * j, 9973, rfl, rfl, by show (0 : Int) < 9973; decide, q⟩
    rw [if_neg (sn e)] at q
    refine ⟨.str w, rfl, rfl, _, rfl, ite2 (fun e => ?_) fun e => ?_⟩
    · rw [if_pos (sq e)] at q
      refine ⟨.int i, rfl, .int j, rfl, i, j, rfl, rfl, _, rfl, ite2 (fun e2 => ?_) fun e2 => ?_⟩
      · rw [if_pos (of_decide_eq_true e2)] at q
        exact q
      · rw [if_neg (fun z => e2 (decide_eq_true z))] at q
        exact q
    rw [if_neg (sn e)] at q
    refine ⟨.int i, rfl, .int j, rfl, rfl, _, rfl, ite2 (fun e2 => ?_) fun e2 => ?_⟩
    · rw [if_pos (V.int.inj (of_decide_eq_true e2))] at q
      exact q
    · rw [if_neg (fun z => e2 (by rw [z]; exact decide_eq_true rfl))] at q
      exact q
end Pm
set_option maxHeartbeats 4000000
namespace Pm
open PySem PySem.Spec PyProof.Rows L2 GxR GX
/-! ### rows as values -/
def vD : PyData → V
  | .str x => .str x
  | .int i => .int i
  | .bool b => .bl b
  | _ => .non
theorem dpAll_flat {K : PySem.W.Frag} {H : Hp} : ∀ {xs : List V} {ds : List PyData}, (∀ d ∈ ds, flatD d = true) → DpAll K H xs ds → xs = ds.map vD
  | _, _, _, .nil => rfl
  | _, _, hf, .cons r t => by
    have ih := dpAll_flat (fun d hd => hf d (List.mem_cons_of_mem _ hd)) t
    have h0 := hf _ List.mem_cons_self
    rw [ih]
    cases r with
    | non => rfl
    | bl _ => rfl
    | int _ => rfl
    | str _ => rfl
    | lst _ _ => cases h0
    | tup _ _ => cases h0
theorem dp_tup {K : PySem.W.Frag} {H : Hp} {v : V} {ds : List PyData} (h : Dp K H v (.tuple ds)) : ∃ a xs, v = .ref a ∧ SqT K H a xs ∧ DpAll K H xs ds := by
  cases h with
  | tup s a => exact ⟨_, _, rfl, s, a⟩
theorem dp_flat {K : PySem.W.Frag} {H : Hp} {v : V} {ds : List PyData} (h : Dp K H v (.tuple ds)) (hf : ∀ d ∈ ds, flatD d = true) : ∃ a, v = .ref a ∧ SqT K H a (ds.map vD) := by
  obtain ⟨a, xs, rfl, s, t⟩ := dp_tup h
  rw [dpAll_flat hf t] at s
  exact ⟨a, rfl, s⟩
def rowS : Stp → List V
  | .set x n => [.str "set", .str x, .int n]
  | .copy x y => [.str "copy", .str x, .str y]
  | .sum w x y z => [.str w, .str x, .str y, .str z]
  | .get x => [.str "get", .str x]
  | .put x => [.str "put", .str x]
def rowE : En → List V
  | .go b => [.str "go", .str b]
  | .ite x b c => [.str "if", .str x, .str b, .str c]
  | .stop => [.str "stop"]
theorem step_at {K : PySem.W.Frag} {H : Hp} {v : V} {s : Stp} (h : Dp K H v (encS s)) : ∃ a, v = .ref a ∧ SqT K H a (rowS s) := by
  have hf := flat_step s
  cases s <;> exact dp_flat h (hf.1 _ rfl)
theorem end_at {K : PySem.W.Frag} {H : Hp} {v : V} {e : En} (h : Dp K H v (encE e)) : ∃ a, v = .ref a ∧ SqT K H a (rowE e) := by
  have hf := flat_end e
  cases e <;> exact dp_flat h (hf.1 _ rfl)
def InsOk (ins : List Int) : Prop := ∀ n ∈ ins, 0 ≤ n ∧ n ≤ 9972
theorem dpAll_snoc {K : PySem.W.Frag} {H : Hp} {v : V} {d : PyData} (h : Dp K H v d) : ∀ {xs : List V} {ds : List PyData}, DpAll K H xs ds → DpAll K H (xs ++ [v]) (ds ++ [d])
  | _, _, .nil => .cons h .nil
  | _, _, .cons a t => .cons a (dpAll_snoc h t)
theorem blk_at {K : PySem.W.Frag} {H : Hp} {v : V} {b : Blk} (h : Dp K H v (encB b)) : ∃ a p en xs, v = .ref a ∧ SqT K H a [.str b.name, .ref p, en] ∧ SqT K H p xs ∧ DpAll K H xs (b.steps.map encS) ∧ Dp K H en (encE b.en) := by
  obtain ⟨a, ys, rfl, s, d⟩ := dp_tup h
  cases d with
  | cons d1 d =>
    cases d with
    | cons d2 d =>
      cases d with
      | cons d3 d =>
        cases d
        cases d1
        obtain ⟨p, xs, rfl, sp, dp⟩ := dp_tup d2
        exact ⟨a, p, _, xs, rfl, s, sp, dp, d3⟩
end Pm
set_option maxHeartbeats 4000000
namespace Pm
open PySem PySem.Spec PyProof.Rows L2 GxR GX
variable {c : Ct} {C : Addr}
/-! ### data that compare -/
theorem shaped_ints (ns : List Int) : SeqAt.shaped (.list (ns.map PyData.int)) = true ∧ SeqAt.shaped (.tuple (ns.map PyData.int)) = true := by
  have h : PyData.canLayAll0 (ns.map PyData.int) = true ∧ PyData.depthAll (ns.map PyData.int) ≤ 1 := by
    induction ns with
    | nil => exact ⟨rfl, Nat.zero_le _⟩
    | cons n r ih =>
      refine ⟨?_, ?_⟩
      · show (PyData.canLay0 (.int n) && PyData.canLayAll0 (r.map PyData.int)) = true
        rw [ih.1]; rfl
      · simp only [List.map_cons, PyData.depthAll, PyData.depth]
        omega
  refine ⟨?_, ?_⟩ <;>
  · unfold SeqAt.shaped
    rw [Bool.and_eq_true]
    refine ⟨h.1, decide_eq_true ?_⟩
    simp only [PyData.depth]
    omega
theorem dpAll_ints {K : PySem.W.Frag} {H : Hp} : ∀ ns : List Int, DpAll K H (ns.map V.int) (ns.map PyData.int)
  | [] => .nil
  | n :: r => .cons (.int n) (dpAll_ints r)
/-! ### the law's own defs: drawing -/
structure Bl2 (c : Ct) : Prop extends Bl c where
  max : c.mg "max" = none
  min : c.mg "min" = none
  enumerate : c.mg "enumerate" = none
  dict : c.mg "dict" = none
def ScrAt (c : Ct) (H : Hp) (a : Addr) : Prop := ∃ ss : List Int, SqL c.K H a (ss.map V.int) ∧ ss.length ≤ 63
theorem ScrAt.gr {H H' : Hp} {a : Addr} (h : ScrAt c H a) (g : Gr H H') : ScrAt c H' a := let ⟨ss, s, l⟩ := h; ⟨ss, g.sqL s, l⟩
def spPick (c : Ct) : Sp := fun vs H Q _ => ∃ (a : Addr) (k m : Int), vs = [.ref a, .int k, .int m] ∧ ScrAt c H a ∧ 0 ≤ k ∧ 0 < m ∧ ∀ r H', 0 ≤ r → r < m → Gr H H' → Q (.int r) H'
abbrev nPick : List Str := ["_law_script", "_law_k", "_law_many", "_law_cell", "_law_rest", "_law_turn", "_law_drawn"]
theorem sc_pick : FnScope nPick ["_law_script", "_law_k", "_law_many"] (defScope s_law_pick) := ⟨rfl, rfl, rfl, by decide +kernel, rfl, by decide +kernel, by decide +kernel⟩
theorem ok_pick (D : Df c "_law_pick" s_law_pick) (B : Bl2 c) : Ok c "_law_pick" 1 ["_law_script", "_law_k", "_law_many"] (spPick c) := by
  refine df_ok D sc_pick (fun vs H Q E h => ?_) (fun _ _ _ _ _ _ us hl => match us, hl with | [_, _, _], _ => rfl) fun f cd A outer s H vs Q E hr h => ?_
  · obtain ⟨a, k, m, rfl, _⟩ := h
    rfl
  · obtain ⟨a, k, m, rfl, ⟨ss, hS, hl⟩, k0, m0, q⟩ := h
    have nd := sc_pick.nd
    refine ⟨_, pss_cons (ps_set (i := 3) nd rfl (.inl rfl) (pe_ifExp (pt_cmpR (op_neD hr.units) (pv 0) (pe_lst pa_nil) (nomark _)) (pe_ix ix_list (pv 0) (pe_op op_mod (pv 1) (pe_callB call_len_seq (by rfl) B.len PySem.boot_len (pa_cons (pv 0) pa_nil))) (fun _ _ => rfl)) pe_int))
      (pss_cons (ps_par (i := 4) (j := 5) (by rfl) nd rfl rfl (by decide) rfl rfl (pa_cons (pe_op op_fdivW (pv 3) (pe_op op_pow pe_int pe_int)) (pa_cons (pe_op op_fdivW (pv 1) (pe_callB (call_max2 rfl) (by rfl) B.max (by decide +kernel) (pa_cons (pe_callB call_len_seq (by rfl) B.len PySem.boot_len (pa_cons (pv 0) pa_nil)) (pa_cons pe_int pa_nil)))) pa_nil)) (by rfl))
      (pss_cons (ps_while PassesOwn.never (PW.pt (pw_and (pt_cmpR op_gt (pv 4) pe_int (nomark _)) (pw_and1 (pt_cmpR op_gt (pv 5) pe_int (nomark _))))) (pss_one (ps_par (i := 4) (j := 5) (by rfl) nd rfl rfl (by decide) rfl rfl (pa_cons (pe_op op_fdivW (pv 4) pe_int) (pa_cons (pe_op op_sub (pv 5) pe_int) pa_nil)) (by rfl))))
      (pss_cons (ps_if (pt_cmpR op_gt (pv 4) pe_int (nomark _)) (pss_one (ps_ret (pe_op op_mod (pe_op op_mod (pv 4) pe_int) (pv 2)))) pss_nil)
      (pss_cons (ps_set (i := 6) nd rfl (.inl rfl) (pe_op op_mod (pe_op op_mul (pe_op op_add (pe_op op_mul (pv 3) pe_int) (pe_op op_mul pe_int (pe_op op_add (pv 1) pe_int))) pe_int) pe_int))
      (pss_one (ps_ret (pe_op op_mod (pe_op op_mod (pe_op op_add (pe_op op_mul (pv 6) (pv 6)) (pe_op op_fdiv (pv 6) pe_int)) pe_int) (pv 2)))))))), ?_⟩
    have hDp : ∀ H', Gr H H' → Dp c.K H' (.ref a) (.list (ss.map PyData.int)) := fun H' g => .lst (g.sqL hS) (dpAll_ints ss)
    refine ⟨.ref a, rfl, Nat.zero_le _, fun l nl => ⟨_, _, hDp _ (.new nl), .lst (.inl (.inl upd_same)) .nil, (shaped_ints ss).1, (shaped_ints []).1, _, rfl, ?_⟩⟩
    have g1 : Gr H (upd H l (.lst [])) := .new nl
    generalize upd H l (.lst []) = H1 at g1 ⊢
    have len1 : ((ss.map V.int).length : Int) = ss.length := by rw [List.length_map]
    refine ite2 (fun e => ?_) fun e => ?_
    · have hne : 0 < ss.length := by
        cases ss with
        | nil => cases e
        | cons x r => exact Nat.succ_pos _
      obtain ⟨j, x, hj, hx⟩ : ∃ (j : Nat) (x : Int), k % (ss.length : Int) = j ∧ ss[j]? = some x := by
        have h1 := Int.emod_nonneg k (show (ss.length : Int) ≠ 0 by omega)
        have h2 := Int.emod_lt_of_pos k (show (0 : Int) < ss.length by omega)
        exact ⟨(k % (ss.length : Int)).toNat, ss[(k % (ss.length : Int)).toNat]'(by omega), by omega, List.getElem?_eq_getElem (by omega)⟩
      have hat : atI (ss.map V.int) (k % ((ss.map V.int).length : Int)) = some (.int x) := by
        rw [len1, hj]
        exact atI_nat (by rw [List.getElem?_map, hx]; rfl)
      refine ⟨.ref a, rfl, .int k, rfl, .ref a, rfl, a, _, rfl, .inl (g1.sqL hS), k, _, rfl, rfl, by rw [len1]; omega, a, _, _, _, rfl, rfl, g1.sqL hS, hat, ?_⟩
      refine ⟨.int x, rfl, 10, 18, rfl, rfl, ⟨by decide, by decide, by decide⟩, x, _, rfl, rfl, ⟨by decide, by decide⟩, .int k, rfl, .ref a, rfl, a, _, rfl, .inl (g1.sqL hS), _, 1, rfl, k, _, rfl, rfl, ?_, _, _, rfl, ?_⟩
      · rw [len1]
        split
        · exact ⟨by decide, by decide⟩
        · exact wide_div (b := 10) (by omega) (by omega) (by decide) (by decide)
      · refine ⟨fun n σ H' => ∃ re tn : Int, n = tn.toNat ∧ σ = [some (.ref a), some (.int k), some (.int m), some (.int x), some (.int re), some (.int tn), none] ∧ Gr H H', ⟨_, _, _, rfl, rfl, g1⟩, ?_⟩
        rintro n σ H2 ⟨re, tn, rfl, rfl, g2⟩
        refine ⟨.int re, rfl, re, 0, rfl, rfl, _, rfl, ite2 (fun e1 => ⟨.int tn, rfl, tn, 0, rfl, rfl, _, rfl, ite2 (fun e2 => ?go) fun e2 => ?_⟩) fun e1 => ?_⟩
        case go =>
          refine ⟨fun σ' H' => ∃ re' : Int, σ' = [some (.ref a), some (.int k), some (.int m), some (.int x), some (.int re'), some (.int (tn - 1)), none] ∧ Gr H H', fun σ' H' ⟨re', e, g⟩ => ⟨(tn - 1).toNat, ?_, re', tn - 1, rfl, e, g⟩, ?_⟩
          · have := of_decide_eq_true e2
            omega
          · exact ⟨.int re, rfl, re, 840, rfl, rfl, ⟨by decide, by decide⟩, .int tn, rfl, tn, 1, rfl, rfl, _, _, rfl, _, rfl, g2⟩
        all_goals
          refine ⟨.int re, rfl, re, 0, rfl, rfl, _, rfl, ite2 (fun e3 => ?_) fun e3 => ?_⟩
          · exact ⟨.int re, rfl, re, 840, rfl, rfl, by show (0 : Int) < 840; decide, .int m, rfl, _, m, rfl, rfl, m0, q _ _ (Int.emod_nonneg _ (by omega)) (Int.emod_lt_of_pos _ m0) g2⟩
          · refine ⟨.int x, rfl, x, 31, rfl, rfl, .inr ⟨by decide, by decide⟩, .int k, rfl, k, 1, rfl, rfl, 6151, k + 1, rfl, rfl, .inl ⟨by decide, by decide⟩, _, _, rfl, rfl, _, 40692, rfl, rfl, .inr ⟨by decide, by decide⟩, _, 2147483399, rfl, rfl, by show (0 : Int) < 2147483399; decide, ?_⟩
            have d0 := Int.emod_nonneg ((x * 31 + 6151 * (k + 1)) * 40692) (show (2147483399 : Int) ≠ 0 by decide)
            have d1 := Int.emod_lt_of_pos ((x * 31 + 6151 * (k + 1)) * 40692) (show (0 : Int) < 2147483399 by decide)
            exact ⟨_, rfl, _, rfl, _, _, rfl, rfl, .inl ⟨Int.lt_of_lt_of_le (by decide) d0, Int.lt_trans d1 (by decide)⟩, _, rfl, _, 31, rfl, rfl, ⟨by decide, by decide⟩, _, _, rfl, rfl, _, 2147483629, rfl, rfl, by show (0 : Int) < 2147483629; decide, .int m, rfl, _, m, rfl, rfl, m0, q _ _ (Int.emod_nonneg _ (by omega)) (Int.emod_lt_of_pos _ m0) g2⟩
    · refine ⟨.int (0 : Int), rfl, 10, 18, rfl, rfl, ⟨by decide, by decide, by decide⟩, (0 : Int), _, rfl, rfl, ⟨by decide, by decide⟩, .int k, rfl, .ref a, rfl, a, _, rfl, .inl (g1.sqL hS), _, 1, rfl, k, _, rfl, rfl, ?_, _, _, rfl, ?_⟩
      · rw [len1]
        split
        · exact ⟨by decide, by decide⟩
        · exact wide_div (b := 10) (by omega) (by omega) (by decide) (by decide)
      · refine ⟨fun n σ H' => ∃ re tn : Int, n = tn.toNat ∧ σ = [some (.ref a), some (.int k), some (.int m), some (.int (0 : Int)), some (.int re), some (.int tn), none] ∧ Gr H H', ⟨_, _, _, rfl, rfl, g1⟩, ?_⟩
        rintro n σ H2 ⟨re, tn, rfl, rfl, g2⟩
        refine ⟨.int re, rfl, re, 0, rfl, rfl, _, rfl, ite2 (fun e1 => ⟨.int tn, rfl, tn, 0, rfl, rfl, _, rfl, ite2 (fun e2 => ?go) fun e2 => ?_⟩) fun e1 => ?_⟩
        case go =>
          refine ⟨fun σ' H' => ∃ re' : Int, σ' = [some (.ref a), some (.int k), some (.int m), some (.int (0 : Int)), some (.int re'), some (.int (tn - 1)), none] ∧ Gr H H', fun σ' H' ⟨re', e, g⟩ => ⟨(tn - 1).toNat, ?_, re', tn - 1, rfl, e, g⟩, ?_⟩
          · have := of_decide_eq_true e2
            omega
          · exact ⟨.int re, rfl, re, 840, rfl, rfl, ⟨by decide, by decide⟩, .int tn, rfl, tn, 1, rfl, rfl, _, _, rfl, _, rfl, g2⟩
        all_goals
          refine ⟨.int re, rfl, re, 0, rfl, rfl, _, rfl, ite2 (fun e3 => ?_) fun e3 => ?_⟩
          · exact ⟨.int re, rfl, re, 840, rfl, rfl, by show (0 : Int) < 840; decide, .int m, rfl, _, m, rfl, rfl, m0, q _ _ (Int.emod_nonneg _ (by omega)) (Int.emod_lt_of_pos _ m0) g2⟩
          · refine ⟨.int (0 : Int), rfl, (0 : Int), 31, rfl, rfl, .inr ⟨by decide, by decide⟩, .int k, rfl, k, 1, rfl, rfl, 6151, k + 1, rfl, rfl, .inl ⟨by decide, by decide⟩, _, _, rfl, rfl, _, 40692, rfl, rfl, .inr ⟨by decide, by decide⟩, _, 2147483399, rfl, rfl, by show (0 : Int) < 2147483399; decide, ?_⟩
            have d0 := Int.emod_nonneg (((0 : Int) * 31 + 6151 * (k + 1)) * 40692) (show (2147483399 : Int) ≠ 0 by decide)
            have d1 := Int.emod_lt_of_pos (((0 : Int) * 31 + 6151 * (k + 1)) * 40692) (show (0 : Int) < 2147483399 by decide)
            exact ⟨_, rfl, _, rfl, _, _, rfl, rfl, .inl ⟨Int.lt_of_lt_of_le (by decide) d0, Int.lt_trans d1 (by decide)⟩, _, rfl, _, 31, rfl, rfl, ⟨by decide, by decide⟩, _, _, rfl, rfl, _, 2147483629, rfl, rfl, by show (0 : Int) < 2147483629; decide, .int m, rfl, _, m, rfl, rfl, m0, q _ _ (Int.emod_nonneg _ (by omega)) (Int.emod_lt_of_pos _ m0) g2⟩
end Pm
set_option maxHeartbeats 4000000
namespace Pm
open PySem PySem.Spec PyProof.Rows L2 GxR GX
variable {c : Ct} {C : Addr}
def pl4 : List Str := ["x", "y", "z", "w"]
theorem pl4_name : ∀ x ∈ pl4, NameOk x := by
  have : ∀ x ∈ pl4, nameD (.str x) = true := by decide +kernel
  exact this
def InS : Stp → Prop
  | .set x _ => x ∈ pl4
  | .copy x y => x ∈ pl4 ∧ y ∈ pl4
  | .sum _ x y z => x ∈ pl4 ∧ y ∈ pl4 ∧ z ∈ pl4
  | .get x => x ∈ pl4
  | .put x => x ∈ pl4
theorem xyzw_nat : ∀ n < 4, ∃ d, ("xyzw" : Str).cps.toList[n]? = some d ∧ (⟨#[d]⟩ : Str) ∈ pl4 := by
  intro n hn
  match n, hn with
  | 0, _ => exact ⟨_, rfl, by decide +kernel⟩
  | 1, _ => exact ⟨_, rfl, by decide +kernel⟩
  | 2, _ => exact ⟨_, rfl, by decide +kernel⟩
  | 3, _ => exact ⟨_, rfl, by decide +kernel⟩
theorem xyzw_at {r : Int} (h0 : 0 ≤ r) (h1 : r < 4) : ∃ d, atI ("xyzw" : Str).cps.toList r = some d ∧ (⟨#[d]⟩ : Str) ∈ pl4 := by
  obtain ⟨d, e1, e2⟩ := xyzw_nat r.toNat (by omega)
  refine ⟨d, ?_, e2⟩
  rw [show r = ((r.toNat : Nat) : Int) by omega]
  exact atI_nat e1
theorem atI_of {α : Type} {xs : List α} {r : Int} (h0 : 0 ≤ r) (h1 : r < xs.length) : ∃ x, atI xs r = some x ∧ xs[r.toNat]? = some x := by
  refine ⟨xs[r.toNat]'(by omega), ?_, List.getElem?_eq_getElem (by omega)⟩
  conv => lhs; rw [show r = ((r.toNat : Nat) : Int) by omega]
  exact atI_nat (List.getElem?_eq_getElem (by omega))
theorem xyzw_len : ("xyzw" : Str).length ≤ sizeLine := by decide +kernel
def spStep (c : Ct) : Sp := fun vs H Q _ => ∃ (a : Addr) (k : Int), vs = [.ref a, .int k] ∧ ScrAt c H a ∧ 0 ≤ k ∧ ∀ v H' st, OkS st → InS st → Dp c.K H' v (encS st) → Gr H H' → Q v H'
abbrev nStep : List Str := ["_law_script", "_law_at", "_law_turn", "_law_places", "_law_x", "_law_y", "_law_z", "_law_k"]
theorem sc_step : FnScope nStep ["_law_script", "_law_at"] (defScope s_law_step) := ⟨rfl, rfl, rfl, by decide +kernel, rfl, by decide +kernel, by decide +kernel⟩
abbrev OkPick (c : Ct) : Prop := Ok c "_law_pick" 1 ["_law_script", "_law_k", "_law_many"] (spPick c)
theorem ok_step (D : Df c "_law_step" s_law_step) (B : Bl2 c) (O : OkPick c) : Ok c "_law_step" 2 ["_law_script", "_law_at"] (spStep c) := by
  refine df_ok D sc_step (fun vs H Q E h => ?_) (fun _ _ _ _ _ _ us hl => match us, hl with | [_, _], _ => rfl) fun f cd A outer s H vs Q E hr h => ?_
  · obtain ⟨a, k, rfl, _⟩ := h
    rfl
  · obtain ⟨a, k, rfl, hS, k0, q⟩ := h
    have nd := sc_step.nd
    refine ⟨_, pss_cons (ps_asg (pe_tup (pa_cons (pe_f c O hr (pa_cons (pv 0) (pa_cons (pv 1) (pa_cons pe_int pa_nil)))) (pa_cons pe_str pa_nil))) (pg_tup rfl (pgs_cons (pg_name (i := 2) nd rfl (.inl rfl)) (pgs_cons (pg_name (i := 3) nd rfl (.inr rfl)) pgs_nil))))
      (pss_cons (ps_asg (pe_lc (own := [("_law_k", 7)]) (g := gName 7) (tt := tYes) rfl nd (pi_range1 rfl B.range (pa_cons pe_int pa_nil)) (blkOk_by (N := nStep) (sc := defScope s_law_step) (by decide +kernel)) (fun _ _ _ _ _ => pg_name (i := 7) nd rfl (.inl rfl)) (fun _ _ _ _ _ => pts_nil)
          (fun _ _ _ _ _ => pe_ix ix_str (pv 3) (pe_f c O hr (pa_cons (pv 0) (pa_cons (pe_op op_add (pe_op op_add (pv 1) pe_int) (pv 7)) (pa_cons pe_int pa_nil)))) (fun _ _ => rfl)))
        (pg_lst rfl (pgs_cons (pg_name (i := 4) nd rfl (.inl rfl)) (pgs_cons (pg_name (i := 5) nd rfl (.inl rfl)) (pgs_cons (pg_name (i := 6) nd rfl (.inl rfl)) pgs_nil)))))
      (pss_cons (ps_if (pt_cmpR op_lt (pv 2) pe_int (nomark _)) (pss_one (ps_ret (pe_tup (pa_cons pe_str (pa_cons (pv 4) (pa_cons (pe_ix ix_list (pe_lst (pa_cons pe_int (pa_cons pe_int (pa_cons pe_int (pa_cons pe_int (pa_cons pe_int pa_nil)))))) (pe_f c O hr (pa_cons (pv 0) (pa_cons (pe_op op_add (pv 1) pe_int) (pa_cons pe_int pa_nil)))) (fun _ _ => rfl)) pa_nil)))))) pss_nil)
      (pss_cons (ps_if (pt_cmpR op_lt (pv 2) pe_int (nomark _)) (pss_one (ps_ret (pe_tup (pa_cons pe_str (pa_cons (pv 4) (pa_cons (pv 5) pa_nil)))))) pss_nil)
      (pss_cons (ps_if (pt_cmpR op_eq (pv 2) pe_int (nomark _)) (pss_one (ps_ret (pe_tup (pa_cons pe_str (pa_cons (pv 4) pa_nil))))) pss_nil)
      (pss_cons (ps_if (pt_cmpR op_lt (pv 2) pe_int (nomark _)) (pss_one (ps_ret (pe_tup (pa_cons pe_str (pa_cons (pv 4) pa_nil))))) pss_nil)
      (pss_one (ps_ret (pe_tup (pa_cons (pe_ix ix_list (pe_lst (pa_cons pe_str (pa_cons pe_str (pa_cons pe_str (pa_cons pe_str (pa_cons pe_str (pa_cons pe_str (pa_cons pe_str pa_nil)))))))) (pe_op op_sub (pv 2) pe_int) (fun _ _ => rfl)) (pa_cons (pv 4) (pa_cons (pv 5) (pa_cons (pv 6) pa_nil)))))))))))), ?_⟩
    refine ⟨.ref a, rfl, .int k, rfl, a, k, 16, rfl, hS, k0, by decide, fun r H1 r0 r1 g1 => ⟨by show 2 ≤ sizeLine; decide, fun t nt => ?_⟩⟩
    refine ⟨t, _, rfl, .inl (.inl upd_same), rfl, .int r, _, rfl, .str "xyzw", _, rfl, rfl, ?_⟩
    have g2 : Gr H (upd H1 t (.tup [.int r, .str "xyzw"])) := g1.trans (.new nt)
    generalize upd H1 t (.tup [.int r, .str "xyzw"]) = H2 at g2
    refine ⟨3, rfl, by decide, by decide, fun D nD => ?_⟩
    refine lc_range (lo := 0) (n := 3) (fun i H' => Gr H2 H' ∧ ∃ xs : List Str, H' D = some (.lst (xs.map V.str)) ∧ xs.length = i ∧ ∀ x ∈ xs, x ∈ pl4) ⟨(Gr.refl _).put nD, [], upd_same, rfl, fun x hx => by cases hx⟩ (fun i H' hi ⟨hg, xs, hD, hl, hx⟩ => ?_) fun H3 ⟨g3, xs, hD, hl, hx⟩ => ?_
    · refine ⟨rfl, .str "xyzw", rfl, .ref a, rfl, .int k, rfl, k, 1, rfl, rfl, .int (0 + i), rfl, k + 1, 0 + i, rfl, rfl, a, _, 4, rfl, hS.gr (g2.trans hg), by omega, by decide, fun r' H4 p0 p1 g4 => ?_⟩
      obtain ⟨d, e1, e2⟩ := xyzw_at p0 p1
      refine ⟨_, r', d, rfl, rfl, xyzw_len, e1, _, g4.lst hD, by rw [List.length_map]; exact small1000 (by omega), (hg.trans g4).put nD (.lst (g4.lst hD)), xs ++ [⟨#[d]⟩], ?_, by rw [List.length_append, hl]; rfl, fun x h => ?_⟩
      · rw [upd_same, List.map_append]; rfl
      · rcases List.mem_append.mp h with h | h
        · exact hx x h
        · rw [List.mem_singleton.mp h]; exact e2
    · match xs, hl with
      | [x, y, z], _ =>
      have hxx := hx x (by simp)
      have hy := hx y (by simp)
      have hz := hx z (by simp)
      refine ⟨D, _, rfl, .inl (.inl hD), rfl, .str x, _, rfl, .str y, _, rfl, .str z, _, rfl, rfl, ?_⟩
      have gA : Gr H H3 := g2.trans g3
      refine ⟨.int r, rfl, r, 3, rfl, rfl, _, rfl, ite2 (fun e => ?_) fun e3 => ?_⟩
      · refine ⟨.str x, rfl, by show 5 ≤ sizeLine; decide, fun L nL => ⟨.ref a, rfl, .int k, rfl, k, 4, rfl, rfl, a, k + 4, 5, rfl, hS.gr (gA.trans (.new nL)), by omega, by decide, fun r' H4 p0 p1 g4 => ?_⟩⟩
        obtain ⟨vv, e1, e2⟩ := atI_of (xs := ([0, 1, 2, 5, 9972] : List Int).map V.int) p0 p1
        obtain ⟨n, hn, rfl⟩ : ∃ n : Int, n ∈ ([0, 1, 2, 5, 9972] : List Int) ∧ vv = .int n := by
          rw [List.getElem?_map] at e2
          cases e9 : ([0, 1, 2, 5, 9972] : List Int)[r'.toNat]? with
          | none => rw [e9] at e2; cases e2
          | some n => rw [e9] at e2; exact ⟨n, List.mem_of_getElem? e9, (Option.some.inj e2).symm⟩
        refine ⟨L, _, r', .int n, rfl, rfl, .inl (.inl (g4.lst upd_same)), e1, by show 3 ≤ sizeLine; decide, fun t nt => ?_⟩
        have hv : 0 ≤ n ∧ n ≤ 9972 := by
          have : ∀ n ∈ ([0, 1, 2, 5, 9972] : List Int), 0 ≤ n ∧ n ≤ 9972 := by decide
          exact this n hn
        exact q _ _ (.set x n) ⟨pl4_name x hxx, hv⟩ hxx (.tup (.inl (.inl upd_same)) (.cons (.str _) (.cons (.str _) (.cons (.int _) .nil)))) (((gA.trans (.new nL)).trans g4).trans (.new nt))
      have hr3 : ¬ r < 3 := fun z => e3 (decide_eq_true z)
      refine ⟨.int r, rfl, r, 6, rfl, rfl, _, rfl, ite2 (fun e => ?_) fun e6 => ?_⟩
      · exact ⟨.str x, rfl, .str y, rfl, by show 3 ≤ sizeLine; decide, fun t nt => q _ _ (.copy x y) ⟨pl4_name x hxx, pl4_name y hy⟩ ⟨hxx, hy⟩ (.tup (.inl (.inl upd_same)) (.cons (.str _) (.cons (.str _) (.cons (.str _) .nil)))) (gA.trans (.new nt))⟩
      have hr6 : ¬ r < 6 := fun z => e6 (decide_eq_true z)
      refine ⟨.int r, rfl, rfl, _, rfl, ite2 (fun e => ?_) fun e7 => ?_⟩
      · exact ⟨.str x, rfl, by show 2 ≤ sizeLine; decide, fun t nt => q _ _ (.get x) (pl4_name x hxx) hxx (.tup (.inl (.inl upd_same)) (.cons (.str _) (.cons (.str _) .nil))) (gA.trans (.new nt))⟩
      have hr7 : ¬ r = 6 := fun z => e7 (by rw [z]; exact decide_eq_true rfl)
      refine ⟨.int r, rfl, r, 9, rfl, rfl, _, rfl, ite2 (fun e => ?_) fun e9 => ?_⟩
      · exact ⟨.str x, rfl, by show 2 ≤ sizeLine; decide, fun t nt => q _ _ (.put x) (pl4_name x hxx) hxx (.tup (.inl (.inl upd_same)) (.cons (.str _) (.cons (.str _) .nil))) (gA.trans (.new nt))⟩
      have hr9 : ¬ r < 9 := fun z => e9 (decide_eq_true z)
      obtain ⟨vv, e1, e2⟩ := atI_of (xs := (["add", "sub", "mul", "less", "same", "add", "sub"] : List Str).map V.str) (r := r - 9) (by omega) (by show r - 9 < 7; omega)
      obtain ⟨w, hw, rfl⟩ : ∃ w : Str, w ∈ (["add", "sub", "mul", "less", "same", "add", "sub"] : List Str) ∧ vv = .str w := by
        rw [List.getElem?_map] at e2
        cases e9 : (["add", "sub", "mul", "less", "same", "add", "sub"] : List Str)[(r - 9).toNat]? with
        | none => rw [e9] at e2; cases e2
        | some n => rw [e9] at e2; exact ⟨n, List.mem_of_getElem? e9, (Option.some.inj e2).symm⟩
      have hw2 : w ∈ sumWords := by
        have : ∀ w ∈ (["add", "sub", "mul", "less", "same", "add", "sub"] : List Str), w ∈ sumWords := by decide +kernel
        exact this w hw
      refine ⟨by show 7 ≤ sizeLine; decide, fun L nL => ⟨.int r, rfl, r, 9, rfl, rfl, L, _, r - 9, .str w, rfl, rfl, .inl (.inl upd_same), e1, .str x, rfl, .str y, rfl, .str z, rfl, by show 4 ≤ sizeLine; decide, fun t nt => ?_⟩⟩
      exact q _ _ (.sum w x y z) ⟨hw2, pl4_name x hxx, pl4_name y hy, pl4_name z hz⟩ ⟨hxx, hy, hz⟩ (.tup (.inl (.inl upd_same)) (.cons (.str _) (.cons (.str _) (.cons (.str _) (.cons (.str _) .nil))))) ((gA.trans (.new nL)).trans (.new nt))
end Pm
set_option maxHeartbeats 4000000
namespace Pm
open PySem PySem.Spec PyProof.Rows L2 GxR GX
variable {c : Ct} {C : Addr}
/-! ### lists that are being made -/
def hide (H : Hp) (M : Addr) : Hp := fun b => if b = M then none else H b
theorem hide_ne {H : Hp} {M b : Addr} (h : b ≠ M) : hide H M b = H b := if_neg h
theorem hide_same {H : Hp} {M : Addr} : hide H M M = none := if_pos rfl
theorem hide_to (H : Hp) (M : Addr) : Gr (hide H M) H := fun b o e => by
  by_cases h : b = M
  · rw [h, hide_same] at e; cases e
  · rw [hide_ne h] at e; exact .inl e
theorem goodC_hide {H : Hp} {M : Addr} {cv : Value} (n : NoC H M) (h : GoodC H cv) : GoodC (hide H M) cv := by
  obtain ⟨c, P, qs, rfl, h1, h2, h3⟩ := h
  have n1 : c ≠ M := fun z => by rw [z] at h1; exact (n _ h1).1 _ _ rfl
  have n2 : P ≠ M := fun z => by rw [z] at h2; exact (n _ h2).2 _ rfl
  exact ⟨c, P, qs, rfl, by rw [hide_ne n1]; exact h1, by rw [hide_ne n2]; exact h2, h3⟩
theorem hide_gr {H H' : Hp} {M : Addr} (g : Gr H H') (nc : NoC H' M := by first | exact NoC.lst (by assumption) | exact NoC.free (by assumption) | exact NoC.tup (by assumption) | exact NoC.dK (by assumption) | exact NoC.lst upd_same | exact NoC.tup upd_same | exact NoC.dK upd_same | exact NoC.ins (by assumption) | exact NoC.frz (by assumption)) : Gr (hide H M) (hide H' M) := fun b o e => by
  by_cases h : b = M
  · rw [h, hide_same] at e; cases e
  · rw [hide_ne h] at e ⊢
    rcases g b o e with q | ⟨ps, ps', rfl, q, t, u⟩
    · exact .inl q
    · exact .inr ⟨ps, ps', rfl, q, t, fun pos cv z => (u pos cv z).imp id (goodC_hide nc)⟩
theorem hide_upd {H : Hp} {M : Addr} {o : HO} : hide (upd H M o) M = hide H M := by
  funext b
  by_cases h : b = M
  · rw [h, hide_same, hide_same]
  · rw [hide_ne h, hide_ne h, upd_ne h]
theorem hide_from {H H' : Hp} {M : Addr} (g : Gr H H') (n : H M = none) (nc : NoC H' M := by first | exact NoC.lst (by assumption) | exact NoC.free (by assumption) | exact NoC.tup (by assumption) | exact NoC.dK (by assumption) | exact NoC.lst upd_same | exact NoC.tup upd_same | exact NoC.dK upd_same | exact NoC.ins (by assumption) | exact NoC.frz (by assumption)) : Gr H (hide H' M) := fun b o e => by
  have h : b ≠ M := ne_of_none e n
  rw [hide_ne h]
  rcases g b o e with q | ⟨ps, ps', rfl, q, t, u⟩
  · exact .inl q
  · exact .inr ⟨ps, ps', rfl, q, t, fun pos cv z => (u pos cv z).imp id (goodC_hide nc)⟩
mutual
def noL : PyData → Prop
  | .list _ => False
  | .tuple ds => noLs ds
  | .dict _ => False
  | _ => True
def noLs : List PyData → Prop
  | [] => True
  | d :: ds => noL d ∧ noLs ds
end
theorem noLs_of : ∀ {ds : List PyData}, (∀ d ∈ ds, noL d) → noLs ds
  | [], _ => True.intro
  | d :: ds, h => ⟨h d List.mem_cons_self, noLs_of fun x hx => h x (List.mem_cons_of_mem _ hx)⟩
theorem sqT_hide {K : PySem.W.Frag} {H : Hp} {M a : Addr} {ls xs : List V} (hM : H M = some (.lst ls)) (h : SqT K H a xs) : SqT K (hide H M) a xs := by
  rcases h with (h | ⟨o, h⟩) | h
  · exact .inl (.inl (by rw [hide_ne (ne_of h hM fun z => nomatch z)]; exact h))
  · exact .inl (.inr ⟨o, by rw [hide_ne (ne_of h hM fun z => nomatch z)]; exact h⟩)
  · exact .inr h
mutual
theorem dp_hide {K : PySem.W.Frag} {H : Hp} {M : Addr} {ls : List V} (hM : H M = some (.lst ls)) : ∀ {d : PyData} {v : V}, noL d → Dp K H v d → Dp K (hide H M) v d
  | .none, _, _, h => by cases h; exact .non
  | .bool b, _, _, h => by cases h; exact .bl b
  | .int i, _, _, h => by cases h; exact .int i
  | .str x, _, _, h => by cases h; exact .str x
  | .list ds, _, n, _ => by exact False.elim n
  | .tuple ds, _, n, h => by
    cases h with
    | tup s a => exact .tup (sqT_hide hM s) (dpAll_hide hM n a)
  | .dict _, _, _, h => by cases h
theorem dpAll_hide {K : PySem.W.Frag} {H : Hp} {M : Addr} {ls : List V} (hM : H M = some (.lst ls)) : ∀ {ds : List PyData} {vs : List V}, noLs ds → DpAll K H vs ds → DpAll K (hide H M) vs ds
  | [], _, _, h => by cases h; exact .nil
  | d :: ds, _, n, h => by
    cases h with
    | cons a b => exact .cons (dp_hide hM n.1 a) (dpAll_hide hM n.2 b)
end
theorem noL_S (s : Stp) : noL (encS s) := by
  cases s <;> (refine noLs_of ?_; simp [noL])
theorem noL_E (e : En) : noL (encE e) := by
  cases e <;> (refine noLs_of ?_; simp [noL])
theorem noL_B (b : Blk) : noL (encB b) := by
  refine ⟨True.intro, noLs_of fun d hd => ?_, noL_E _, True.intro⟩
  obtain ⟨s, _, rfl⟩ := List.mem_map.mp hd
  exact noL_S s
end Pm
set_option maxHeartbeats 4000000
/-! for .., .. in enumerate(t), t a tuple. -/
namespace Pm
open PySem PySem.Spec PyProof.Rows L2 GxR GX
/-- enumerate.__new__ of one thing -/
theorem meets_enum1 {v : Value} {o : Obj} {Hh : Heap → Prop} (B : Begins v o Hh) :
    Meets (Builtin.«enumerate.__new__» ⟨[.type "enumerate", v], []⟩) (fun _ R s => Hh s.heap ∧
      R (.ok (.ret (.ref (s.heap.push o).objs.size))) { s with heap := (s.heap.push o).push { cls := .type "enumerate", data := .fields #[.none, .bool false, .ref s.heap.objs.size, rawInt 0, .none, .none] } }) :=
  .of_wp fun prog w A R s h => by
    obtain ⟨hp, g, d, tk, os⟩ := s
    obtain ⟨h1, h⟩ := h
    have hsub := sub_enumerate
    have q1 : ∀ {A' : Around} {E : Value → Shared → Prop} {Q : Value → Shared → Prop}, Q (.ref hp.objs.size) ⟨hp.push o, g, d, tk, os⟩ → wpAny (model prog w) A' (pyIter v) Q E ⟨hp, g, d, tk, os⟩ := fun q => B.iter prog w _ _ ⟨hp, g, d, tk, os⟩ _ h1 q
    wp_walk using q1
    refine wpAny_stack_any fun st => wpAny_pure ?_
    split
    · rename_i c _ _ _ _ _
      cases (c == Value.type "enumerate")
      · wp_walk using q1
        exact ⟨_, rfl, h⟩
      · wp_walk using q1
        exact ⟨_, rfl, h⟩
    · wp_walk using q1
      exact ⟨_, rfl, h⟩
theorem call_enum1 {prog : Program} {w : World} {A : Around} {E : Value → Shared → Prop} {s : Shared} {v : Value} {o : Obj} {Hh : Heap → Prop} {Q : Value → Shared → Prop} (B : Begins v o Hh) (h1 : Hh s.heap)
    (h : ∀ h', IsEnum h' (s.heap.objs.size + 1) s.heap.objs.size 0 .none → h'.get? s.heap.objs.size = some o → (∀ b o, s.heap.get? b = some o → h'.get? b = some o) → Q (.ref (s.heap.objs.size + 1)) { s with heap := h' }) :
    wpAny (model prog w) A (call (.type "enumerate") [v]) Q E s := by
  refine callType_new F.called_enumerate (by decide) (F.typeCall_enumerate_1 _) (F.newCall_enumerate_1 _) (fun obj => F.args_object_init_2 obj _) F.entry_enumerate_new (meets_enum1 B) ⟨h1, ?_⟩
  have hz : (s.heap.push o).objs.size = s.heap.objs.size + 1 := Heap.size_push ..
  show _ ∧ _
  have he := Heap.get?_push_size (s.heap.push o) (o := { cls := .type "enumerate", data := .fields #[.none, .bool false, .ref s.heap.objs.size, rawInt 0, .none, .none] }) rfl
  rw [hz] at he ⊢
  exact ⟨⟨_, he, rfl⟩, h _ he (Heap.get?_push_of_some _ (Heap.get?_push_size _ B.free)) fun b o x => Heap.get?_push_of_some _ (Heap.get?_push_of_some _ x)⟩
/-- the tuple at a, each item in a new pair behind its number -/
def IteT (K : PySem.W.Frag) (a : Addr) : It :=
  ⟨fun i H => ∃ (xs : List V) (x : V), SqT K H a xs ∧ xs[i]? = some x, fun i H v H' => ∃ T x, v = .ref T ∧ H T = none ∧ H' = upd H T (.tup [.int (i : Nat), x]) ∧ ∀ xs, SqT K H a xs → xs[i]? = some x, fun i H => ∃ xs : List V, SqT K H a xs ∧ xs.length ≤ i⟩
theorem turn_enumT {P : Program} {w : World} {K : PySem.W.Frag} {elts : List Expr} {kk : Nat} {tpos : Pos} (a e it : Addr) :
    Turn P w K (.Tuple elts kk tpos) (IteT K a) [e, it] e (fun i h => (∃ old, IsEnum h e it ((i : Nat) : Int) old) ∧ h.IsTupleIter it a i ∧ e ≠ it) where
  mem := by simp
  obj := fun i h st b hb => by
    obtain ⟨⟨old, he⟩, ⟨o, ho, hc, hd⟩, _⟩ := st
    rcases (show b = e ∨ b = it by simpa using hb) with rfl | rfl
    · exact ⟨_, he, fun v q => nomatch q⟩
    · exact ⟨o, ho, fun v q => by rw [hd] at q; cases q⟩
  keep := fun i h h' st k => let ⟨⟨old, he⟩, hi, hne⟩ := st; ⟨⟨old, k e (by simp) _ he⟩, hi.at fun o q => k it (by simp) o q, hne⟩
  item := by
    intro X hP hw hK hc i pins s σ H E I hf st hg
    subst hP hw hK
    obtain ⟨⟨old, he⟩, hit, hne⟩ := st
    obtain ⟨xs, x, hq, hx⟩ := hg
    obtain ⟨its, rv, p, hz⟩ := I.tuple hq
    obtain ⟨u, hu, ru⟩ := rv.get hx
    have hel : e < s.heap.objs.size := Heap.lt_size he
    have hil : it < s.heap.objs.size := by obtain ⟨_, q, _⟩ := hit; exact Heap.lt_size q
    have n1 : e ≠ a := fun z => by
      obtain ⟨o, ho, hcl, _⟩ := p
      rw [← z, he] at ho
      cases ho
      exact absurd (show Value.type "enumerate" = Value.type "tuple" from hcl) (by decide)
    have n2 : a ≠ it := fun z => by
      obtain ⟨o, ho, hcl, _⟩ := p
      obtain ⟨o2, ho2, hcl2, _⟩ := hit
      rw [z, ho2] at ho
      cases ho
      rw [hcl2] at hcl
      exact absurd hcl (by decide)
    have hu2 : its.toArray[i]? = some u := by simpa using hu
    have hlt : i < its.toArray.size := (Array.getElem?_eq_some_iff.mp hu2).1
    refine wpAny_pyNext_enum_itemD (Draws.tuple (A := X.A.in1) (I.ok.hd hc) it a n2 its.toArray) he ⟨hit, p⟩ hlt hne (by simp [hne, n1]) fun x' h' tk hx' ho hst hT hsz hk => ?_
    rw [hu2] at hx'
    obtain rfl := Option.some.inj hx'
    refine ⟨_, rfl, wpAny_letOwnedTupleGo_enum (s := { s with heap := h', toks := tk + 1 }) ho fun h'' he' sb => ?_⟩
    have hT2 : h''.get? s.heap.objs.size = some { cls := .type "tuple", data := .seq #[.int i tk, u] } := (sb.2 _ (Nat.ne_of_gt hel)).trans hT
    have new : ObjOk X.prog X.w (upd H s.heap.objs.size (.tup [.int (i : Nat), x])) h'' s.heap.objs.size (.tup [.int (i : Nat), x]) :=
      ⟨by show 2 ≤ sizeLine; decide, [.int i tk, u], .cons ⟨_, rfl⟩ (.cons ru .nil), ⟨_, hT2, rfl, _, rfl⟩⟩
    have I1 : Inv X pins σ (upd H s.heap.objs.size (.tup [.int (i : Nat), x])) { s with heap := h'', toks := tk + 1 } :=
      I.turnedNew (ch := [e, it]) (fun b ob hb q => (sb.2 b (fun z => hb (by simp [z]))).trans (hk b ob (fun z => hb (by simp [z])) (fun z => hb (by simp [z])) q)) hf (Nat.le_refl _) new
    refine ⟨.ref s.heap.objs.size, _, I1, rfl, ⟨_, x, rfl, I.hok.fresh (Nat.le_refl _), rfl, fun ys hy => by rw [I.tuple_inj hy hq]; exact hx⟩, ⟨⟨u, ?_⟩, hst.1.at fun o q => (sb.2 it (Ne.symm hne)).trans q, hne⟩, fun b hb => ?_⟩
    · have e1 : ((i + 1 : Nat) : Int) = (i : Int) + 1 := by omega
      rw [e1]; exact he'
    · have hb' : b < s.heap.objs.size := by
        rcases (show b = e ∨ b = it by simpa using hb) with rfl | rfl
        · exact hel
        · exact hil
      rw [upd_ne (Nat.ne_of_lt hb')]
      exact (hf b hb).1
  done := by
    intro X hP hw hK hc i pins s σ H E I hf st hg
    subst hP hw hK
    obtain ⟨⟨old, he⟩, hit, hne⟩ := st
    obtain ⟨xs, hq, hx⟩ := hg
    obtain ⟨its, rv, p, hz⟩ := I.tuple hq
    obtain ⟨f0, f1, f2, f3, f4, f5⟩ := hf it (by simp)
    have hl := rv.length
    have hT : s.TypeIs (.ref e) "enumerate" := ⟨_, he, rfl⟩
    unfold pyNext
    refine wpAny_bind (wpAny_attempt (wpAny_callSpecial?_slot (name := Str.ofString "__next__") hT F.slot_enumerate_next
      (wpAny_call_entry F.slot_enumerate_next hT F.entry_enumerate_next ?_ (F.args_enumerate_next_1 _))))
    show wpAny _ _ (field (.ref e) 2 >>= _) _ _ _
    refine wpAny_bind (wpAny_field he rfl (x := .ref it) rfl ?_)
    refine wpAny_bind (wpAny_nextOf_tuple_end (I.ok.hd hc) hit p (by simp; omega) fun h' x he' hx' => ?_)
    obtain ⟨o, ho, hcl⟩ := hx'
    refine wpAny_bind (wpAny_isInstance (T := "StopIteration") (b := true) ⟨o, ho, hcl⟩ isSubtype_stop ?_)
    exact wpAny_pure ⟨rfl, I.turned (t' := s.toks) (fun b o hb q => he' b o hb q) f0 f1 f3 f4 f5⟩
  self := fun A i s Q E st h => let ⟨⟨_, he⟩, _⟩ := st; wpAny_pyIter_enum he h
def iEnumT (K : PySem.W.Frag) (ta : TA) : TI := fun σ H R => ta σ H fun vs H1 => ∃ a xs, vs = [.ref a] ∧ SqT K H1 a xs ∧ R (IteT K a) H1
theorem pi_enumT {X : Cx} {e : Expr} {ta : TA} {p pos tpos : Pos} {elts : List Expr} {kk : Nat} (hg : Gl X "enumerate") (hm : X.mg "enumerate" = none) (ha : PA X [e] ta) (hs : starEach [e] X.env = [(false, eval e X.env)] := by rfl) :
    PI X (.Tuple elts kk tpos) (.Call (.Name "enumerate" p) [e] [] pos) (iEnumT X.K ta) := by
  refine ⟨fun pins s σ H R I h => ?_⟩
  refine Call_ (ld_blt I hg hm boot_enumerate (PyProof.Rows.callWith_type1 (thn (ha.run pos pins s σ H _ I h) fun us s1 ⟨vs, H1, I1, r1, q1⟩ => ?_) hs rfl))
  obtain ⟨a, xs, rfl, hq, q⟩ := q1
  cases r1 with
  | cons r rr =>
    cases rr
    cases r
    obtain ⟨its, rv, p', hz⟩ := I1.tuple hq
    refine call_enum1 (begins_tuple a its.toArray) p' fun h' he ho hk => wpAny_pyIter_enum he ?_
    have I2 : Inv X pins σ H1 { s1 with heap := h' } := I1.kept (t' := s1.toks) hk
    refine ⟨s1.heap.objs.size + 1, [s1.heap.objs.size + 1, s1.heap.objs.size], _, _, H1, rfl, I2, turn_enumT a (s1.heap.objs.size + 1) s1.heap.objs.size, ⟨⟨.none, he⟩, ⟨_, ho, rfl, rfl⟩, Nat.succ_ne_self _⟩, fun b hb => ?_, q⟩
    have hle : s1.heap.objs.size ≤ b := by
      rcases (show b = s1.heap.objs.size + 1 ∨ b = s1.heap.objs.size by simpa using hb) with z | z
      · rw [z]; exact Nat.le_add_right _ _
      · rw [z]; exact Nat.le_refl _
    exact I1.fpOk hle (I1.hok.fresh hle)
/-- the loop over such pairs, the tuple staying -/
theorem for_enumT {K : PySem.W.Frag} {a : Addr} {xs : List V} {g : TG} {tb : TS} {D : Ends} {σ : L2.St} {H : Hp} (Pv : Nat → L2.St → Hp → Prop) (h0 : Pv 0 σ H) (hl : ∀ i σ H, i ≤ xs.length → Pv i σ H → SqT K H a xs)
    (hs : ∀ i x σ T H, xs[i]? = some x → Pv i σ H → H T = none → g (.ref T) σ (upd H T (.tup [.int (i : Nat), x])) fun σ2 H2 => tb { D with nx := Pv (i + 1), ct := Pv (i + 1), bk := D.nx } σ2 H2) (hd : ∀ σ H, Pv xs.length σ H → D.nx σ H) :
    ∃ W : Nat → Nat → L2.St → Hp → Prop, (∃ m, W 0 m σ H) ∧ ∀ i m σ H, W i m σ H →
      ((IteT K a).stop i H ∧ D.nx σ H) ∨ ((IteT K a).go i H ∧ ∃ N : L2.St → Hp → Prop, (∀ σ' H', N σ' H' → ∃ m', m' < m ∧ W (i + 1) m' σ' H') ∧ ∀ x H', (IteT K a).yld i H x H' → g x σ H' fun σ2 H2 => tb { D with nx := N, ct := N, bk := D.nx } σ2 H2) := by
  refine ⟨fun i m σ H => m = xs.length - i ∧ i ≤ xs.length ∧ Pv i σ H, ⟨xs.length, by simp, Nat.zero_le _, h0⟩, ?_⟩
  rintro i m σ H ⟨rfl, hi, p⟩
  have q := hl i σ H hi p
  by_cases hlt : i < xs.length
  · refine .inr ⟨⟨xs, xs[i], q, by simp [hlt]⟩, Pv (i + 1), fun σ' H' p' => ⟨xs.length - (i + 1), by omega, rfl, hlt, p'⟩, fun v H' y => ?_⟩
    obtain ⟨T, x, rfl, nT, rfl, hx⟩ := y
    exact hs i x σ T H (hx xs q) p nT
  · have e : i = xs.length := by omega
    subst e
    exact .inl ⟨⟨xs, q, Nat.le_refl _⟩, hd σ H p⟩
end Pm
set_option maxHeartbeats 4000000
namespace Pm
open PySem PySem.Spec PyProof.Rows L2 GxR GX
variable {c : Ct} {C : Addr}
def nm6 : List Str := ["a", "b", "c", "d", "e", "f"]
theorem nm6_name : ∀ x ∈ nm6, NameOk x := by
  have : ∀ x ∈ nm6, nameD (.str x) = true := by decide +kernel
  exact this
theorem abc_nat : ∀ n < 6, ∃ d, ("abcdef" : Str).cps.toList[n]? = some d ∧ nm6[n]? = some (⟨#[d]⟩ : Str) := by
  intro n hn
  match n, hn with
  | 0, _ => exact ⟨_, rfl, by decide +kernel⟩
  | 1, _ => exact ⟨_, rfl, by decide +kernel⟩
  | 2, _ => exact ⟨_, rfl, by decide +kernel⟩
  | 3, _ => exact ⟨_, rfl, by decide +kernel⟩
  | 4, _ => exact ⟨_, rfl, by decide +kernel⟩
  | 5, _ => exact ⟨_, rfl, by decide +kernel⟩
theorem abc_at {r : Int} (h0 : 0 ≤ r) (h1 : r < 6) : ∃ d, atI ("abcdef" : Str).cps.toList r = some d ∧ nm6[r.toNat]? = some (⟨#[d]⟩ : Str) := by
  obtain ⟨d, e1, e2⟩ := abc_nat r.toNat (by omega)
  refine ⟨d, ?_, e2⟩
  conv => lhs; rw [show r = ((r.toNat : Nat) : Int) by omega]
  exact atI_nat e1
theorem abc_len : ("abcdef" : Str).length ≤ sizeLine := by decide +kernel
def InE : En → Prop
  | .ite x _ _ => x ∈ pl4
  | _ => True
/-- a drawn block: at most n steps, many blocks there -/
structure GenB (n many : Nat) (b : Blk) : Prop where
  few : b.steps.length ≤ n
  ok : ∀ s ∈ b.steps, OkS s
  ins : ∀ s ∈ b.steps, InS s
  oke : OkE b.en
  ine : InE b.en
  go : ∀ t ∈ goals b.en, t ∈ nm6.take many
structure GenP (n : Nat) (P : List Blk) : Prop where
  ex : ∃ many, 1 ≤ many ∧ many ≤ 6 ∧ P.map (·.name) = nm6.take many ∧ ∀ b ∈ P, GenB n many b
theorem GenP.okP {n : Nat} {P : List Blk} (h : GenP n P) (hn : n ≤ 16) : OkP P := by
  obtain ⟨many, h1, h6, hm, hb⟩ := h.ex
  have hl : P.length = many := by
    have := congrArg List.length hm
    rw [List.length_map, List.length_take] at this
    have e : nm6.length = 6 := rfl
    omega
  refine ⟨by omega, by omega, fun b hbP => ?_, ?_, fun b hbP t ht => ?_⟩
  · have g := hb b hbP
    have hnm : b.name ∈ nm6 := List.mem_of_mem_take (hm ▸ List.mem_map_of_mem (f := Blk.name) hbP)
    exact ⟨nm6_name _ hnm, Nat.le_trans g.few hn, g.ok, g.oke⟩
  · rw [hm]
    exact List.Nodup.sublist (List.take_sublist _ _) (by decide +kernel)
  · rw [hm]
    exact (hb b hbP).go t ht
theorem bridge {t : TE} {σ : L2.St} {H : Hp} {Q : VK} (G : V → Hp → Prop) (h1 : ∀ Q' : VK, (∀ v H', G v H' → Q' v H') → t σ H Q') (h2 : ∀ v H', G v H' → Q v H') : t σ H Q := h1 Q h2
theorem bridgeS {t : TS} {σ : L2.St} {H : Hp} {D : Ends} (G : L2.St → Hp → Prop) (h1 : ∀ D' : Ends, (∀ σ' H', G σ' H' → D'.nx σ' H') → t D' σ H) (h2 : ∀ σ' H', G σ' H' → D.nx σ' H') : t D σ H := h1 D h2
def GoodE (many : Nat) (e : En) : Prop := OkE e ∧ InE e ∧ ∀ t ∈ goals e, t ∈ nm6.take many
theorem encE_at {K : PySem.W.Frag} {H : Hp} {a : Addr} {e : En} (h : H a = some (.tup (rowE e))) : Dp K H (.ref a) (encE e) := by
  cases e with
  | go b => exact .tup (.inl (.inl h)) (.cons (.str _) (.cons (.str _) .nil))
  | ite x b c => exact .tup (.inl (.inl h)) (.cons (.str _) (.cons (.str _) (.cons (.str _) (.cons (.str _) .nil))))
  | stop => exact .tup (.inl (.inl h)) (.cons (.str _) .nil)
def spProgram (c : Ct) : Sp := fun vs H Q _ => ∃ (a : Addr) (k : Int), vs = [.ref a, .int k] ∧ ScrAt c H a ∧ 0 ≤ k ∧ ∀ v H' P, GenP 5 P → Dp c.K H' v (encP P) → Gr H H' → Q v H'
abbrev nProg : List Str := ["_law_script", "_law_at", "_law_many", "_law_made", "_law_k", "_law_here", "_law_steps", "_law_turn", "_law_go", "_law_end", "_law_j"]
theorem sc_program : FnScope nProg ["_law_script", "_law_at"] (defScope s_law_program) := ⟨rfl, rfl, rfl, by decide +kernel, rfl, by decide +kernel, by decide +kernel⟩
set_option maxHeartbeats 8000000 in
theorem ok_program (D : Df c "_law_program" s_law_program) (B : Bl2 c) (O : OkPick c) (O2 : Ok c "_law_step" 2 ["_law_script", "_law_at"] (spStep c)) : Ok c "_law_program" 3 ["_law_script", "_law_at"] (spProgram c) := by
  refine df_ok D sc_program (fun vs H Q E h => ?_) (fun _ _ _ _ _ _ us hl => match us, hl with | [_, _], _ => rfl) fun f cd A outer s H vs Q E hr h => ?_
  · obtain ⟨a, k, rfl, _⟩ := h
    rfl
  · obtain ⟨a, k, rfl, hS, k0, q⟩ := h
    have nd := sc_program.nd
    have hr1 : Room 1 _ := hr.mono (by decide)
    refine ⟨_, pss_cons (ps_set (i := 2) nd rfl (.inr rfl) (pe_op op_add pe_int (pe_f c O hr1 (pa_cons (pv 0) (pa_cons (pv 1) (pa_cons pe_int pa_nil))))))
      (pss_cons (ps_set (i := 3) nd rfl (.inl rfl) (pe_lst pa_nil))
      (pss_cons (ps_for PassesOwn.never rfl (pi_range1 rfl B.range (pa_cons (pv 2) pa_nil)) (pg_name (i := 4) nd rfl (.inl rfl))
        (pss_cons (ps_set (i := 5) nd rfl (.inr rfl) (pe_op op_add (pe_op op_add (pv 1) pe_int) (pe_op op_mul pe_int (pv 4))))
        (pss_cons (ps_set (i := 6) nd rfl (.inl rfl) (pe_callTy call_tuple_of (by rfl) B.tuple (by decide +kernel) (pa_cons (pe_lc (own := [("_law_j", 10)]) (g := gName 10) (tt := tYes) rfl nd
            (pi_range1 rfl B.range (pa_cons (pe_f c O hr1 (pa_cons (pv 0) (pa_cons (pv 5) (pa_cons pe_int pa_nil)))) pa_nil)) (blkOk_by (N := nProg) (sc := defScope s_law_program) (by decide +kernel)) (fun _ _ _ _ _ => pg_name (i := 10) nd rfl (.inl rfl)) (fun _ _ _ _ _ => pts_nil)
            (fun _ _ _ _ _ => pe_f c O2 hr (pa_cons (pv 0) (pa_cons (pe_op op_add (pe_op op_add (pv 5) pe_int) (pe_op op_mul pe_int (pv 10))) pa_nil)))) pa_nil)))
        (pss_cons (ps_set (i := 7) nd rfl (.inl rfl) (pe_f c O hr1 (pa_cons (pv 0) (pa_cons (pe_op op_add (pv 5) pe_int) (pa_cons pe_int pa_nil)))))
        (pss_cons (ps_setLc (i := 8) (own := [("_law_j", 10)]) (g := gName 10) (tt := tYes) rfl nd rfl rfl (sw_true rfl rfl rfl (by decide +kernel)) (pi_range1 rfl B.range (pa_cons pe_int pa_nil)) (blkOk_by (N := nProg) (sc := defScope s_law_program) (by decide +kernel)) (fun _ _ _ _ _ => pg_name (i := 10) nd rfl (.inl rfl)) (fun _ _ _ _ _ => pts_nil)
            (fun _ _ _ _ _ => pe_ix ix_str pe_str (pe_f c O hr1 (pa_cons (pv 0) (pa_cons (pe_op op_add (pe_op op_add (pv 5) pe_int) (pv 10)) (pa_cons (pv 2) pa_nil)))) (fun _ _ => rfl)))
        (pss_cons (ps_set (i := 9) nd rfl (.inl rfl) (pe_ifExp (PW.pt (pw_or (pt_cmpR op_eq (pv 7) pe_int (nomark _)) (pw_or1 (PW.pt (pw_and (pt_cmpR op_eq (pv 4) (pe_op op_sub (pv 2) pe_int) (nomark _)) (pw_and1 (pt_cmpR op_lt (pv 7) pe_int (nomark _)))))))) (pe_tup (pa_cons pe_str pa_nil)) (pe_tup (pa_cons pe_str (pa_cons (pe_ix ix_list (pv 8) pe_int (fun _ _ => rfl)) pa_nil)))))
        (pss_cons (ps_if (pt_cmpR op_gt (pv 7) pe_int (nomark _)) (pss_one (ps_set (i := 9) nd rfl (.inl rfl) (pe_tup (pa_cons pe_str (pa_cons (pe_ix ix_str pe_str (pe_f c O hr1 (pa_cons (pv 0) (pa_cons (pe_op op_add (pv 5) pe_int) (pa_cons pe_int pa_nil)))) (fun _ _ => rfl)) (pa_cons (pe_ix ix_list (pv 8) pe_int (fun _ _ => rfl)) (pa_cons (pe_ix ix_list (pv 8) pe_int (fun _ _ => rfl)) pa_nil))))))) pss_nil)
        (pss_one (ps_expr (pe_bm PySem.F.plainAttrs_list PySem.F.slot_list_append PySem.F.type_list_append mt_append (pv 3) (pa_cons (pe_tup (pa_cons (pe_ix ix_str pe_str (pv 4) (fun _ _ => rfl)) (pa_cons (pv 6) (pa_cons (pv 9) pa_nil)))) pa_nil))))))))))
      ) (pss_one (ps_ret (pe_callTy call_tuple_of (by rfl) B.tuple (by decide +kernel) (pa_cons (pv 3) pa_nil)))))), ?_⟩
    refine ⟨.ref a, rfl, .int k, rfl, a, k, 6, rfl, hS, k0, by decide, fun r H1 r0 r1 g1 => ⟨1, r, rfl, rfl, ?_⟩⟩
    refine ⟨Nat.zero_le _, fun M nM => ?_⟩
    refine ⟨.int (1 + r), rfl, 1 + r, rfl, by omega, by omega, ?_⟩
    obtain ⟨mn, hmn⟩ : ∃ mn : Nat, (1 + r).toNat = mn := ⟨_, rfl⟩
    have hm6 : mn ≤ 6 := by omega
    rw [hmn]
    have l6 : nm6.length = 6 := rfl
    have g0M : Gr H1 (upd H1 M (.lst [])) := (Gr.refl _).put nM
    refine for_range (n := mn) (fun i σ H' => ∃ kv hv sv tv gv ev, σ = [some (.ref a), some (.int k), some (.int (1 + r)), some (.ref M), kv, hv, sv, tv, gv, ev, none] ∧ Gr H1 H' ∧ ∃ vs, ∃ bs : List Blk, H' M = some (.lst vs) ∧ DpAll c.K (hide H' M) vs (bs.map encB) ∧ bs.map Blk.name = nm6.take i ∧ ∀ b ∈ bs, GenB 5 mn b)
      ⟨none, none, none, none, none, none, rfl, g0M, [], [], upd_same, .nil, rfl, fun b hb => by cases hb⟩ (fun i σ H2 hi hPv => ?_) fun σ H2 hPv => ?_
    · obtain ⟨kv, hv, sv, tv, gv, ev, rfl, g2, vs, bs, hM2, hd2, hn2, hb2⟩ := hPv
      have lbs : bs.length = i := by
        have := congrArg List.length hn2
        rw [List.length_map, List.length_take] at this
        omega
      refine ⟨.int k, rfl, k, 10, rfl, rfl, .int (0 + i), rfl, 50, 0 + i, rfl, rfl, .inl ⟨by decide, by decide⟩, k + 10, 50 * (0 + i), rfl, rfl, ?_⟩
      have hh0 : 0 ≤ k + 10 + 50 * (0 + (i : Int)) := by omega
      refine ⟨.ref a, rfl, .int (k + 10 + 50 * (0 + i)), rfl, a, _, 6, rfl, hS.gr (g1.trans g2), hh0, by decide, fun r2 H3 p0 p1 g3 => ⟨r2, rfl, by omega, by omega, fun D nD => ?_⟩⟩
      refine lc_range (lo := 0) (n := r2.toNat) (fun j H' => Gr H3 H' ∧ ∃ ws, ∃ sts : List Stp, H' D = some (.lst ws) ∧ DpAll c.K (hide H' D) ws (sts.map encS) ∧ sts.length = j ∧ ∀ st ∈ sts, OkS st ∧ InS st) ⟨(Gr.refl _).put nD, [], [], upd_same, .nil, rfl, fun x hx => by cases hx⟩ (fun j H4 hj ⟨g4, ws, sts, hD4, hd4, hl4, ho4⟩ => ?_) fun H4 ⟨g4, ws, sts, hD4, hd4, hl4, ho4⟩ => ?_
      · refine ⟨rfl, .ref a, rfl, .int (k + 10 + 50 * (0 + i)), rfl, k + 10 + 50 * (0 + i), 10, rfl, rfl, .int (0 + j), rfl, 6, 0 + j, rfl, rfl, .inl ⟨by decide, by decide⟩, _, _, rfl, rfl, a, _, rfl, hS.gr (((g1.trans g2).trans g3).trans g4), by omega, fun v H5 st ok inn dp g5 => ?_⟩
        have lw : ws.length = j := by rw [dpAll_length hd4, List.length_map, hl4]
        refine ⟨ws, g5.lst hD4, small1000 (by omega), (g4.trans g5).put nD (.lst (g5.lst hD4)), ws ++ [v], sts ++ [st], upd_same, ?_, by rw [List.length_append, hl4]; rfl, fun x h => ?_⟩
        · rw [hide_upd, List.map_append]
          exact dpAll_snoc (dp_hide (g5.lst hD4) (noL_S st) dp) (dpAll_gr (hide_gr g5 (.lst (g5.lst hD4))) hd4)
        · rcases List.mem_append.mp h with h | h
          · exact ho4 x h
          · rw [List.mem_singleton.mp h]; exact ⟨ok, inn⟩
      refine ⟨D, _, rfl, .inl ⟨.inl (.inl hD4), fun tS ntS => ?_⟩⟩
      have g5 : Gr H4 (upd H4 tS (.tup ws)) := .new ntS
      have hS5 : (upd H4 tS (.tup ws)) tS = some (.tup ws) := upd_same
      generalize upd H4 tS (.tup ws) = H5 at g5 hS5
      have dS5 : DpAll c.K H5 ws (sts.map encS) := dpAll_gr ((hide_to H4 D).trans g5) hd4
      have g25 : Gr H2 H5 := (g3.trans g4).trans g5
      have g15 : Gr H H5 := (g1.trans g2).trans g25
      refine ⟨.ref a, rfl, .int (k + 10 + 50 * (0 + i)), rfl, k + 10 + 50 * (0 + i), 1, rfl, rfl, a, _, 6, rfl, hS.gr g15, by omega, by decide, fun r3 H6 s0 s1 g6 => ?_⟩
      refine ⟨2, rfl, by decide, by decide, fun G nG => ?_⟩
      refine lc_range (lo := 0) (n := 2) (fun j H' => Gr H6 H' ∧ ∃ xs : List Str, H' G = some (.lst (xs.map V.str)) ∧ xs.length = j ∧ ∀ x ∈ xs, x ∈ nm6.take mn) ⟨(Gr.refl _).put nG, [], upd_same, rfl, fun x hx => by cases hx⟩ (fun j H7 hj ⟨g7, xs, hG7, hl7, hx7⟩ => ?_) fun H7 ⟨g7, xs, hG7, hl7, hx7⟩ => ?_
      · refine ⟨rfl, .ref a, rfl, .int (k + 10 + 50 * (0 + i)), rfl, k + 10 + 50 * (0 + i), 2, rfl, rfl, .int (0 + j), rfl, _, _, rfl, rfl, .int (1 + r), rfl, a, _, _, rfl, hS.gr ((g15.trans g6).trans g7), by omega, by omega, fun r' H8 q0 q1 g8 => ?_⟩
        obtain ⟨d, e1, e2⟩ := abc_at (r := r') q0 (by omega)
        refine ⟨_, r', d, rfl, rfl, abc_len, e1, _, g8.lst hG7, by rw [List.length_map]; exact small1000 (by omega), (g7.trans g8).put nG (.lst (g8.lst hG7)), xs ++ [⟨#[d]⟩], ?_, by rw [List.length_append, hl7]; rfl, fun x h => ?_⟩
        · rw [upd_same, List.map_append]; rfl
        · rcases List.mem_append.mp h with h | h
          · exact hx7 x h
          · rw [List.mem_singleton.mp h]
            refine List.mem_of_getElem? (i := r'.toNat) ?_
            rw [List.getElem?_take_of_lt (by omega)]
            exact e2
      match xs, hl7 with
      | [x0, x1], _ =>
      have m0 := hx7 x0 (by simp)
      have m1 := hx7 x1 (by simp)
      have nm0 : NameOk x0 := nm6_name _ (List.mem_of_mem_take m0)
      have nm1 : NameOk x1 := nm6_name _ (List.mem_of_mem_take m1)
      have g57 : Gr H5 H7 := g6.trans g7
      unfold gName
      dsimp only
      show tSeq (tAsg (tIf _ _ _) _) _ _ _ _
      show tIf _ _ _ _ _ _
      refine bridge (G := fun v H' => ∃ tE en, v = .ref tE ∧ Gr H7 H' ∧ H' tE = some (.tup (rowE en)) ∧ GoodE mn en) (fun Q' hQ => ?_) fun v H8 hv => ?_
      · have stp : ∀ tE, H7 tE = none → Q' (.ref tE) (upd H7 tE (.tup [.str "stop"])) := fun tE ntE => hQ _ _ ⟨tE, .stop, rfl, .new ntE, upd_same, True.intro, True.intro, fun t ht => by cases ht⟩
        have gon : ∀ tE, H7 tE = none → Q' (.ref tE) (upd H7 tE (.tup [.str "go", .str x0])) := fun tE ntE => hQ _ _ ⟨tE, .go x0, rfl, .new ntE, upd_same, nm0, True.intro, fun t ht => by rw [List.mem_singleton.mp ht]; exact m0⟩
        refine ⟨.int r3, rfl, rfl, _, rfl, ite2 (fun e1 => ?_) fun e1 => ?_⟩
        · exact ⟨by show 1 ≤ sizeLine; decide, stp⟩
        · refine ⟨.int (0 + i), rfl, .int (1 + r), rfl, 1 + r, 1, rfl, rfl, rfl, _, rfl, ite2 (fun e2 => ?_) fun e2 => ?_⟩
          · refine ⟨.int r3, rfl, r3, 3, rfl, rfl, _, rfl, ite2 (fun e3 => ?_) fun e3 => ?_⟩
            · exact ⟨by show 1 ≤ sizeLine; decide, stp⟩
            · exact ⟨.ref G, rfl, G, _, 0, .str x0, rfl, rfl, .inl (.inl hG7), atI_nat (j := 0) rfl, by show 2 ≤ sizeLine; decide, gon⟩
          · exact ⟨.ref G, rfl, G, _, 0, .str x0, rfl, rfl, .inl (.inl hG7), atI_nat (j := 0) rfl, by show 2 ≤ sizeLine; decide, gon⟩
      obtain ⟨tE, en, rfl, g8, hE8, good8⟩ := hv
      have g78 := g57.trans g8
      dsimp only
      show tSeq (tIfS _ _ _) _ _ _ _
      show tIfS _ _ _ _ _ _
      refine bridgeS (G := fun σ' H' => ∃ tE en, σ' = [some (.ref a), some (.int k), some (.int (1 + r)), some (.ref M), some (.int (0 + i)), some (.int (k + 10 + 50 * (0 + i))), some (.ref tS), some (.int r3), some (.ref G), some (.ref tE), none] ∧ Gr H8 H' ∧ H' tE = some (.tup (rowE en)) ∧ GoodE mn en) (fun D' hQ => ?_) fun σ9 H9 h9 => ?_
      · refine ⟨.int r3, rfl, r3, 3, rfl, rfl, _, rfl, ite2 (fun e1 => ?_) fun e1 => hQ _ _ ⟨tE, en, rfl, .refl _, hE8, good8⟩⟩
        refine ⟨.ref a, rfl, .int (k + 10 + 50 * (0 + i)), rfl, k + 10 + 50 * (0 + i), 4, rfl, rfl, a, _, 4, rfl, hS.gr (g15.trans g78), by omega, by decide, fun r' Hx q0 q1 gx => ?_⟩
        obtain ⟨d, e1, e2⟩ := xyzw_at q0 q1
        refine ⟨_, r', d, rfl, rfl, xyzw_len, e1, .ref G, rfl, G, _, 0, .str x0, rfl, rfl, .inl (.inl (gx.lst (g8.lst hG7))), atI_nat (j := 0) rfl, .ref G, rfl, G, _, 1, .str x1, rfl, rfl, .inl (.inl (gx.lst (g8.lst hG7))), atI_nat (j := 1) rfl, by show 4 ≤ sizeLine; decide, fun tE2 ntE => ?_⟩
        exact hQ _ _ ⟨tE2, .ite ⟨#[d]⟩ x0 x1, rfl, gx.trans (.new ntE), upd_same, ⟨pl4_name _ e2, nm0, nm1⟩, e2, fun t ht => by
          simp only [goals, List.mem_cons, List.not_mem_nil, or_false] at ht
          rcases ht with rfl | rfl
          · exact m0
          · exact m1⟩
      obtain ⟨tE, en, rfl, g9, hE9, good9⟩ := h9
      have g59 : Gr H5 H9 := g78.trans g9
      have g29 : Gr H2 H9 := g25.trans g59
      have hM9 : H9 M = some (.lst vs) := g29.lst hM2
      obtain ⟨d, e1, e2⟩ := abc_at (r := 0 + (i : Int)) (by omega) (by omega)
      refine ⟨.ref M, rfl, .inl ⟨rfl, _, .inl (.inl hM9)⟩, .int (0 + i), rfl, _, 0 + i, d, rfl, rfl, abc_len, e1, .ref tS, rfl, .ref tE, rfl, by show 3 ≤ sizeLine; decide, fun tB ntB => ?_⟩
      have g9b : Gr H9 (upd H9 tB (.tup [.str ⟨#[d]⟩, .ref tS, .ref tE])) := .new ntB
      have hB : (upd H9 tB (.tup [.str ⟨#[d]⟩, .ref tS, .ref tE])) tB = some (.tup [.str ⟨#[d]⟩, .ref tS, .ref tE]) := upd_same
      generalize upd H9 tB (.tup [.str ⟨#[d]⟩, .ref tS, .ref tE]) = Hb at g9b hB
      have lvs : vs.length = i := by rw [dpAll_length hd2, List.length_map, lbs]
      refine ⟨M, _, _, rfl, rfl, g9b.lst hM9, small1000 (by omega), ?_⟩
      have dB : Dp c.K Hb (.ref tB) (encB ⟨⟨#[d]⟩, sts, en⟩) := .tup (.inl (.inl hB)) (.cons (.str _) (.cons (.tup (.inl (.inl ((g59.trans g9b).tup hS5))) (dpAll_gr (g59.trans g9b) dS5)) (.cons (dp_gr g9b (encE_at hE9)) .nil)))
      refine ⟨some (.int (0 + i)), _, _, _, _, _, rfl, ((g2.trans g29).trans g9b).put nM (.lst (g9b.lst hM9)), vs ++ [.ref tB], bs ++ [⟨⟨#[d]⟩, sts, en⟩], upd_same, ?_, ?_, fun b hb => ?_⟩
      · rw [hide_upd, List.map_append]
        exact dpAll_snoc (dp_hide (g9b.lst hM9) (noL_B _) dB) (dpAll_gr (hide_gr (g29.trans g9b) (.lst (g9b.lst hM9))) hd2)
      · have e3 : nm6[i]? = some (⟨#[d]⟩ : Str) := by
          rw [show (0 + (i : Int)).toNat = i by omega] at e2
          exact e2
        rw [List.map_append, hn2, List.take_add_one, e3]
        rfl
      · rcases List.mem_append.mp hb with h | h
        · exact hb2 b h
        · rw [List.mem_singleton.mp h]
          exact ⟨by show sts.length ≤ 5; omega, fun x hx => (ho4 x hx).1, fun x hx => (ho4 x hx).2, good9.1, good9.2.1, good9.2.2⟩
    · obtain ⟨kv, hv, sv, tv, gv, ev, rfl, g2, vs, bs, hM2, hd2, hn2, hb2⟩ := hPv
      refine ⟨.ref M, rfl, M, _, rfl, .inl ⟨.inl (.inl hM2), fun t nt => ?_⟩⟩
      exact q _ _ bs ⟨mn, by omega, hm6, hn2, hb2⟩ (.tup (.inl (.inl upd_same)) (dpAll_gr ((hide_to H2 M).trans (.new nt)) hd2)) ((g1.trans g2).trans (.new nt))
end Pm
set_option maxHeartbeats 4000000
namespace Pm
open PySem PySem.Spec PyProof.Rows L2 GxR GX
variable {c : Ct} {C : Addr}
/-! ### _law_inputs -/
def spInputs (c : Ct) : Sp := fun vs H Q _ => ∃ (a : Addr) (k : Int), vs = [.ref a, .int k] ∧ ScrAt c H a ∧ 0 ≤ k ∧ ∀ p H' (ns : List Int), ns.length ≤ 4 → InsOk ns → H p = none → H' p = some (.lst (ns.map V.int)) → Gr H H' → Q (.ref p) H'
abbrev nInputs : List Str := ["_law_script", "_law_at", "_law_k"]
theorem sc_inputs : FnScope nInputs ["_law_script", "_law_at"] (defScope s_law_inputs) := ⟨rfl, rfl, rfl, by decide +kernel, rfl, by decide +kernel, by decide +kernel⟩
theorem ok_inputs (D : Df c "_law_inputs" s_law_inputs) (B : Bl2 c) (O : OkPick c) : Ok c "_law_inputs" 2 ["_law_script", "_law_at"] (spInputs c) := by
  refine df_ok D sc_inputs (fun vs H Q E h => ?_) (fun _ _ _ _ _ _ us hl => match us, hl with | [_, _], _ => rfl) fun f cd A outer s H vs Q E hr h => ?_
  · obtain ⟨a, k, rfl, _⟩ := h
    rfl
  · obtain ⟨a, k, rfl, hS, k0, q⟩ := h
    have nd := sc_inputs.nd
    refine ⟨_, pss_one (ps_ret (pe_lc (own := [("_law_k", 2)]) (g := gName 2) (tt := tYes) (te := tOp (rIxL c.K) (tLst (tCons (tC (.int 0)) (tCons (tC (.int 1)) (tCons (tC (.int 2)) (tCons (tC (.int 7)) (tCons (tC (.int 9972)) tNil)))))) (tCall (spPick c) [] E0 (tCons (tVar 0) (tCons (tOp (rI0 fun i j => .int (i + j)) (tOp (rI0 fun i j => .int (i + j)) (tVar 1) (tC (.int 1))) (tVar 2)) (tCons (tC (.int 5)) tNil))))) rfl nd
        (pi_range1 rfl B.range (pa_cons (pe_f c O hr (pa_cons (pv 0) (pa_cons (pv 1) (pa_cons pe_int pa_nil)))) pa_nil)) (blkOk_by (N := nInputs) (sc := defScope s_law_inputs) (by decide +kernel)) (fun _ _ _ _ _ => pg_name (i := 2) nd rfl (.inl rfl)) (fun _ _ _ _ _ => pts_nil)
          (fun _ _ _ _ _ => pe_ix ix_list (pe_lst (pa_cons pe_int (pa_cons pe_int (pa_cons pe_int (pa_cons pe_int (pa_cons pe_int pa_nil)))))) (pe_f c O hr (pa_cons (pv 0) (pa_cons (pe_op op_add (pe_op op_add (pv 1) pe_int) (pv 2)) (pa_cons pe_int pa_nil)))) (fun _ _ => rfl)))), ?_⟩
    refine ⟨.ref a, rfl, .int k, rfl, a, k, 5, rfl, hS, k0, by decide, fun r H1 r0 r1 g1 => ⟨r, rfl, by omega, by omega, fun D nD => ?_⟩⟩
    refine lc_range (lo := 0) (n := r.toNat) (fun i H' => Gr H1 H' ∧ ∃ ns : List Int, H' D = some (.lst (ns.map V.int)) ∧ ns.length = i ∧ InsOk ns) ⟨(Gr.refl _).put nD, [], upd_same, rfl, fun x hx => by cases hx⟩ (fun i H' hi ⟨hg, ns, hD, hl, hx⟩ => ?_) fun H3 ⟨g3, ns, hD, hl, hx⟩ => ?_
    · refine ⟨rfl, by show 5 ≤ sizeLine; decide, fun L nL => ?_⟩
      refine ⟨.ref a, rfl, .int k, rfl, k, 1, rfl, rfl, .int (0 + i), rfl, k + 1, 0 + i, rfl, rfl, a, _, 5, rfl, hS.gr ((g1.trans hg).trans (.new nL)), by omega, by decide, fun r' H4 p0 p1 g4 => ?_⟩
      obtain ⟨vv, e1, e2⟩ := atI_of (xs := ([0, 1, 2, 7, 9972] : List Int).map V.int) p0 p1
      obtain ⟨n, hn, rfl⟩ : ∃ n : Int, n ∈ ([0, 1, 2, 7, 9972] : List Int) ∧ vv = .int n := by
        rw [List.getElem?_map] at e2
        cases e9 : ([0, 1, 2, 7, 9972] : List Int)[r'.toNat]? with
        | none => rw [e9] at e2; cases e2
        | some n => rw [e9] at e2; exact ⟨n, List.mem_of_getElem? e9, (Option.some.inj e2).symm⟩
      have hv : 0 ≤ n ∧ n ≤ 9972 := by
        have : ∀ n ∈ ([0, 1, 2, 7, 9972] : List Int), 0 ≤ n ∧ n ≤ 9972 := by decide
        exact this n hn
      have gL : Gr H' H4 := (Gr.new nL).trans g4
      refine ⟨L, _, r', .int n, rfl, rfl, .inl (.inl (g4.lst upd_same)), e1, _, gL.lst hD, by rw [List.length_map]; exact small1000 (by omega), (hg.trans gL).put nD (.lst (gL.lst hD)), ns ++ [n], ?_, by rw [List.length_append, hl]; rfl, fun x h => ?_⟩
      · rw [upd_same, List.map_append]; rfl
      · rcases List.mem_append.mp h with h | h
        · exact hx x h
        · rw [List.mem_singleton.mp h]; exact hv
    · exact q D H3 ns (by omega) hx (g1.free nD) hD (g1.trans g3)
end Pm
set_option maxHeartbeats 4000000
namespace Pm
open PySem PySem.Spec PyProof.Rows L2 GxR GX
def spCheckInputs (c : Ct) : Sp := fun vs H Q _ => ∃ (a : Addr) (ns : List Int), vs = [.ref a] ∧ SqL c.K H a (ns.map V.int) ∧ ns.length ≤ 30 ∧ (∀ n ∈ ns, 0 ≤ n ∧ n ≤ 9972) ∧ Tabs c.ts H ∧ ∀ H', Gr H H' → Q .non H'
theorem sc_check_inputs : FnScope ["thing", "worth"] ["thing"] (defScope s_check_inputs) := ⟨rfl, rfl, rfl, by decide +kernel, rfl, by decide +kernel, by decide +kernel⟩
theorem ok_check_inputs {c : Ct} (D : Tf c "check_inputs" s_check_inputs) (B : Bl c) (hM : ∃ t, c.mg "MOST_INPUTS" = some (.int 30 t)) (O : Ok c "is_value" 2 ["thing"] (spIsValue c)) : Ok c "check_inputs" 4 ["thing"] (spCheckInputs c) := by
  obtain ⟨tM, hM⟩ := hM
  refine tf_ok D sc_check_inputs (fun vs H Q E h => ?_) (fun _ _ _ _ _ _ us hl => match us, hl with | [_], _ => rfl) fun f cd tb A outer s H vs Q E TB hmt hr h => ?_
  · obtain ⟨a, ns, rfl, _⟩ := h
    rfl
  · obtain ⟨a, ns, rfl, hS, hlen, hin, hT, q⟩ := h
    refine ⟨_, pss_cons (ps_if (PW.pt (pw_or (pt_not (pt_val (pe_callB call_isi (by rfl) B.isi (by decide +kernel) (pa_cons (pv 0) (pa_cons (pe_bltn (v := .ty "list") (by rfl) B.list (by decide +kernel) rfl) pa_nil)))))
        (pw_or1 (pt_cmpR op_gt (pe_callB call_len_seq (by rfl) B.len PySem.boot_len (pa_cons (pv 0) pa_nil)) (pe_glob (v := .int 30) (by rfl) hM ⟨_, rfl⟩) (nomark _))))) pss_never pss_nil)
      (pss_one (ps_if (pt_not (pt_val (pe_allG (own := [("worth", 1)]) (g := gName 1) (tt := tYes) rfl sc_check_inputs.nd hr (by rfl) B.all TB rfl (gok_by (N := ["thing", "worth"]) (sc := defScope s_check_inputs) (by decide +kernel))
        (pi_list (pv 0)) (fun _ _ _ _ _ _ _ _ => pg_name (i := 1) sc_check_inputs.nd rfl (.inl rfl)) (fun _ _ _ _ _ _ _ _ => pts_nil)
        (fun _ _ _ _ _ _ _ _ => pe_f c O (room_gen hr _) (pa_cons (pv 1) pa_nil))))) pss_never pss_nil)), ?_⟩
    have kt : PySem.W.kitOne c.K (.type "list") (.type "list") = some true := kit_ty (by decide +kernel)
    refine ⟨.ref a, rfl, .ref a, .ty "list", .type "list", .type "list", true, rfl, .ty _, tyx_sqL hS, kt, _, rfl, ?_⟩
    refine ⟨.ref a, rfl, a, _, rfl, .inl hS, _, _, rfl, rfl, _, rfl, ite2 (fun e => ?_) fun e => ?_⟩
    · have e9 := of_decide_eq_true e
      rw [List.length_map] at e9
      omega
    · refine ⟨.ref a, rfl, a, rfl, ⟨_, hS⟩, hT tb hmt, fun H1 hTab => ?_⟩
      have g1 : Gr H H1 := .tabbed (hT tb hmt) hTab
      refine all_lst (xs := ns.map V.int) (fun i H' => Gr H H') g1 (fun i H' hg => hg.sqL hS) (fun i x H' hx hg => ?_) fun H' hg => ⟨_, rfl, iteF (q H' hg)⟩
      obtain ⟨n, hn, rfl⟩ : ∃ n, ns[i]? = some n ∧ x = .int n := by
        rw [List.getElem?_map] at hx
        cases e9 : ns[i]? with
        | none => rw [e9] at hx; cases hx
        | some n => rw [e9] at hx; exact ⟨n, rfl, (Option.some.inj hx).symm⟩
      obtain ⟨n0, n1⟩ := hin n (List.mem_of_getElem? hn)
      have hv : valueD (.int n) = true := by
        show (decide (0 ≤ n) && decide (n ≤ 9972)) = true
        rw [decide_eq_true n0, decide_eq_true n1]
        rfl
      refine ⟨rfl, .int n, rfl, .int n, .int n, rfl, .int n, _, rfl, ?_⟩
      rw [hv]
      exact iteF' hg
def spCheckTurns (c : Ct) : Sp := fun vs H Q _ => ∃ n : Int, vs = [.int n] ∧ 1 ≤ n ∧ n ≤ 9999 ∧ Q .non H
theorem sc_check_turns : FnScope ["thing"] ["thing"] (defScope s_check_turns) := ⟨rfl, rfl, rfl, by decide +kernel, rfl, by decide +kernel, by decide +kernel⟩
theorem ok_check_turns {c : Ct} (D : Df c "check_turns" s_check_turns) (hM : ∃ t, c.mg "MOST_TURNS" = some (.int 9999 t)) (O : Ok c "is_whole" 1 ["thing", "low", "high"] (spIsWhole c)) : Ok c "check_turns" 2 ["thing"] (spCheckTurns c) := by
  obtain ⟨tM, hM⟩ := hM
  refine df_ok D sc_check_turns (fun vs H Q E h => ?_) (fun _ _ _ _ _ _ us hl => match us, hl with | [_], _ => rfl) fun f cd A outer s H vs Q E hr h => ?_
  · obtain ⟨n, rfl, _⟩ := h
    rfl
  · obtain ⟨n, rfl, h1, h2, q⟩ := h
    refine ⟨_, pss_one (ps_if (pt_not (pt_val (pe_f c O hr (pa_cons (pv 0) (pa_cons pe_int (pa_cons (pe_glob (v := .int 9999) (by rfl) hM ⟨_, rfl⟩) pa_nil)))))) pss_never pss_nil), ?_⟩
    refine ⟨.int n, rfl, .int n, .int n, 1, 9999, rfl, .int n, _, rfl, ?_⟩
    have hv : wholeD (.int n) 1 9999 = true := by
      show (decide (1 ≤ n) && decide (n ≤ 9999)) = true
      rw [decide_eq_true h1, decide_eq_true h2]
      rfl
    rw [hv]
    exact iteF q
end Pm
set_option maxHeartbeats 4000000
/-! Methods of a class of the module, and its making. -/
namespace Pm
open PySem PySem.Spec PyProof.Rows L2 GxR GX
/-- the method st (qualified name q) of the class at C -/
def DefM (c : Ct) (C : Addr) (m q : Str) (st : Stmt) : Prop := ∃ f fd, Fun c.K m q st f fd ∧ Meth c.K C m f
def DefI (c : Ct) (C : Addr) (q : Str) (st : Stmt) : Prop := ∃ f fd, Fun c.K "__init__" q st f fd ∧ Mk c.K C f
def OkM (c : Ct) (C : Addr) (m : Str) (k : Nat) (ps : List Str) (sp : Sp) : Prop := ∃ f fd, FnOk c.P c.w c.K c.mg c.base CX0 k f fd ps sp ∧ Meth c.K C m f ∧ Binds c.K fd ps []
def OkI (c : Ct) (C : Addr) (k : Nat) (ps : List Str) (sp : Sp) : Prop := ∃ f fd, FnOk c.P c.w c.K c.mg c.base CX0 k f fd ps sp ∧ Mk c.K C f ∧ Binds c.K fd ps []
theorem dm_ok {c : Ct} {C : Addr} {m q : Str} {st : Stmt} {N ps : List Str} {k : Nat} {sp : Sp} (D : DefM c C m q st) (S : FnScope N ps (defScope st)) (len : ∀ vs H Q E, sp vs H Q E → vs.length = ps.length)
    (hb : ∀ (kV doc pm : Value) (an : Option Addr) (cdv ct : Value) (us : List Value), us.length = ps.length → bindArgs (PySem.W.fnOf m q (defArgs st) (defBody st) (defScope st) .none kV doc pm an cdv ct) ⟨us, []⟩ = pure (ps.zip us))
    (hbody : ∀ (f : Addr) (cdv : Value) (A : Around) (outer : List Env) (s : Shared) (H : Hp) (vs : List V) (Q : VK) (E : XK), Room k (A.deeper (envOfC q (defScope st) s.heap.objs.size f cdv)) → sp vs H Q E →
      ∃ t, PSs (cxOf CX0 c.P c.w c.K c.mg c.base N q (defScope st) f cdv A outer s H E).nox (defBody st) t ∧ t { nx := fun _ H' => Q .non H', rt := Q } (start N vs) H) : OkM c C m (k + 1) ps sp := by
  obtain ⟨f, fd, F, M⟩ := D
  exact ⟨f, fd, F.ok S len fun cdv A outer s H vs Q E hr h => hbody f cdv A outer s H vs Q E hr h, M, F.binds hb⟩
theorem di_ok {c : Ct} {C : Addr} {q : Str} {st : Stmt} {N ps : List Str} {k : Nat} {sp : Sp} (D : DefI c C q st) (S : FnScope N ps (defScope st)) (len : ∀ vs H Q E, sp vs H Q E → vs.length = ps.length)
    (hb : ∀ (kV doc pm : Value) (an : Option Addr) (cdv ct : Value) (us : List Value), us.length = ps.length → bindArgs (PySem.W.fnOf "__init__" q (defArgs st) (defBody st) (defScope st) .none kV doc pm an cdv ct) ⟨us, []⟩ = pure (ps.zip us))
    (hbody : ∀ (f : Addr) (cdv : Value) (A : Around) (outer : List Env) (s : Shared) (H : Hp) (vs : List V) (Q : VK) (E : XK), Room k (A.deeper (envOfC q (defScope st) s.heap.objs.size f cdv)) → sp vs H Q E →
      ∃ t, PSs (cxOf CX0 c.P c.w c.K c.mg c.base N q (defScope st) f cdv A outer s H E).nox (defBody st) t ∧ t { nx := fun _ H' => Q .non H', rt := Q } (start N vs) H) : OkI c C (k + 1) ps sp := by
  obtain ⟨f, fd, F, M⟩ := D
  exact ⟨f, fd, F.ok S len fun cdv A outer s H vs Q E hr h => hbody f cdv A outer s H vs Q E hr h, M, F.binds hb⟩
section
variable {X : Cx} {C : Addr} {m x : Str} {k : Nat} {ps : List Str} {sp : Sp} {p pos apos : Pos} {o e : Expr} {es : List Expr} {ta : TE} {t : TA}
/-- o.m(e, ..) -/
theorem pe_m (c : Ct) (cl : Cls c.K C) (O : OkM c C m k ps sp) (hr : Room k X.A) (ho : PE X o ta) (ha : PA X (e :: es) t) {pl : Sem Bool} (h1 : X.prog = c.P := by rfl) (h2 : X.w = c.w := by rfl) (h3 : X.K = c.K := by rfl) (h4 : X.mg = c.mg := by rfl) (h5 : X.base = c.base := by rfl)
    (hst : starEach (e :: es) X.env = (false, eval e X.env) :: starEach es X.env := by rfl) (hpl : (backTo pos (starEach es X.env)).any (·.1) = false := by rfl)
    (ht : eval (.Call (.Attribute o m apos) (e :: es) [] pos) X.env = (do
      let ov ← eval o X.env
      standAt apos.atName
      let (f, first) ← holding [ov] (getMethod ov m pl)
      callWith pos f first (backTo pos (starEach (e :: es) X.env)) (backToKw pos (keywordEach [] X.env))) := by rfl) : PE X (.Call (.Attribute o m apos) (e :: es) [] pos) (tMeth C m sp [] E0 ta t) := by
  obtain ⟨f, fd, F, M, hb⟩ := O
  refine pe_meth (pl := pl) (CX := CX0) (fd := fd) (ps := ps) (ds := []) ho (by rw [h3]; exact cl) (f := f) (by rw [h3]; exact M) (by rw [h1, h2, h3, h4, h5]; exact F) hr (by rw [h3]; exact hb) .nil pass0 ha hst hpl ht
/-- o.m() -/
theorem pe_m0 (c : Ct) (cl : Cls c.K C) (O : OkM c C m k ps sp) (hr : Room k X.A) (ho : PE X o ta) {pl : Sem Bool} (h1 : X.prog = c.P := by rfl) (h2 : X.w = c.w := by rfl) (h3 : X.K = c.K := by rfl) (h4 : X.mg = c.mg := by rfl) (h5 : X.base = c.base := by rfl)
    (ht : eval (.Call (.Attribute o m apos) [] [] pos) X.env = (do
      let ov ← eval o X.env
      standAt apos.atName
      let (f, first) ← holding [ov] (getMethod ov m pl)
      callWith pos f first (backTo pos (starEach [] X.env)) (backToKw pos (keywordEach [] X.env))) := by rfl) : PE X (.Call (.Attribute o m apos) [] [] pos) (tMeth C m sp [] E0 ta tNil) := by
  obtain ⟨f, fd, F, M, hb⟩ := O
  refine pe_meth0 (pl := pl) (CX := CX0) (fd := fd) (ps := ps) (ds := []) ho (by rw [h3]; exact cl) (f := f) (by rw [h3]; exact M) (by rw [h1, h2, h3, h4, h5]; exact F) hr (by rw [h3]; exact hb) .nil pass0 ht
/-- C(e, ..) -/
theorem pe_new (c : Ct) (O : OkI c C k ps sp) (hm : c.mg x = some (.ref C)) (hr : Room (k + 1) X.A) (ha : PA X (e :: es) t) (h1 : X.prog = c.P := by rfl) (h2 : X.w = c.w := by rfl) (h3 : X.K = c.K := by rfl) (h4 : X.mg = c.mg := by rfl) (h5 : X.base = c.base := by rfl)
    (hg : Gl X x := by rfl) (hdb : (x == ("__debug__" : Str)) = false := by decide) (he : starEach (e :: es) X.env = (false, eval e X.env) :: starEach es X.env := by rfl) (hpl : (backTo pos (starEach es X.env)).any (·.1) = false := by rfl) : PE X (.Call (.Name x p) (e :: es) [] pos) (tMake C sp [] E0 t) := by
  obtain ⟨f, fd, F, M, hb⟩ := O
  refine pe_make (CX := CX0) (fd := fd) (ps := ps) (ds := []) (f := f) (by rw [h3]; exact M) (by rw [h1, h2, h3, h4, h5]; exact F) hr hg (by rw [h4]; exact hm) (by rw [h3]; exact hb) .nil pass0 ha hdb he hpl
end
end Pm
set_option maxHeartbeats 4000000
namespace Pm
open PySem PySem.Spec PyProof.Rows L2 GxR GX
/-! ### the machine -/
structure Mst where
  m : Str → Int
  t : Nat
  outs : List Int
def putM (m : Str → Int) (x : Str) (v : Int) : Str → Int := fun y => if y = x then v else m y
/-- the value that a step writes -/
def valS (ins : List Int) (σ : Mst) : Stp → Int
  | .set _ n => n
  | .copy _ y => σ.m y
  | .sum w _ y z => sumI w (σ.m y) (σ.m z)
  | .get _ => ins.getD σ.t 0
  | .put _ => 0
def nextT (ins : List Int) (t : Nat) : Nat := if t = ins.length then t else t + 1
def doS (ins : List Int) (σ : Mst) : Stp → Mst
  | .set x n => { σ with m := putM σ.m x n }
  | .copy x y => { σ with m := putM σ.m x (σ.m y) }
  | .sum w x y z => { σ with m := putM σ.m x (sumI w (σ.m y) (σ.m z)) }
  | .get x => { σ with m := putM σ.m x (ins.getD σ.t 0), t := nextT ins σ.t }
  | .put x => { σ with outs := σ.outs ++ [σ.m x] }
def nextB (σ : Mst) : En → Str
  | .go b => b
  | .ite x b c => if σ.m x = 0 then c else b
  | .stop => Str.empty
/-- what a run has reached is well -/
structure MOk (ins : List Int) (σ : Mst) : Prop where
  val : ∀ x, 0 ≤ σ.m x ∧ σ.m x ≤ 9972
  t : σ.t ≤ ins.length
/-! ### State -/
abbrev sf (b ip : Addr) (t : Int) (pp : Addr) : List (Str × V) := [("borne", .ref b), ("inputs", .ref ip), ("taken", .int t), ("puts", .ref pp)]
structure StCl (c : Ct) (C : Addr) : Prop where
  cl : Cls c.K C
  nb : NoAttr c.K C "borne"
  ni : NoAttr c.K C "inputs"
  nt : NoAttr c.K C "taken"
  np : NoAttr c.K C "puts"
/-- behind H0 a State stands at s -/
def StAt (C : Addr) (H0 H : Hp) (s : Addr) (n : Nat) (ins : List Int) (σ : Mst) : Prop :=
  ∃ dx b ip pp kvs, H s = some (.ins C dx (sf b ip σ.t pp)) ∧ H b = some (.dK kvs) ∧ kvs.length ≤ n ∧ (∀ x : Str, (valV kvs (Sum.inr x)).getD (.int 0) = .int (σ.m x)) ∧ H ip = some (.lst (ins.map V.int)) ∧ H pp = some (.lst (σ.outs.map V.int)) ∧ σ.outs.length ≤ n ∧ ip ≠ pp ∧
    Gr H0 H ∧ H0 s = none ∧ H0 b = none ∧ H0 ip = none ∧ H0 pp = none
theorem lk_b {b ip : Addr} {t : Int} {pp : Addr} : (sf b ip t pp).lookup ("borne" : Str) = some (.ref b) := by rfl
theorem lk_i {b ip : Addr} {t : Int} {pp : Addr} : (sf b ip t pp).lookup ("inputs" : Str) = some (.ref ip) := by rfl
theorem lk_t {b ip : Addr} {t : Int} {pp : Addr} : (sf b ip t pp).lookup ("taken" : Str) = some (.int t) := by rfl
theorem lk_p {b ip : Addr} {t : Int} {pp : Addr} : (sf b ip t pp).lookup ("puts" : Str) = some (.ref pp) := by rfl
theorem lk_no {b ip : Addr} {t : Int} {pp : Addr} {m : Str} (h1 : (m == ("borne" : Str)) = false) (h2 : (m == ("inputs" : Str)) = false) (h3 : (m == ("taken" : Str)) = false) (h4 : (m == ("puts" : Str)) = false) : (sf b ip t pp).lookup m = none := by
  simp only [sf, List.lookup_cons, h1, h2, h3, h4, List.lookup_nil]
theorem put_t {b ip : Addr} {t u : Int} {pp : Addr} : putF "taken" (.int u) (sf b ip t pp) = sf b ip u pp := by rfl
theorem sf_new {b ip : Addr} {t : Int} {pp : Addr} : putF "puts" (.ref pp) (putF "taken" (.int t) (putF "inputs" (.ref ip) (putF "borne" (.ref b) []))) = sf b ip t pp := by rfl
end Pm
set_option maxHeartbeats 4000000
namespace Pm
open PySem PySem.Spec PyProof.Rows L2 GxR GX
variable {c : Ct} {C : Addr}
def spStInit (C : Addr) (c : Ct) : Sp := fun vs H Q _ => ∃ (H0 : Hp) (s dx a : Addr) (ins : List Int), vs = [.ref s, .ref a] ∧ Gr H0 H ∧ H0 s = none ∧ H s = some (.ins C dx []) ∧ SqL c.K H0 a (ins.map V.int) ∧ ∀ H', StAt C H0 H' s 0 ins ⟨fun _ => 0, 0, []⟩ → Q .non H'
theorem sc_st_init : FnScope ["self", "inputs"] ["self", "inputs"] (defScope s_State_init) := ⟨rfl, rfl, rfl, by decide +kernel, rfl, by decide +kernel, by decide +kernel⟩
theorem ok_st_init (D : DefI c C "State.__init__" s_State_init) (T : StCl c C) (B : Bl c) : OkI c C 1 ["self", "inputs"] (spStInit C c) := by
  refine di_ok D sc_st_init (fun vs H Q E h => ?_) (fun _ _ _ _ _ _ us hl => match us, hl with | [_, _], _ => rfl) fun f cdv A outer s H vs Q E hr h => ?_
  · obtain ⟨H0, p, dx, a, ins, rfl, _⟩ := h
    rfl
  · obtain ⟨H0, p, dx, a, ins, rfl, g0, p0, hp, hA, q⟩ := h
    refine ⟨_, pss_cons (ps_fld (pv 0) pe_dnewK rfl) (pss_cons (ps_fld (pv 0) (pe_callTy call_list_of (by rfl) B.list (by decide +kernel) (pa_cons (pv 1) pa_nil)) rfl)
      (pss_cons (ps_fld (pv 0) pe_int rfl) (pss_one (ps_fld (pv 0) (pe_lst pa_nil) rfl)))), ?_⟩
    intro b nb
    have npb : p ≠ b := ne_of_none hp nb
    have e1 : (upd H b (.dK [])) p = some (.ins C dx []) := by rw [upd_ne npb]; exact hp
    refine ⟨_, rfl, p, C, dx, [], rfl, e1, T.cl, T.nb, by decide, ?_⟩
    generalize hH1 : upd (upd H b (.dK [])) p (.ins C dx (putF "borne" (.ref b) [])) = H1
    have gp : ∀ {o : HO} {Hx : Hp}, Gr H0 Hx → NoC Hx p → Gr H0 (upd Hx p o) := fun g n => g.put p0 n
    have b0 : H0 b = none := g0.free nb
    have g1 : Gr H0 H1 := by rw [← hH1]; exact gp (g0.put b0 (.free nb)) (.ins e1)
    have h1p : H1 p = some (.ins C dx (putF "borne" (.ref b) [])) := by rw [← hH1, upd_same]
    have h1b : H1 b = some (.dK []) := by rw [← hH1, upd_ne npb.symm, upd_same]
    refine ⟨.ref a, rfl, a, _, rfl, .inl (g1.sqL hA), fun ip nip => ?_⟩
    have npi : p ≠ ip := ne_of_none h1p nip
    have nbi : b ≠ ip := ne_of_none h1b nip
    refine ⟨_, rfl, p, C, dx, _, rfl, by rw [upd_ne npi]; exact h1p, T.cl, T.ni, by show 1 < 1000; decide, ?_⟩
    generalize hH2 : upd (upd H1 ip (.lst (ins.map V.int))) p (.ins C dx (putF "inputs" (.ref ip) (putF "borne" (.ref b) []))) = H2
    have ip0 : H0 ip = none := g1.free nip
    have g2 : Gr H0 H2 := by rw [← hH2]; exact gp (g1.put ip0 (.free nip)) (.ins (by rw [upd_ne npi]; exact h1p))
    have h2p : H2 p = some (.ins C dx (putF "inputs" (.ref ip) (putF "borne" (.ref b) []))) := by rw [← hH2, upd_same]
    have h2b : H2 b = some (.dK []) := by rw [← hH2, upd_ne npb.symm, upd_ne nbi]; exact h1b
    have h2i : H2 ip = some (.lst (ins.map V.int)) := by rw [← hH2, upd_ne npi.symm, upd_same]
    refine ⟨_, rfl, p, C, dx, _, rfl, h2p, T.cl, T.nt, by show 2 < 1000; decide, ?_⟩
    refine ⟨Nat.zero_le _, fun pp npp => ?_⟩
    have npp1 : p ≠ pp := ne_of_none upd_same npp
    rw [upd_ne npp1.symm] at npp
    refine ⟨_, rfl, p, C, dx, _, rfl, by rw [upd_ne npp1, upd_same], T.cl, T.np, by show 3 < 1000; decide, ?_⟩
    have nbp : b ≠ pp := ne_of_none h2b npp
    have nipp : ip ≠ pp := ne_of_none h2i npp
    have pp0 : H0 pp = none := g2.free npp
    refine q _ ⟨dx, b, ip, pp, [], by rw [upd_same]; rfl, ?_, Nat.le_refl _, fun x => rfl, ?_, ?_, Nat.le_refl _, nipp, gp (Gr.put (gp g2 (.ins h2p)) pp0 (.free (by rw [upd_ne npp1.symm]; exact npp))) (.ins (by rw [upd_ne npp1, upd_same])), p0, b0, ip0, pp0⟩
    · rw [upd_ne npb.symm, upd_ne nbp, upd_ne npb.symm]; exact h2b
    · rw [upd_ne npi.symm, upd_ne nipp, upd_ne npi.symm]; exact h2i
    · rw [upd_ne npp1.symm, upd_same]; rfl

def spValueOf (C : Addr) : Sp := fun vs H Q _ => ∃ (H0 : Hp) (s : Addr) (n : Nat) (ins : List Int) (σ : Mst) (z : Str), vs = [.ref s, .str z] ∧ StAt C H0 H s n ins σ ∧ Q (.int (σ.m z)) H
theorem sc_value_of : FnScope ["self", "place"] ["self", "place"] (defScope s_State_value_of) := ⟨rfl, rfl, rfl, by decide +kernel, rfl, by decide +kernel, by decide +kernel⟩
theorem ok_value_of (D : DefM c C "value_of" "State.value_of" s_State_value_of) (T : StCl c C) : OkM c C "value_of" 1 ["self", "place"] (spValueOf C) := by
  refine dm_ok D sc_value_of (fun vs H Q E h => ?_) (fun _ _ _ _ _ _ us hl => match us, hl with | [_, _], _ => rfl) fun f cdv A outer s H vs Q E hr h => ?_
  · obtain ⟨H0, p, n, ins, σ, z, rfl, _⟩ := h
    rfl
  · obtain ⟨H0, p, n, ins, σ, z, rfl, ⟨dx, b, ip, pp, kvs, h1, h2, h3, h4, _⟩, q⟩ := h
    refine ⟨_, pss_one (ps_ret (pe_dget2 (hu_of hr) (pe_fld (pv 0) rfl) (pv 1) pe_int ⟨rfl, rfl, rfl, rfl⟩)), ?_⟩
    refine ⟨.ref p, rfl, p, C, dx, _, _, rfl, h1, T.cl, T.nb, lk_b, b, rfl, .inl ⟨kvs, .inl h2⟩, .str z, rfl, _, DGet.k (k := Sum.inr z) h2, ?_⟩
    show Q ((valV kvs (Sum.inr z)).getD (.int 0)) H
    rw [h4]
    exact q
def spNextInput (C : Addr) : Sp := fun vs H Q _ => ∃ (H0 : Hp) (s : Addr) (n : Nat) (ins : List Int) (σ : Mst), vs = [.ref s] ∧ StAt C H0 H s n ins σ ∧ σ.t ≤ ins.length ∧ ∀ H', StAt C H0 H' s n ins { σ with t := nextT ins σ.t } → Q (.int (ins.getD σ.t 0)) H'
theorem sc_next_input : FnScope ["self"] ["self"] (defScope s_State_next_input) := ⟨rfl, rfl, rfl, by decide +kernel, rfl, by decide +kernel, by decide +kernel⟩
theorem ok_next_input (D : DefM c C "next_input" "State.next_input" s_State_next_input) (T : StCl c C) (B : Bl c) : OkM c C "next_input" 1 ["self"] (spNextInput C) := by
  refine dm_ok D sc_next_input (fun vs H Q E h => ?_) (fun _ _ _ _ _ _ us hl => match us, hl with | [_], _ => rfl) fun f cdv A outer s H vs Q E hr h => ?_
  · obtain ⟨H0, p, n, ins, σ, rfl, _⟩ := h
    rfl
  · obtain ⟨H0, p, n, ins, σ, rfl, ⟨dx, b, ip, pp, kvs, h1, h2, h3, h4, h5, h6, h7, h8, g, p0, b0, ip0, pp0⟩, ht, q⟩ := h
    refine ⟨_, pss_cons (ps_if (pt_cmpR op_eq (pe_fld (pv 0) rfl) (pe_callB call_len_seq (by rfl) B.len PySem.boot_len (pa_cons (pe_fld (pv 0) rfl) pa_nil)) (nomark _)) (pss_one (ps_ret pe_int)) pss_nil)
      (pss_cons (ps_fldaug (pv 0) pe_int in_add) (pss_one (ps_ret (pe_ix ix_list (pe_fld (pv 0) rfl) (pe_op op_sub (pe_fld (pv 0) rfl) pe_int) (fun _ _ => rfl))))), ?_⟩
    refine ⟨.ref p, rfl, p, C, dx, _, _, rfl, h1, T.cl, T.nt, lk_t, .ref p, rfl, p, C, dx, _, _, rfl, h1, T.cl, T.ni, lk_i, ip, _, rfl, .inl (.inl (.inl h5)), rfl, _, rfl, ite2 (fun e => ?_) fun e => ?_⟩
    · have e2 : σ.t = ins.length := by
        have e3 := V.int.inj (of_decide_eq_true e)
        rw [List.length_map] at e3
        omega
      have e4 : nextT ins σ.t = σ.t := if_pos e2
      have e5 : ins.getD σ.t 0 = 0 := by rw [e2]; simp
      rw [e4, e5] at q
      exact q H ⟨dx, b, ip, pp, kvs, h1, h2, h3, h4, h5, h6, h7, h8, g, p0, b0, ip0, pp0⟩
    · have e2 : ¬ σ.t = ins.length := fun z => e (by rw [z, List.length_map]; exact decide_eq_true rfl)
      have hlt : σ.t < ins.length := by omega
      have e4 : nextT ins σ.t = σ.t + 1 := if_neg e2
      have e5 : ins.getD σ.t 0 = ins[σ.t] := by simp [hlt]
      rw [e4, e5] at q
      refine ⟨.ref p, rfl, p, C, dx, _, _, rfl, h1, T.cl, T.nt, lk_t, σ.t, 1, rfl, rfl, dx, _, h1, by show 4 < 1000; decide, ?_⟩
      rw [put_t]
      have npi : p ≠ ip := ne_of h1 h5 (fun z => nomatch z)
      have npb : p ≠ b := ne_of h1 h2 (fun z => nomatch z)
      have npp : p ≠ pp := ne_of h1 h6 (fun z => nomatch z)
      have h5' : (upd H p (.ins C dx (sf b ip (σ.t + 1) pp))) ip = some (.lst (ins.map V.int)) := by rw [upd_ne npi.symm]; exact h5
      refine ⟨.ref p, rfl, p, C, dx, _, _, rfl, upd_same, T.cl, T.ni, lk_i, .ref p, rfl, p, C, dx, _, _, rfl, upd_same, T.cl, T.nt, lk_t, (σ.t : Int) + 1, 1, rfl, rfl, ip, _, (σ.t : Int) + 1 - 1, .int ins[σ.t], rfl, rfl, .inl (.inl h5'), ?_, q _ ⟨dx, b, ip, pp, kvs, upd_same, ?_, h3, h4, h5', ?_, h7, h8, g.put p0, p0, b0, ip0, pp0⟩⟩
      · rw [Int.add_sub_cancel]
        exact atI_nat (by rw [List.getElem?_map, List.getElem?_eq_getElem hlt]; rfl)
      · rw [upd_ne npb.symm]; exact h2
      · rw [upd_ne npp.symm]; exact h6
end Pm
set_option maxHeartbeats 4000000
namespace Pm
open PySem PySem.Spec PyProof.Rows L2 GxR GX
variable {c : Ct} {C : Addr}
/-- behind the value of a step -/
def afterV (ins : List Int) (σ : Mst) : Stp → Mst
  | .get _ => { σ with t := nextT ins σ.t }
  | _ => σ
def isPut : Stp → Bool
  | .put _ => true
  | _ => false
def wordS : Stp → Str
  | .set _ _ => "set"
  | .copy _ _ => "copy"
  | .sum w _ _ _ => w
  | .get _ => "get"
  | .put _ => "put"
theorem row_word (s : Stp) : ∃ r, rowS s = .str (wordS s) :: r := by cases s <;> exact ⟨_, rfl⟩
theorem str_t {a b : Str} (h : decide (V.str a = V.str b) = true) : a = b := V.str.inj (of_decide_eq_true h)
theorem str_f {a b : Str} (h : ¬ decide (V.str a = V.str b) = true) : ¬ a = b := fun e => h (by rw [e]; exact decide_eq_true rfl)
def spValueFor (C : Addr) (c : Ct) : Sp := fun vs H Q _ => ∃ (H0 : Hp) (s : Addr) (n : Nat) (ins : List Int) (σ : Mst) (v : V) (st : Stp), vs = [.ref s, v] ∧ StAt C H0 H s n ins σ ∧ MOk ins σ ∧ Dp c.K H0 v (encS st) ∧ OkS st ∧ isPut st = false ∧ ∀ H', StAt C H0 H' s n ins (afterV ins σ st) → Q (.int (valS ins σ st)) H'
theorem sc_value_for : FnScope ["self", "step", "word"] ["self", "step"] (defScope s_State_value_for) := ⟨rfl, rfl, rfl, by decide +kernel, rfl, by decide +kernel, by decide +kernel⟩
theorem sum_words_ne : ∀ w ∈ sumWords, w ≠ "set" ∧ w ≠ "copy" ∧ w ≠ "get" ∧ w ≠ "put" := by decide +kernel
theorem w_ne : ("copy" : Str) ≠ "set" ∧ ("get" : Str) ≠ "set" ∧ ("get" : Str) ≠ "copy" := by decide +kernel
theorem StAt.gr {H0 H : Hp} {s : Addr} {n : Nat} {ins : List Int} {σ : Mst} (h : StAt C H0 H s n ins σ) : Gr H0 H := by
  obtain ⟨_, _, _, _, _, _, _, _, _, _, _, _, _, g, _⟩ := h
  exact g
theorem ok_value_for (D : DefM c C "value_for" "State.value_for" s_State_value_for) (T : StCl c C) (O1 : OkM c C "value_of" 1 ["self", "place"] (spValueOf C)) (O2 : OkM c C "next_input" 1 ["self"] (spNextInput C)) (O3 : Ok c "sum_of" 1 ["word", "left", "right"] spSumOf) : OkM c C "value_for" 2 ["self", "step"] (spValueFor C c) := by
  refine dm_ok D sc_value_for (fun vs H Q E h => ?_) (fun _ _ _ _ _ _ us hl => match us, hl with | [_, _], _ => rfl) fun f cdv A outer s H vs Q E hr h => ?_
  · obtain ⟨H0, p, n, ins, σ, v, st, rfl, _⟩ := h
    rfl
  · obtain ⟨H0, p, n, ins, σ, v, st, rfl, hS, hM, hv, hok, hnp, q⟩ := h
    obtain ⟨a, rfl, hA0⟩ := step_at hv
    have hA : SqT c.K H a (rowS st) := hS.gr.sqT hA0
    obtain ⟨dx, b, ip, pp, kvs, h1, _⟩ := _root_.id hS
    have lkn : ∀ {m : Str}, (m == ("borne" : Str)) = false → (m == ("inputs" : Str)) = false → (m == ("taken" : Str)) = false → (m == ("puts" : Str)) = false → (sf b ip σ.t pp).lookup m = none := fun x1 x2 x3 x4 => lk_no x1 x2 x3 x4
    have l1 : (sf b ip σ.t pp).lookup ("value_of" : Str) = none := lkn (by decide +kernel) (by decide +kernel) (by decide +kernel) (by decide +kernel)
    have l2 : (sf b ip σ.t pp).lookup ("next_input" : Str) = none := lkn (by decide +kernel) (by decide +kernel) (by decide +kernel) (by decide +kernel)
    refine ⟨_, pss_cons (ps_set (i := 2) sc_value_for.nd rfl (.inl rfl) (pe_ix ix_tup (pv 1) pe_int (fun _ _ => rfl)))
      (pss_cons (ps_if (pt_cmpR op_eq (pv 2) pe_str (nomark _)) (pss_one (ps_ret (pe_ix ix_tup (pv 1) pe_int (fun _ _ => rfl)))) pss_nil)
      (pss_cons (ps_if (pt_cmpR op_eq (pv 2) pe_str (nomark _)) (pss_one (ps_ret (pe_m c T.cl O1 hr (pv 0) (pa_cons (pe_ix ix_tup (pv 1) pe_int (fun _ _ => rfl)) pa_nil)))) pss_nil)
      (pss_cons (ps_if (pt_cmpR op_eq (pv 2) pe_str (nomark _)) (pss_one (ps_ret (pe_m0 c T.cl O2 hr (pv 0)))) pss_nil)
      (pss_one (ps_ret (pe_f c O3 hr (pa_cons (pv 2) (pa_cons (pe_m c T.cl O1 hr (pv 0) (pa_cons (pe_ix ix_tup (pv 1) pe_int (fun _ _ => rfl)) pa_nil)) (pa_cons (pe_m c T.cl O1 hr (pv 0) (pa_cons (pe_ix ix_tup (pv 1) pe_int (fun _ _ => rfl)) pa_nil)) pa_nil))))))))), ?_⟩
    cases st with
    | put x => cases hnp
    | set x i =>
      refine ⟨.ref a, rfl, a, _, 0, .str "set", rfl, rfl, hA, atI_nat (j := 0) rfl, ?_⟩
      refine ⟨.str "set", rfl, rfl, _, rfl, ite2 (fun e => ?_) fun e => absurd rfl (str_f e)⟩
      exact ⟨.ref a, rfl, a, _, 2, .int i, rfl, rfl, hA, atI_nat (j := 2) rfl, q H hS⟩
    | copy x y =>
      refine ⟨.ref a, rfl, a, _, 0, .str "copy", rfl, rfl, hA, atI_nat (j := 0) rfl, ?_⟩
      refine ⟨.str "copy", rfl, rfl, _, rfl, ite2 (fun e => absurd (str_t e) w_ne.1) fun _ => ?_⟩
      refine ⟨.str "copy", rfl, rfl, _, rfl, ite2 (fun e => ?_) fun e => absurd rfl (str_f e)⟩
      exact ⟨.ref p, rfl, p, dx, _, rfl, h1, l1, .ref a, rfl, a, _, 2, .str y, rfl, rfl, hA, atI_nat (j := 2) rfl, H0, p, n, ins, σ, y, rfl, hS, q H hS⟩
    | get x =>
      refine ⟨.ref a, rfl, a, _, 0, .str "get", rfl, rfl, hA, atI_nat (j := 0) rfl, ?_⟩
      refine ⟨.str "get", rfl, rfl, _, rfl, ite2 (fun e => absurd (str_t e) w_ne.2.1) fun _ => ?_⟩
      refine ⟨.str "get", rfl, rfl, _, rfl, ite2 (fun e => absurd (str_t e) w_ne.2.2) fun _ => ?_⟩
      refine ⟨.str "get", rfl, rfl, _, rfl, ite2 (fun e => ?_) fun e => absurd rfl (str_f e)⟩
      exact ⟨.ref p, rfl, p, dx, _, rfl, h1, l2, H0, p, n, ins, σ, rfl, hS, hM.t, q⟩
    | sum w x y z =>
      obtain ⟨n1, n2, n3, n4⟩ := sum_words_ne w hok.1
      refine ⟨.ref a, rfl, a, _, 0, .str w, rfl, rfl, hA, atI_nat (j := 0) rfl, ?_⟩
      refine ⟨.str w, rfl, rfl, _, rfl, ite2 (fun e => absurd (str_t e) n1) fun _ => ?_⟩
      refine ⟨.str w, rfl, rfl, _, rfl, ite2 (fun e => absurd (str_t e) n2) fun _ => ?_⟩
      refine ⟨.str w, rfl, rfl, _, rfl, ite2 (fun e => absurd (str_t e) n3) fun _ => ?_⟩
      refine ⟨.str w, rfl, .ref p, rfl, p, dx, _, rfl, h1, l1, .ref a, rfl, a, _, 2, .str y, rfl, rfl, hA, atI_nat (j := 2) rfl, H0, p, n, ins, σ, y, rfl, hS, ?_⟩
      refine ⟨.ref p, rfl, p, dx, _, rfl, h1, l1, .ref a, rfl, a, _, 3, .str z, rfl, rfl, hA, atI_nat (j := 3) rfl, H0, p, n, ins, σ, z, rfl, hS, ?_⟩
      exact ⟨w, σ.m y, σ.m z, rfl, hM.val y, q H hS⟩
def spDoStep (C : Addr) (c : Ct) : Sp := fun vs H Q _ => ∃ (H0 : Hp) (s : Addr) (n : Nat) (ins : List Int) (σ : Mst) (v : V) (st : Stp), vs = [.ref s, v] ∧ StAt C H0 H s n ins σ ∧ n ≤ 10000 ∧ MOk ins σ ∧ Dp c.K H0 v (encS st) ∧ OkS st ∧ ∀ H', StAt C H0 H' s (n + 1) ins (doS ins σ st) → Q .non H'
theorem sc_do_step : FnScope ["self", "step"] ["self", "step"] (defScope s_State_do_step) := ⟨rfl, rfl, rfl, by decide +kernel, rfl, by decide +kernel, by decide +kernel⟩
theorem putK_len {kvs : List (Key × V)} {k : Key} {v : V} : (putK kvs k v).length ≤ kvs.length + 1 := by
  unfold putK
  split
  · rw [List.length_map]; omega
  · rw [List.length_append]; exact Nat.le_refl _
theorem small10k {n : Nat} (h : n ≤ 10001) : n < sizeLine := Nat.lt_of_le_of_lt h (by decide)
theorem words_put (st : Stp) (h : OkS st) : wordS st = "put" ↔ isPut st = true := by
  cases st with
  | set x n => exact ⟨fun e => absurd e (show ¬ ("set" : Str) = "put" by decide +kernel), fun e => (nomatch e)⟩
  | copy x y => exact ⟨fun e => absurd e (show ¬ ("copy" : Str) = "put" by decide +kernel), fun e => (nomatch e)⟩
  | get x => exact ⟨fun e => absurd e (show ¬ ("get" : Str) = "put" by decide +kernel), fun e => (nomatch e)⟩
  | sum w x y z => exact ⟨fun e => absurd e (sum_words_ne w h.1).2.2.2, fun e => (nomatch e)⟩
  | put x => exact ⟨fun _ => rfl, fun _ => rfl⟩
/-- the place of a step -/
def placeS : Stp → Str
  | .set x _ => x
  | .copy x _ => x
  | .sum _ x _ _ => x
  | .get x => x
  | .put x => x
theorem row_two (st : Stp) : (rowS st)[0]? = some (.str (wordS st)) ∧ (rowS st)[1]? = some (.str (placeS st)) := by cases st <;> exact ⟨rfl, rfl⟩
theorem doS_eq (ins : List Int) (σ : Mst) (st : Stp) (h : isPut st = false) : doS ins σ st = { afterV ins σ st with m := putM σ.m (placeS st) (valS ins σ st) } := by
  cases st <;> first | rfl | cases h
theorem ok_do_step (D : DefM c C "do_step" "State.do_step" s_State_do_step) (T : StCl c C) (O1 : OkM c C "value_of" 1 ["self", "place"] (spValueOf C)) (O2 : OkM c C "value_for" 2 ["self", "step"] (spValueFor C c)) : OkM c C "do_step" 3 ["self", "step"] (spDoStep C c) := by
  refine dm_ok D sc_do_step (fun vs H Q E h => ?_) (fun _ _ _ _ _ _ us hl => match us, hl with | [_, _], _ => rfl) fun f cdv A outer s H vs Q E hr h => ?_
  · obtain ⟨H0, p, n, ins, σ, v, st, rfl, _⟩ := h
    rfl
  · obtain ⟨H0, p, n, ins, σ, v, st, rfl, hS, hn, hM, hv, hok, q⟩ := h
    obtain ⟨a, rfl, hA0⟩ := step_at hv
    have hA : SqT c.K H a (rowS st) := hS.gr.sqT hA0
    obtain ⟨dx, b, ip, pp, kvs, h1, h2, h3, h4, h5, h6, h7, h8, g, p0, b0, ip0, pp0⟩ := _root_.id hS
    have l1 : (sf b ip σ.t pp).lookup ("value_of" : Str) = none := lk_no (by decide +kernel) (by decide +kernel) (by decide +kernel) (by decide +kernel)
    have l2 : (sf b ip σ.t pp).lookup ("value_for" : Str) = none := lk_no (by decide +kernel) (by decide +kernel) (by decide +kernel) (by decide +kernel)
    obtain ⟨r0, r1⟩ := row_two st
    refine ⟨_, pss_one (ps_if (pt_cmpR op_eq (pe_ix ix_tup (pv 1) pe_int (fun _ _ => rfl)) pe_str (nomark _))
      (pss_one (ps_expr (pe_bm PySem.F.plainAttrs_list PySem.F.slot_list_append PySem.F.type_list_append mt_append (pe_fld (pv 0) rfl) (pa_cons (pe_m c T.cl O1 (hr.mono (by decide)) (pv 0) (pa_cons (pe_ix ix_tup (pv 1) pe_int (fun _ _ => rfl)) pa_nil)) pa_nil))))
      (pss_one (ps_dput (hu_of hr) (pe_fld (pv 0) rfl) (pe_ix ix_tup (pv 1) pe_int (fun _ _ => rfl)) (pe_m c T.cl O2 hr (pv 0) (pa_cons (pv 1) pa_nil)) rfl))), ?_⟩
    refine ⟨.ref a, rfl, a, _, 0, .str (wordS st), rfl, rfl, hA, atI_nat (j := 0) r0, rfl, _, rfl, ite2 (fun e => ?_) fun e => ?_⟩
    · have hp := (words_put st hok).mp (str_t e)
      cases st with
      | set _ _ => cases hp
      | copy _ _ => cases hp
      | sum _ _ _ _ => cases hp
      | get _ => cases hp
      | put x =>
        refine ⟨.ref p, rfl, p, C, dx, _, _, rfl, h1, T.cl, T.np, lk_p, .inl ⟨rfl, _, .inl (.inl h6)⟩, .ref p, rfl, p, dx, _, rfl, h1, l1, .ref a, rfl, a, _, 1, .str x, rfl, rfl, hA, atI_nat (j := 1) rfl, H0, p, n, ins, σ, x, rfl, hS, ?_⟩
        have npp : pp ≠ p := ne_of h6 h1 (fun z => nomatch z)
        have npb : pp ≠ b := ne_of h6 h2 (fun z => nomatch z)
        refine ⟨pp, _, _, rfl, rfl, h6, by rw [List.length_map]; exact small10k (by omega), q _ ⟨dx, b, ip, pp, kvs, by rw [upd_ne npp.symm]; exact h1, by rw [upd_ne npb.symm]; exact h2, by omega, h4, by rw [upd_ne h8]; exact h5, ?_, ?_, h8, g.put pp0, p0, b0, ip0, pp0⟩⟩
        · rw [upd_same]
          show some (HO.lst (σ.outs.map V.int ++ [V.int (σ.m x)])) = some (HO.lst ((σ.outs ++ [σ.m x]).map V.int))
          rw [List.map_append]
          rfl
        · show (σ.outs ++ [σ.m x]).length ≤ n + 1
          rw [List.length_append, List.length_singleton]
          omega
    · have hp : isPut st = false := by
        cases h9 : isPut st with
        | false => rfl
        | true => exact absurd ((words_put st hok).mpr h9) (str_f e)
      refine ⟨.ref p, rfl, p, dx, _, rfl, h1, l2, .ref a, rfl, H0, p, n, ins, σ, .ref a, st, rfl, hS, hM, hv, hok, hp, fun H1 hS1 => ?_⟩
      obtain ⟨dx', b', ip', pp', kvs', k1, k2, k3, k4, k5, k6, k7, k8, g', p0', b0', ip0', pp0'⟩ := hS1
      refine ⟨.ref p, rfl, p, C, dx', _, _, rfl, k1, T.cl, T.nb, lk_b, .ref a, rfl, a, _, 1, .str (placeS st), rfl, rfl, g'.sqT hA0, atI_nat (j := 1) r1, b', _, rfl, DPut.k (k := Sum.inr (placeS st)) k2 (small10k (by omega)), ?_⟩
      rw [doS_eq ins σ st hp] at q
      have nbp : b' ≠ p := ne_of k2 k1 (fun z => nomatch z)
      have nbi : b' ≠ ip' := ne_of k2 k5 (fun z => nomatch z)
      have nbo : b' ≠ pp' := ne_of k2 k6 (fun z => nomatch z)
      have em : (afterV ins σ st).m = σ.m := by cases st <;> rfl
      refine q _ ⟨dx', b', ip', pp', _, by rw [upd_ne nbp.symm]; exact k1, upd_same, Nat.le_trans putK_len (by omega), fun x => ?_, by rw [upd_ne nbi.symm]; exact k5, by rw [upd_ne nbo.symm]; exact k6, by show (afterV ins σ st).outs.length ≤ n + 1; omega, k8, g'.put b0', p0', b0', ip0', pp0'⟩
      rw [valV_put]
      show _ = V.int (putM σ.m (placeS st) (valS ins σ st) x)
      unfold putM
      by_cases hx : x = placeS st
      · rw [if_pos (by rw [hx]), if_pos hx]
        rfl
      · rw [if_neg (fun z => hx (Sum.inr.inj z)), if_neg hx, ← em]
        exact k4 x
def spBlockBehind (C : Addr) (c : Ct) : Sp := fun vs H Q _ => ∃ (H0 : Hp) (s : Addr) (n : Nat) (ins : List Int) (σ : Mst) (v : V) (e : En), vs = [.ref s, v] ∧ StAt C H0 H s n ins σ ∧ Dp c.K H0 v (encE e) ∧ e ≠ .stop ∧ Q (.str (nextB σ e)) H
theorem sc_block_behind : FnScope ["self", "end"] ["self", "end"] (defScope s_State_block_behind) := ⟨rfl, rfl, rfl, by decide +kernel, rfl, by decide +kernel, by decide +kernel⟩
theorem ok_block_behind (D : DefM c C "block_behind" "State.block_behind" s_State_block_behind) (T : StCl c C) (O1 : OkM c C "value_of" 1 ["self", "place"] (spValueOf C)) : OkM c C "block_behind" 2 ["self", "end"] (spBlockBehind C c) := by
  refine dm_ok D sc_block_behind (fun vs H Q E h => ?_) (fun _ _ _ _ _ _ us hl => match us, hl with | [_, _], _ => rfl) fun f cdv A outer s H vs Q E hr h => ?_
  · obtain ⟨H0, p, n, ins, σ, v, e, rfl, _⟩ := h
    rfl
  · obtain ⟨H0, p, n, ins, σ, v, e, rfl, hS, hv, hne, q⟩ := h
    obtain ⟨a, rfl, hA0⟩ := end_at hv
    have hA : SqT c.K H a (rowE e) := hS.gr.sqT hA0
    obtain ⟨dx, b, ip, pp, kvs, h1, _⟩ := _root_.id hS
    have l1 : (sf b ip σ.t pp).lookup ("value_of" : Str) = none := lk_no (by decide +kernel) (by decide +kernel) (by decide +kernel) (by decide +kernel)
    refine ⟨_, pss_cons (ps_if (pt_cmpR op_eq (pe_ix ix_tup (pv 1) pe_int (fun _ _ => rfl)) pe_str (nomark _)) (pss_one (ps_ret (pe_ix ix_tup (pv 1) pe_int (fun _ _ => rfl)))) pss_nil)
      (pss_one (ps_ret (pe_ifExp (pt_cmpR op_eq (pe_m c T.cl O1 hr (pv 0) (pa_cons (pe_ix ix_tup (pv 1) pe_int (fun _ _ => rfl)) pa_nil)) pe_int (nomark _)) (pe_ix ix_tup (pv 1) pe_int (fun _ _ => rfl)) (pe_ix ix_tup (pv 1) pe_int (fun _ _ => rfl))))), ?_⟩
    cases e with
    | stop => exact absurd rfl hne
    | go t =>
      refine ⟨.ref a, rfl, a, _, 0, .str "go", rfl, rfl, hA, atI_nat (j := 0) rfl, rfl, _, rfl, ite2 (fun e => ?_) fun e => absurd rfl (str_f e)⟩
      exact ⟨.ref a, rfl, a, _, 1, .str t, rfl, rfl, hA, atI_nat (j := 1) rfl, q⟩
    | ite x t u =>
      refine ⟨.ref a, rfl, a, _, 0, .str "if", rfl, rfl, hA, atI_nat (j := 0) rfl, rfl, _, rfl, ite2 (fun e => absurd (str_t e) (by decide +kernel)) fun _ => ?_⟩
      refine ⟨.ref p, rfl, p, dx, _, rfl, h1, l1, .ref a, rfl, a, _, 1, .str x, rfl, rfl, hA, atI_nat (j := 1) rfl, H0, p, n, ins, σ, x, rfl, hS, rfl, _, rfl, ite2 (fun e => ?_) fun e => ?_⟩
      · have e0 : σ.m x = 0 := V.int.inj (of_decide_eq_true e)
        have e1 : nextB σ (.ite x t u) = u := if_pos e0
        rw [e1] at q
        exact ⟨.ref a, rfl, a, _, 3, .str u, rfl, rfl, hA, atI_nat (j := 3) rfl, q⟩
      · have e0 : ¬ σ.m x = 0 := fun z => e (by rw [z]; exact decide_eq_true rfl)
        have e1 : nextB σ (.ite x t u) = t := if_neg e0
        rw [e1] at q
        exact ⟨.ref a, rfl, a, _, 2, .str t, rfl, rfl, hA, atI_nat (j := 2) rfl, q⟩
end Pm
set_option maxHeartbeats 4000000
namespace Pm
open PySem PySem.Spec PyProof.Rows L2 GxR GX
variable {c : Ct} {C : Addr}
/-! ### runs -/
def noB : Blk := ⟨Str.empty, [], .stop⟩
def findB (P : List Blk) (x : Str) : Blk := (P.find? fun b => decide (b.name = x)).getD noB
def runM (P : List Blk) (ins : List Int) : Nat → Blk → Nat → Mst → Nat → List Int × Str × Nat
  | 0, _, _, σ, n => (σ.outs, "limit", n)
  | f + 1, b, j, σ, n => match b.steps[j]? with
    | some s => runM P ins f b (j + 1) (doS ins σ s) (n + 1)
    | none => match b.en with
      | .stop => (σ.outs, "stop", n + 1)
      | .go t => runM P ins f (findB P t) 0 σ (n + 1)
      | .ite x t u => runM P ins f (findB P (nextB σ (.ite x t u))) 0 σ (n + 1)
def σ0 : Mst := ⟨fun _ => 0, 0, []⟩
def runP (P : List Blk) (ins : List Int) (T : Nat) : List Int × Str × Nat := runM P ins T (P.headD noB) 0 σ0 0
theorem sum_val {w : Str} {i j : Int} : 0 ≤ sumI w i j ∧ sumI w i j ≤ 9972 := by
  unfold sumI
  have m : ∀ k : Int, 0 ≤ k % 9973 ∧ k % 9973 ≤ 9972 := fun k => ⟨Int.emod_nonneg _ (by decide), by have := Int.emod_lt_of_pos k (show (0 : Int) < 9973 by decide); omega⟩
  split
  · exact m _
  · split
    · exact m _
    · split
      · exact m _
      · split <;> split <;> exact ⟨by decide, by decide⟩
theorem putM_ok {m : Str → Int} {x : Str} {v : Int} (h : ∀ y, 0 ≤ m y ∧ m y ≤ 9972) (hv : 0 ≤ v ∧ v ≤ 9972) : ∀ y, 0 ≤ putM m x v y ∧ putM m x v y ≤ 9972 := fun y => by
  unfold putM
  split
  · exact hv
  · exact h y
theorem MOk.do {ins : List Int} {σ : Mst} {s : Stp} (hi : InsOk ins) (h : MOk ins σ) (ok : OkS s) : MOk ins (doS ins σ s) := by
  cases s with
  | set x n => exact ⟨putM_ok h.val ok.2, h.t⟩
  | copy x y => exact ⟨putM_ok h.val (h.val y), h.t⟩
  | sum w x y z => exact ⟨putM_ok h.val sum_val, h.t⟩
  | get x =>
    refine ⟨putM_ok h.val ?_, ?_⟩
    · by_cases hl : σ.t < ins.length
      · have e : ins.getD σ.t 0 = ins[σ.t] := by simp [hl]
        rw [e]
        exact hi _ (List.getElem_mem hl)
      · have e : ins.getD σ.t 0 = 0 := by simp [Nat.not_lt.mp hl]
        rw [e]
        exact ⟨by decide, by decide⟩
    · show nextT ins σ.t ≤ ins.length
      have := h.t
      unfold nextT
      split <;> omega
  | put x => exact ⟨h.val, h.t⟩
theorem mok0 {ins : List Int} : MOk ins σ0 := ⟨fun _ => ⟨Int.le_refl 0, (by decide : (0 : Int) ≤ 9972)⟩, Nat.zero_le _⟩
/-! ### the rows of a block -/
def RowsAt (c : Ct) (H : Hp) (t : Addr) (b : Blk) : Prop := ∃ xs, SqT c.K H t xs ∧ DpAll c.K H xs (b.steps.map encS ++ [encE b.en])
theorem RowsAt.gr {H H' : Hp} {t : Addr} {b : Blk} (h : RowsAt c H t b) (g : Gr H H') : RowsAt c H' t b := let ⟨xs, s, a⟩ := h; ⟨xs, g.sqT s, dpAll_gr g a⟩
theorem StAt.new {H0 H : Hp} {s : Addr} {n : Nat} {ins : List Int} {σ : Mst} {t : Addr} {o : HO} (h : StAt C H0 H s n ins σ) (nt : H t = none) : StAt C (upd H0 t o) (upd H t o) s n ins σ := by
  obtain ⟨dx, b, ip, pp, kvs, h1, h2, h3, h4, h5, h6, h7, h8, g, p0, b0, ip0, pp0⟩ := h
  have n1 : s ≠ t := ne_of_none h1 nt
  have n2 : b ≠ t := ne_of_none h2 nt
  have n3 : ip ≠ t := ne_of_none h5 nt
  have n4 : pp ≠ t := ne_of_none h6 nt
  refine ⟨dx, b, ip, pp, kvs, by rw [upd_ne n1]; exact h1, by rw [upd_ne n2]; exact h2, h3, h4, by rw [upd_ne n3]; exact h5, by rw [upd_ne n4]; exact h6, h7, h8, fun x o' e => ?_, by rw [upd_ne n1]; exact p0, by rw [upd_ne n2]; exact b0, by rw [upd_ne n3]; exact ip0, by rw [upd_ne n4]; exact pp0⟩
  by_cases hx : x = t
  · subst hx
    rw [upd_same] at e ⊢
    exact .inl e
  · rw [upd_ne hx] at e ⊢
    rcases g x o' e with q | ⟨ps, ps', rfl, q, tr, u⟩
    · exact .inl q
    · exact .inr ⟨ps, ps', rfl, q, tr, fun pos cv z => (u pos cv z).imp id (goodC_put (.free nt))⟩
theorem StAt.up {H0 H : Hp} {s : Addr} {n : Nat} {ins : List Int} {σ : Mst} (h : StAt C H0 H s n ins σ) : StAt C H0 H s (n + 1) ins σ := by
  obtain ⟨dx, b, ip, pp, kvs, h1, h2, h3, h4, h5, h6, h7, h8, g, p0, b0, ip0, pp0⟩ := h
  exact ⟨dx, b, ip, pp, kvs, h1, h2, by omega, h4, h5, h6, by omega, h8, g, p0, b0, ip0, pp0⟩
theorem find_nm {P : List Blk} {b : Blk} (nd : (P.map (·.name)).Nodup) (hb : b ∈ P) : findB P b.name = b := by
  unfold findB
  induction P with
  | nil => cases hb
  | cons a P ih =>
    rw [List.map_cons, List.nodup_cons] at nd
    rw [List.find?_cons]
    by_cases e : a.name = b.name
    · rw [decide_eq_true e]
      rcases List.mem_cons.mp hb with rfl | h
      · rfl
      · exact absurd (e ▸ List.mem_map_of_mem (f := (·.name)) h) nd.1
    · rw [decide_eq_false e]
      rcases List.mem_cons.mp hb with rfl | h
      · exact absurd rfl e
      · exact ih nd.2 h
theorem find_mem {P : List Blk} {x : Str} (h : x ∈ P.map (·.name)) : findB P x ∈ P ∧ (findB P x).name = x := by
  obtain ⟨b, hb, rfl⟩ := List.mem_map.mp h
  unfold findB
  cases e : P.find? (fun a => decide (a.name = b.name)) with
  | none =>
    have := List.find?_eq_none.mp e b hb
    simp at this
  | some a =>
    have h2 : decide (a.name = b.name) = true := List.find?_some (p := fun a : Blk => decide (a.name = b.name)) e
    exact ⟨List.mem_of_find?_eq_some e, of_decide_eq_true h2⟩
theorem next_goal {σ : Mst} {e : En} (h : e ≠ .stop) : nextB σ e ∈ goals e := by
  cases e with
  | stop => exact absurd rfl h
  | go t => exact List.mem_cons_self
  | ite x t u =>
    show (if σ.m x = 0 then u else t) ∈ [t, u]
    split <;> simp
def wordE : En → Str
  | .go _ => "go"
  | .ite _ _ _ => "if"
  | .stop => "stop"
theorem rowE_word (e : En) : (rowE e)[0]? = some (.str (wordE e)) := by cases e <;> rfl
theorem step_words {s : Stp} (h : OkS s) : wordS s ≠ "stop" ∧ endWords.any (· == wordS s) = false := by
  have : ∀ w ∈ ("set" :: "copy" :: "get" :: "put" :: sumWords : List Str), w ≠ "stop" ∧ endWords.any (· == w) = false := by decide +kernel
  refine this _ ?_
  cases s with
  | set _ _ => exact .head _
  | copy _ _ => exact .tail _ (.head _)
  | get _ => exact .tail _ (.tail _ (.head _))
  | put _ => exact .tail _ (.tail _ (.tail _ (.head _)))
  | sum w _ _ _ => exact .tail _ (.tail _ (.tail _ (.tail _ h.1)))
theorem end_words (e : En) : endWords.any (· == wordE e) = true := by
  have : ∀ w ∈ endWords, endWords.any (· == w) = true := by decide +kernel
  refine this _ ?_
  cases e with
  | go _ => exact .head _
  | ite _ _ _ => exact .tail _ (.head _)
  | stop => exact .tail _ (.tail _ (.head _))
theorem word_stop (e : En) : wordE e = "stop" ↔ e = .stop := by
  cases e with
  | stop => exact ⟨fun _ => rfl, fun _ => rfl⟩
  | go _ => exact ⟨fun h => absurd h (show ¬ ("go" : Str) = "stop" by decide +kernel), fun h => nomatch h⟩
  | ite _ _ _ => exact ⟨fun h => absurd h (show ¬ ("if" : Str) = "stop" by decide +kernel), fun h => nomatch h⟩
theorem runM_step {P : List Blk} {ins : List Int} {f : Nat} {b : Blk} {j : Nat} {σ : Mst} {n : Nat} {s : Stp} (h : b.steps[j]? = some s) : runM P ins (f + 1) b j σ n = runM P ins f b (j + 1) (doS ins σ s) (n + 1) := by
  rw [runM, h]
theorem runM_stop {P : List Blk} {ins : List Int} {f : Nat} {b : Blk} {j : Nat} {σ : Mst} {n : Nat} (h : b.steps[j]? = none) (he : b.en = .stop) : runM P ins (f + 1) b j σ n = (σ.outs, ("stop" : Str), n + 1) := by
  rw [runM, h, he]
theorem runM_end {P : List Blk} {ins : List Int} {f : Nat} {b : Blk} {j : Nat} {σ : Mst} {n : Nat} (h : b.steps[j]? = none) (he : b.en ≠ .stop) : runM P ins (f + 1) b j σ n = runM P ins f (findB P (nextB σ b.en)) 0 σ (n + 1) := by
  rw [runM, h]
  cases hb : b.en with
  | stop => exact absurd hb he
  | go t => rfl
  | ite x t u => rfl
end Pm
set_option maxHeartbeats 4000000
/-! name = {key: value for ..} on one line, the name a local. -/
namespace Pm
open PySem PySem.Spec PyProof.Rows L2 GxR GX
variable {X : Cx}
abbrev ForBlk (X : Cx) (scope : Scope) (p : Cx → Prop) : Prop := ∀ (s : Shared) (H : Hp) (C : Addr) (cl : List (Str × Addr)) (fp : List Addr), p (X.blk s H scope (compEnvC scope cl C X.env) fp)
theorem ps_setDc {i : Nat} {y : Str} {py : Pos} {kx vx tg iter : Expr} {ifs : List Expr} {scope : Scope} {own : List (Str × Nat)} {pos spos : Pos} {wi : TI} {g : TG} {tt : TT} {tk tv : TE} (hc : X.calm = true) (hN : X.N.Nodup) (hy : X.N[i]? = some y)
    (hyl : X.env.scope.names.lookup y = some .local) (hsw : swapsWith (.DictComp kx vx [⟨tg, iter, ifs, 0⟩] scope pos) (some (.Name y py)) spos.line X.env = pure true) (hi : PI X tg iter wi) (ok : BlkOk X.N X.env.scope scope own)
    (hg : ForBlk X scope fun Y => PG Y tg g) (ht : ForBlk X scope fun Y => PTs Y ifs tt) (hk : ForBlk X scope fun Y => PE Y kx tk) (he : ForBlk X scope fun Y => PE Y vx tv) (hs : ∀ x, foldedSetIterable iter X.env x = pure x := by intro _; rfl) :
    PS X (.Assign [.Name y py] (.DictComp kx vx [⟨tg, iter, ifs, 0⟩] scope pos) spos) (tAsg (tDc wi g tt tk tv (own.map (·.2))) (gName i)) := by
  constructor
  intro pins s σ H D I h
  rw [exec_Assign_Name_used _ _ _ _ hsw]
  refine wpAny_bind (wpAny_standAt (wpAny_bind ?_))
  show wpAny _ X.A (do let _ ← comprehension (.DictComp kx vx [⟨tg, iter, ifs, 0⟩] scope pos) scope X.env (firstIterPos [⟨tg, iter, ifs, 0⟩] pos) newDict false (eval iter X.env) (some (assign (.Name y py) X.env))) _ _ s
  have h2 : tDc wi g tt tk tv (own.map (·.2)) σ H (fun x H1 => gName i x σ H1 D.nx) := h
  refine wpAny_bind (thn (dc_core (Qf := fun _ s' => SP X pins D .next s') hc hN I hi ok hg ht hk he hs h2 fun L C s' m H' I' q hn f => ?_) fun _ s' hq => wpAny_pure (wpAny_pure hq))
  obtain ⟨f0, f1, _, f3, f4, f5⟩ := f
  show wpAny _ _ (assign (.Name y py) X.env (.ref L)) _ _ _
  refine wpAny_assign_Name (store_ok2 (v := V.ref L) I' hN hy (.inl hyl) rfl (fun s2 I2 ⟨a, sb, ha⟩ => ?_) (.inr hyl))
  have haC : C ≠ a := by
    rcases ha with rfl | z
    · exact f1
    · exact fun e => f4 y a z e.symm
  exact ⟨m, hn.sameBut sb haC, fun h3 sb3 => ⟨_, H', I2.turned (t' := s2.toks) (fun b o hb e => (sb3.2 b hb).trans e) f0 f1 f3 f4 f5, q⟩⟩
theorem sw_dict {kx vx : Expr} {gs : List Comprehension} {scope : Scope} {pos py : Pos} {y : Str} {l : Nat} {env : Env} (hk : env.scope.kind = .function) (hy : env.scope.names.lookup y = some .local) (hl : (py.line == pos.line) = true)
    (ha : (scope.names.any fun (n, k) => n == y && (k == .local || k == .cell)) = false) : swapsWith (.DictComp kx vx gs scope pos) (some (.Name y py)) l env = pure true := by
  have ky : env.kindOf y = some .local := hy
  have hb : env.blockKind = .function := by unfold Env.blockKind; rw [hk]; rfl
  unfold swapsWith
  simp only [hb, ky, ha, Expr.pos, hl]
  rfl
end Pm
set_option maxHeartbeats 4000000
namespace Pm
open PySem PySem.Spec PyProof.Rows L2 GxR GX
variable {c : Ct} {C : Addr}
/-- a run's answer stands at p -/
def ResAt (H : Hp) (p : Addr) (r : List Int × Str × Nat) : Prop := ∃ q, H p = some (.tup [.ref q, .str r.2.1, .int r.2.2]) ∧ H q = some (.tup (r.1.map V.int))
theorem ResAt.gr {H H' : Hp} {p : Addr} {r : List Int × Str × Nat} (h : ResAt H p r) (g : Gr H H') : ResAt H' p r := let ⟨q, a, b⟩ := h; ⟨q, g.tup a, g.tup b⟩
def spRun (c : Ct) : Sp := fun vs H Q _ => ∃ (v : V) (a : Addr) (T : Nat) (P : List Blk) (ins : List Int), vs = [v, .ref a, .int T] ∧ Dp c.K H v (encP P) ∧ OkP P ∧ SqL c.K H a (ins.map V.int) ∧ ins.length ≤ 30 ∧ InsOk ins ∧ 1 ≤ T ∧ T ≤ 9999 ∧ Tabs c.ts H ∧
  ∀ H' p, Gr H H' → ResAt H' p (runP P ins T) → Q (.ref p) H'
abbrev nRun : List Str := ["program", "inputs", "turns", "rows_by_name", "state", "rows", "at", "done", "row", "block"]
theorem sc_run : FnScope nRun ["program", "inputs", "turns"] (defScope s_run) := ⟨rfl, rfl, rfl, by decide +kernel, rfl, by decide +kernel, by decide +kernel⟩
/-- run, called with and without its keyword -/
def OkRun (c : Ct) (k : Nat) : Prop := ∃ f fd, FnOk c.P c.w c.K c.mg c.base CX0 k f fd ["program", "inputs", "turns"] (spRun c) ∧ c.mg "run" = some (.ref f) ∧ PySem.W.keepIn c.K (.ref f) = true ∧
  (∃ ds, Vals [.int 500] ds ∧ Binds c.K fd ["program", "inputs", "turns"] ds) ∧ KBn c.K fd ["program", "inputs", "turns"] 2 ["turns"] (fun us ws => us ++ ws) (fun vs zs => vs ++ zs)
structure RunIn (c : Ct) (C : Addr) : Prop where
  T : StCl c C
  B : Bl c
  F : Fm c
  mg : c.mg "State" = some (.ref C)
  chkP : Ok c "check_program" 10 ["thing"] (spCheckProgram c)
  chkI : Ok c "check_inputs" 4 ["thing"] (spCheckInputs c)
  chkT : Ok c "check_turns" 2 ["thing"] (spCheckTurns c)
  rows : Ok c "rows_of" 1 ["block"] (spRowsOf c)
  ini : OkI c C 1 ["self", "inputs"] (spStInit C c)
  step : OkM c C "do_step" 3 ["self", "step"] (spDoStep C c)
  beh : OkM c C "block_behind" 2 ["self", "end"] (spBlockBehind C c)
theorem dpAll_getD {K : PySem.W.Frag} {H : Hp} : ∀ {vs : List V} {ds : List PyData} {i : Nat} {d : PyData}, DpAll K H vs ds → ds[i]? = some d → ∃ v, vs[i]? = some v ∧ Dp K H v d
  | _, _, _, _, .nil, e => by simp at e
  | _, _, 0, _, .cons r _, e => by simp at e; subst e; exact ⟨_, rfl, r⟩
  | _, _, i + 1, d, .cons _ t, e => by
    obtain ⟨v, h1, h2⟩ := dpAll_getD (i := i) (d := d) t (by simpa using e)
    exact ⟨v, by simpa using h1, h2⟩
/-- the table of rows: what the first i blocks have -/
def TabR (c : Ct) (H : Hp) (kvs : List (Key × V)) (bs : List Blk) : Prop := ∀ b ∈ bs, ∃ t, valV kvs (Sum.inr b.name) = some (.ref t) ∧ RowsAt c H t b
set_option maxHeartbeats 8000000 in
theorem ok_run (D : ∃ f fd cd, DefAt c "run" s_run [("turns", .int 500)] f fd cd) (R : RunIn c C) : OkRun c 11 := by
  obtain ⟨T, B, F, hmg, O1, O2, O3, O4, O5, O6, O7⟩ := R
  obtain ⟨f, fd, cd, ⟨oc, od, dV, kV, doc, pm, an, ct, osl, rfl, lk, hcd, hD, hK⟩, kp, hm⟩ := D
  have FD : FunD c.K "run" "run" (defArgs s_run) (defBody s_run) (defScope s_run) [] [("turns", .int 500)] f _ := ⟨⟨oc, od, dV, kV, doc, pm, an, .ref cd, ct, osl, rfl, lk, hcd, hD, hK⟩, kp⟩
  obtain ⟨aE, hE, hEq⟩ := F.ends
  refine ⟨f, _, fn_of lk hcd sc_run (fun vs H Q E h => ?_) fun A outer s H vs Q E hr h => ?_, hm, kp, FD.binds0 (n := 2) (by simp) rfl (fun D doc pm an cdv ct us ks h1 h2 => ?_), ?_⟩
  · obtain ⟨v, a, T, P, ins, rfl, _⟩ := h
    rfl
  · obtain ⟨v, a, tu, P, ins, rfl, hv, okP, hA, hil, hin, ht1, ht2, hT, q⟩ := h
    have nd := sc_run.nd
    refine ⟨_, PSs.nox (pss_cons (ps_expr (pe_f c O1 hr (pa_cons (pv 0) pa_nil)))
      (pss_cons (ps_expr (pe_f c O2 (hr.mono (by decide)) (pa_cons (pv 1) pa_nil)))
      (pss_cons (ps_expr (pe_f c O3 (hr.mono (by decide)) (pa_cons (pv 2) pa_nil)))
      (pss_cons (ps_setDc (i := 3) (own := [("block", 9)]) (g := gName 9) (tt := tYes) (tk := tOp (rIxT c.K) (tVar 9) (tC (.int 0))) (tv := tCall (spRowsOf c) [] E0 (tCons (tVar 9) tNil)) rfl nd rfl rfl (sw_dict rfl rfl rfl (by decide +kernel)) (pi_tup (pv 0)) (blkOk_by (N := nRun) (sc := defScope s_run) (by decide +kernel))
          (fun _ _ _ _ _ => pg_name (i := 9) nd rfl (.inl rfl)) (fun _ _ _ _ _ => pts_nil) (fun _ _ _ _ _ => pe_ix ix_tup (pv 9) pe_int (fun _ _ => rfl)) (fun _ _ _ _ _ => pe_f c O4 (hr.mono (by decide)) (pa_cons (pv 9) pa_nil)))
      (pss_cons (ps_set (i := 4) nd rfl (.inl rfl) (pe_new c O5 hmg (hr.mono (by decide)) (pa_cons (pv 1) pa_nil)))
      (pss_cons (ps_set (i := 5) nd rfl (.inl rfl) (pe_f c O4 (hr.mono (by decide)) (pa_cons (pe_ix ix_tup (pv 0) pe_int (fun _ _ => rfl)) pa_nil)))
      (pss_cons (ps_set (i := 6) nd rfl (.inl rfl) pe_int)
      (pss_cons (ps_for PassesOwn.never rfl (pi_range1 rfl B.range (pa_cons (pv 2) pa_nil)) (pg_name (i := 7) nd rfl (.inl rfl))
        (pss_cons (ps_set (i := 8) nd rfl (.inl rfl) (pe_ix ix_tup (pv 5) (pv 6) (fun _ _ => rfl)))
        (pss_cons (ps_if (pt_cmpR op_eq (pe_ix ix_tup (pv 8) pe_int (fun _ _ => rfl)) pe_str (nomark _)) (pss_one (ps_ret (pe_tup (pa_cons (pe_callTy call_tuple_of (by rfl) B.tuple (by decide +kernel) (pa_cons (pe_fld (pv 4) rfl) pa_nil)) (pa_cons pe_str (pa_cons (pe_op op_add (pv 7) pe_int) pa_nil)))))) pss_nil)
        (pss_one (ps_if (pt_cmpR op_in_seq (pe_ix ix_tup (pv 8) pe_int (fun _ _ => rfl)) (pe_glob (v := .ref aE) (by rfl) hE rfl) (by rfl))
          (pss_cons (ps_set (i := 5) nd rfl (.inl rfl) (pe_dget (hu_of hr) (pv 3) (pe_m c T.cl O7 (hr.mono (by decide)) (pv 4) (pa_cons (pv 8) pa_nil)) (fun _ _ => rfl))) (pss_one (ps_set (i := 6) nd rfl (.inl rfl) pe_int)))
          (pss_cons (ps_expr (pe_m c T.cl O6 (hr.mono (by decide)) (pv 4) (pa_cons (pv 8) pa_nil))) (pss_one (ps_aug (i := 6) nd rfl (.inl rfl) pe_int in_add))))))))
      (pss_one (ps_ret (pe_tup (pa_cons (pe_callTy call_tuple_of (by rfl) B.tuple (by decide +kernel) (pa_cons (pe_fld (pv 4) rfl) pa_nil)) (pa_cons pe_str (pa_cons (pv 2) pa_nil)))))))))))))), ?_⟩
    refine ⟨v, rfl, v, P, rfl, hv, okP, hT, fun H1 g1 => ?_⟩
    refine ⟨.ref a, rfl, a, ins, rfl, g1.sqL hA, hil, hin, hT.gr g1, fun H2 g2 => ?_⟩
    refine ⟨.int tu, rfl, tu, rfl, by omega, by omega, ?_⟩
    have g02 : Gr H H2 := g1.trans g2
    obtain ⟨pa, xs, rfl, hPa, hPx⟩ := dp_tup (dp_gr g02 hv)
    have lenP : xs.length = P.length := by rw [dpAll_length hPx, List.length_map]
    refine ⟨.ref pa, rfl, pa, rfl, ⟨_, hPa⟩, fun D nD => ?_⟩
    refine dc_tup (xs := xs) (fun i H' => Gr H2 H' ∧ ∃ kvs, H' D = some (.dK kvs) ∧ kvs.length ≤ i ∧ ∀ b ∈ P.take i, ∃ t ys, valV kvs (Sum.inr b.name) = some (.ref t) ∧ H' t = some (.tup ys) ∧ DpAll c.K H2 ys (b.steps.map encS ++ [encE b.en]))
      ⟨(Gr.refl _).put nD, [], upd_same, Nat.le_refl _, fun b hb => by simp at hb⟩ (fun i H' _ ⟨hg, _⟩ => hg.sqT hPa) (fun i x H' hx ⟨hg, kvs, hD1, hl1, htab⟩ => ?_) fun H3 ⟨g3, kvs, hD3, _, htab⟩ => ?_
    · obtain ⟨d, hd, hdp⟩ := dpAll_get hPx hx
      obtain ⟨b, hb, rfl⟩ : ∃ b, P[i]? = some b ∧ d = encB b := by
        rw [List.getElem?_map] at hd
        cases e9 : P[i]? with
        | none => rw [e9] at hd; cases hd
        | some b => rw [e9] at hd; exact ⟨b, rfl, (Option.some.inj hd).symm⟩
      have hbP := List.mem_of_getElem? hb
      have hi : i < P.length := (List.getElem?_eq_some_iff.mp hb).1
      obtain ⟨ba, bp, en, ys, rfl, s1, s2, s3, s4⟩ := blk_at hdp
      have few := (okP.blk b hbP).few
      have ly : ys.length ≤ 100 := by rw [dpAll_length s3, List.length_map]; omega
      have fP := okP.few
      refine ⟨rfl, .ref ba, rfl, ba, _, 0, .str b.name, rfl, rfl, hg.sqT s1, atI_nat (j := 0) rfl, .ref ba, rfl, ba, _, bp, en, ys, rfl, hg.sqT s1, hg.sqT s2, ly, fun t nt => ?_⟩
      have nDt : D ≠ t := ne_of_none hD1 nt
      refine ⟨kvs, Sum.inr b.name, rfl, by rw [upd_ne nDt]; exact hD1, small1000 (by omega), (hg.trans (.new nt)).put nD (.dK (by rw [upd_ne nDt]; exact hD1)), _, upd_same, Nat.le_trans putK_len (by omega), fun b' hb' => ?_⟩
      rw [List.take_add_one, hb, List.mem_append] at hb'
      have key : b' = b ∨ (b' ∈ P.take i ∧ b'.name ≠ b.name) := by
        rcases hb' with h | h
        · by_cases e : b'.name = b.name
          · left
            rw [← find_nm okP.nd (List.mem_of_mem_take h), e, find_nm okP.nd hbP]
          · exact .inr ⟨h, e⟩
        · left
          simpa using h
      rcases key with rfl | ⟨h, ne⟩
      · refine ⟨t, ys ++ [en], by rw [valV_put, if_pos rfl], by rw [upd_ne nDt.symm, upd_same], dpAll_snoc s4 s3⟩
      · obtain ⟨t', zs, h1, h2, h3⟩ := htab b' h
        have n1 : t' ≠ t := ne_of_none h2 nt
        have n2 : t' ≠ D := ne_of h2 hD1 (fun z => nomatch z)
        refine ⟨t', zs, ?_, by rw [upd_ne n2, upd_ne n1]; exact h2, h3⟩
        rw [valV_put, if_neg (fun z => ne (Sum.inr.inj z))]
        exact h1
    · rw [lenP, List.take_of_length_le (Nat.le_refl _)] at htab
      have htab3 : ∀ b ∈ P, ∃ t, valV kvs (Sum.inr b.name) = some (.ref t) ∧ RowsAt c H3 t b := fun b hb => by
        obtain ⟨t, ys, h1, h2, h3⟩ := htab b hb
        exact ⟨t, h1, ys, .inl (.inl h2), dpAll_gr g3 h3⟩
      have g03 : Gr H H3 := g02.trans g3
      refine ⟨.ref a, rfl, fun sa dx ns ndx nex => ⟨H3, sa, dx, a, ins, rfl, (Gr.new ndx).put ns (.free (by rw [upd_ne (by first | exact nex | exact Ne.symm nex)]; exact ns)), ns, upd_same, g03.sqL hA, fun H4 hS4 => ⟨rfl, ?_⟩⟩⟩
      obtain ⟨b0, P', rfl⟩ : ∃ b0 P', P = b0 :: P' := by
        cases P with
        | nil => have := okP.one; simp at this
        | cons b0 P' => exact ⟨b0, P', rfl⟩
      obtain ⟨x0, hx0, hd0⟩ := dpAll_getD (i := 0) (d := encB b0) hPx rfl
      obtain ⟨ba, bp, en, ys, rfl, s1, s2, s3, s4⟩ := blk_at hd0
      have g4 : Gr H3 H4 := hS4.gr
      have g24 : Gr H2 H4 := g3.trans g4
      have few := (okP.blk b0 List.mem_cons_self).few
      have ly : ys.length ≤ 100 := by rw [dpAll_length s3, List.length_map]; omega
      refine ⟨.ref pa, rfl, pa, _, 0, .ref ba, rfl, rfl, g24.sqT hPa, atI_nat (j := 0) hx0, ba, _, bp, en, ys, rfl, g24.sqT s1, g24.sqT s2, ly, fun t0 nt => ?_⟩
      generalize hrow : (HO.tup (ys ++ [en])) = ro
      have nt3 : H3 t0 = none := g4.free nt
      have hS5 := hS4.new (o := ro) nt
      generalize hH5 : upd H3 t0 ro = H5 at hS5
      have g35 : Gr H3 H5 := by rw [← hH5]; exact .new nt3
      have g05 : Gr H H5 := g03.trans g35
      have hD5 : H5 D = some (.dK kvs) := g35.keep hD3 fun _ z => nomatch z
      have r0 : RowsAt c H5 t0 b0 := ⟨ys ++ [en], .inl (.inl (by rw [← hH5, upd_same, hrow])), dpAll_gr (g3.trans g35) (dpAll_snoc s4 s3)⟩
      generalize hP : b0 :: P' = PP at *
      refine ⟨.int tu, rfl, tu, rfl, by omega, by omega, ?_⟩
      refine for_range (n := tu) (fun i σ H' => ∃ dv rv t b, ∃ j : Nat, ∃ ms : Mst, σ = [some (.ref pa), some (.ref a), some (.int tu), some (.ref D), some (.ref sa), some (.ref t), some (.int j), dv, rv, none] ∧ StAt C H5 H' sa i ins ms ∧ RowsAt c H5 t b ∧ b ∈ PP ∧ j ≤ b.steps.length ∧ MOk ins ms ∧ runM PP ins (tu - i) b j ms i = runP PP ins tu) ?_ (fun i σ H' hi hPv => ?_) fun σ H' hPv => ?_
      · refine ⟨none, none, t0, b0, 0, σ0, rfl, hS5, r0, by rw [← hP]; exact List.mem_cons_self, Nat.zero_le _, mok0, ?_⟩
        rw [← hP]
        rfl
      · obtain ⟨dv, rv, t, b, j, ms, rfl, hS, ⟨zs, hz1, hz2⟩, hb, hj, hM, hrun⟩ := hPv
        have gS := hS.gr
        obtain ⟨dx', bb, ip, pp, kv2, h1, h2, h3, h4, h5, h6, h7, h8, _⟩ := _root_.id hS
        have okb := okP.blk b hb
        obtain ⟨fu, hfu⟩ : ∃ fu, tu - i = fu + 1 := ⟨tu - i - 1, by omega⟩
        have hfu2 : tu - (i + 1) = fu := by omega
        rw [hfu] at hrun
        cases hst : b.steps[j]? with
        | some st =>
          have hd : (b.steps.map encS ++ [encE b.en])[j]? = some (encS st) := by
            rw [List.getElem?_append_left (by rw [List.length_map]; exact (List.getElem?_eq_some_iff.mp hst).1), List.getElem?_map, hst]; rfl
          obtain ⟨x, hx, hdx⟩ := dpAll_getD hz2 hd
          have okst := okb.steps st (List.mem_of_getElem? hst)
          obtain ⟨ar, rfl, hAr⟩ := step_at hdx
          obtain ⟨w0, w1⟩ := row_two st
          obtain ⟨e1, e2⟩ := step_words okst
          refine ⟨.ref t, rfl, .int j, rfl, t, zs, j, .ref ar, rfl, rfl, gS.sqT hz1, atI_nat hx, ?_⟩
          refine ⟨.ref ar, rfl, ar, _, 0, .str (wordS st), rfl, rfl, gS.sqT hAr, atI_nat (j := 0) w0, rfl, _, rfl, ite2 (fun e => absurd (str_t e) e1) fun _ => ?_⟩
          refine ⟨.ref ar, rfl, ar, _, 0, .str (wordS st), rfl, rfl, gS.sqT hAr, atI_nat (j := 0) w0, aE, _, rfl, .inr (hEq _), rfl, flat_words _, _, rfl, ?_⟩
          have e3 : inV (.str (wordS st)) (endWords.map V.str) = false := (eqV_text (K := c.K) (H := H') (.str (wordS st)) rfl endWords).2.trans e2
          show (if (inV (.str (wordS st)) (endWords.map V.str)) = true then _ else _)
          rw [e3]
          refine iteF ?_
          have l1 : (sf bb ip ms.t pp).lookup ("do_step" : Str) = none := lk_no (by decide +kernel) (by decide +kernel) (by decide +kernel) (by decide +kernel)
          refine ⟨.ref sa, rfl, sa, dx', _, rfl, h1, l1, .ref ar, rfl, H5, sa, i, ins, ms, .ref ar, st, rfl, hS, by omega, hM, hdx, okst, fun H6 hS6 => ?_⟩
          refine ⟨.int j, rfl, j, 1, rfl, rfl, ?_⟩
          refine ⟨some (.int (0 + i)), some (.ref ar), t, b, j + 1, doS ins ms st, rfl, hS6, ⟨zs, hz1, hz2⟩, hb, (List.getElem?_eq_some_iff.mp hst).1, hM.do hin okst, ?_⟩
          rw [hfu2, ← hrun, runM_step hst]
        | none =>
          have hjl : j = b.steps.length := by have := List.getElem?_eq_none_iff.mp hst; omega
          have hd : (b.steps.map encS ++ [encE b.en])[j]? = some (encE b.en) := by
            rw [List.getElem?_append_right (by rw [List.length_map]; omega), List.length_map, hjl, Nat.sub_self]; rfl
          obtain ⟨x, hx, hdx⟩ := dpAll_getD hz2 hd
          obtain ⟨ar, rfl, hAr⟩ := end_at hdx
          have w0 := rowE_word b.en
          refine ⟨.ref t, rfl, .int j, rfl, t, zs, j, .ref ar, rfl, rfl, gS.sqT hz1, atI_nat hx, ?_⟩
          refine ⟨.ref ar, rfl, ar, _, 0, .str (wordE b.en), rfl, rfl, gS.sqT hAr, atI_nat (j := 0) w0, rfl, _, rfl, ite2 (fun e => ?_) fun e => ?_⟩
          · have es := (word_stop b.en).mp (str_t e)
            rw [runM_stop hst es] at hrun
            refine ⟨.ref sa, rfl, sa, C, dx', _, _, rfl, h1, T.cl, T.np, lk_p, pp, _, rfl, .inl ⟨.inl (.inl h6), fun l nl => ?_⟩⟩
            refine ⟨.int (0 + i), rfl, 0 + i, 1, rfl, rfl, by show 3 ≤ sizeLine; decide, fun p np => ?_⟩
            have nlp : l ≠ p := ne_of_none upd_same np
            refine q _ p (((g05.trans gS).trans (.new nl)).trans (.new np)) ⟨l, ?_, ?_⟩
            · rw [upd_same, ← hrun]
              show some (HO.tup [V.ref l, V.str "stop", V.int (0 + i + 1)]) = some (HO.tup [V.ref l, V.str "stop", V.int ((i + 1 : Nat) : Int)])
              rw [Int.zero_add]
              rfl
            · rw [upd_ne nlp, upd_same, ← hrun]
          · have es : b.en ≠ .stop := fun z => (str_f e) ((word_stop b.en).mpr z)
            rw [runM_end hst es] at hrun
            refine ⟨.ref ar, rfl, ar, _, 0, .str (wordE b.en), rfl, rfl, gS.sqT hAr, atI_nat (j := 0) w0, aE, _, rfl, .inr (hEq _), rfl, flat_words _, _, rfl, ?_⟩
            have e3 : inV (.str (wordE b.en)) (endWords.map V.str) = true := (eqV_text (K := c.K) (H := H') (.str (wordE b.en)) rfl endWords).2.trans (end_words b.en)
            show (if (inV (.str (wordE b.en)) (endWords.map V.str)) = true then _ else _)
            rw [e3]
            refine iteT ?_
            have l1 : (sf bb ip ms.t pp).lookup ("block_behind" : Str) = none := lk_no (by decide +kernel) (by decide +kernel) (by decide +kernel) (by decide +kernel)
            have hgo := okP.go b hb _ (next_goal (σ := ms) es)
            obtain ⟨f1, f2⟩ := find_mem hgo
            obtain ⟨t', ht', hr'⟩ := htab3 _ f1
            rw [f2] at ht'
            have dg : DGet H' D (.str (nextB ms b.en)) (some (.ref t')) := by
              rw [← ht']
              exact DGet.k (k := Sum.inr (nextB ms b.en)) (gS.keep hD5 fun _ z => nomatch z)
            refine ⟨.ref D, rfl, .ref sa, rfl, sa, dx', _, rfl, h1, l1, .ref ar, rfl, H5, sa, i, ins, ms, .ref ar, b.en, rfl, hS, hdx, es, D, .ref t', rfl, dg, ?_⟩
            refine ⟨some (.int (0 + i)), some (.ref ar), t', findB PP (nextB ms b.en), 0, ms, rfl, hS.up, hr'.gr g35, f1, Nat.zero_le _, hM, ?_⟩
            rw [hfu2, ← hrun]
      · obtain ⟨dv, rv, t, b, j, ms, rfl, hS, _, _, _, _, hrun⟩ := hPv
        have gS := hS.gr
        obtain ⟨dx', bb, ip, pp, kv2, h1, h2, h3, h4, h5, h6, h7, h8, _⟩ := _root_.id hS
        rw [Nat.sub_self] at hrun
        refine ⟨.ref sa, rfl, sa, C, dx', _, _, rfl, h1, T.cl, T.np, lk_p, pp, _, rfl, .inl ⟨.inl (.inl h6), fun l nl => ?_⟩⟩
        refine ⟨.int tu, rfl, by show 3 ≤ sizeLine; decide, fun p np => ?_⟩
        have nlp : l ≠ p := ne_of_none upd_same np
        refine q _ p (((g05.trans gS).trans (.new nl)).trans (.new np)) ⟨l, ?_, ?_⟩
        · rw [upd_same, ← hrun]
          rfl
        · rw [upd_ne nlp, upd_same, ← hrun]
          rfl
  · match us, ks, h1, h2 with
    | [_, _], [_], _, _ => exact ⟨_, _, _, _, _, _, rfl, rfl, rfl⟩
  · refine ⟨fun s us ws X l1 l2 => ?_, fun r1 r2 => r1.append r2⟩
    rcases hD with ⟨_, rfl⟩ | ⟨e, _⟩
    · match us, ws, l1, l2 with
      | [_, _], [_], _, _ => exact .of_eq rfl
    · exact absurd rfl e
end Pm
set_option maxHeartbeats 4000000
namespace Pm
open PySem PySem.Spec PyProof.Rows L2 GxR GX
variable {c : Ct} {C : Addr}
theorem noL_P (P : List Blk) : noL (encP P) := noLs_of fun d hd => by
  obtain ⟨b, _, rfl⟩ := List.mem_map.mp hd
  exact noL_B b
theorem dpAll_append {K : PySem.W.Frag} {H : Hp} : ∀ {xs ys : List V} {ds es : List PyData}, DpAll K H xs ds → DpAll K H ys es → DpAll K H (xs ++ ys) (ds ++ es)
  | _, _, _, _, .nil, h => h
  | _, _, _, _, .cons a t, h => .cons a (dpAll_append t h)
def spLoud (c : Ct) : Sp := fun vs H Q _ => ∃ (a : Addr) (k : Int), vs = [.ref a, .int k] ∧ ScrAt c H a ∧ 0 ≤ k ∧ ∀ v H' P, GenP 7 P → Dp c.K H' v (encP P) → Gr H H' → Q v H'
abbrev nLoud : List Str := ["_law_script", "_law_at", "_law_made", "_law_k", "_law_block", "_law_places", "_law_j", "_law_place"]
theorem sc_loud : FnScope nLoud ["_law_script", "_law_at"] (defScope s_law_loud) := ⟨rfl, rfl, rfl, by decide +kernel, rfl, by decide +kernel, by decide +kernel⟩
set_option maxHeartbeats 8000000 in
theorem ok_loud (D : Df c "_law_loud" s_law_loud) (B : Bl2 c) (O : OkPick c) (O2 : Ok c "_law_program" 3 ["_law_script", "_law_at"] (spProgram c)) : Ok c "_law_loud" 4 ["_law_script", "_law_at"] (spLoud c) := by
  refine df_ok D sc_loud (fun vs H Q E h => ?_) (fun _ _ _ _ _ _ us hl => match us, hl with | [_, _], _ => rfl) fun f cd A outer s H vs Q E hr h => ?_
  · obtain ⟨a, k, rfl, _⟩ := h
    rfl
  · obtain ⟨a, k, rfl, hS, k0, q⟩ := h
    have nd := sc_loud.nd
    have hr1 : Room 1 _ := hr.mono (by decide)
    refine ⟨_, pss_cons (ps_set (i := 2) nd rfl (.inl rfl) (pe_lst pa_nil))
      (pss_cons (ps_for PassesOwn.never rfl (pi_enumT rfl B.enumerate (pa_cons (pe_f c O2 hr (pa_cons (pv 0) (pa_cons (pv 1) pa_nil))) pa_nil)) (pg_tup rfl (pgs_cons (pg_name (i := 3) nd rfl (.inr rfl)) (pgs_cons (pg_name (i := 4) nd rfl (.inl rfl)) pgs_nil)))
        (pss_cons (ps_setLc (i := 5) (own := [("_law_j", 6)]) (g := gName 6) (tt := tYes) rfl nd rfl rfl (sw_true rfl rfl rfl (by decide +kernel)) (pi_range1 rfl B.range (pa_cons pe_int pa_nil)) (blkOk_by (N := nLoud) (sc := defScope s_law_loud) (by decide +kernel)) (fun _ _ _ _ _ => pg_name (i := 6) nd rfl (.inl rfl)) (fun _ _ _ _ _ => pts_nil)
            (fun _ _ _ _ _ => pe_ix ix_str pe_str (pe_f c O hr1 (pa_cons (pv 0) (pa_cons (pe_op op_add (pe_op op_add (pe_op op_add (pv 1) pe_int) (pe_op op_mul pe_int (pv 3))) (pv 6)) (pa_cons pe_int pa_nil)))) (fun _ _ => rfl)))
        (pss_one (ps_expr (pe_bm PySem.F.plainAttrs_list PySem.F.slot_list_append PySem.F.type_list_append mt_append (pv 2) (pa_cons (pe_tup (pa_cons (pe_ix ix_tup (pv 4) pe_int (fun _ _ => rfl))
          (pa_cons (pe_op op_catA (pe_ix ix_tup (pv 4) pe_int (fun _ _ => rfl)) (pe_callTy call_tuple_of (by rfl) B.tuple (by decide +kernel) (pa_cons (pe_lc (own := [("_law_place", 7)]) (g := gName 7) (tt := tYes) (te := tTup (tCons (tC (.str "put")) (tCons (tVar 7) tNil))) rfl nd (pi_list (pv 5)) (blkOk_by (N := nLoud) (sc := defScope s_law_loud) (by decide +kernel)) (fun _ _ _ _ _ => pg_name (i := 7) nd rfl (.inl rfl)) (fun _ _ _ _ _ => pts_nil)
            (fun _ _ _ _ _ => pe_tup (pa_cons pe_str (pa_cons (pv 7) pa_nil)))) pa_nil)))
          (pa_cons (pe_ix ix_tup (pv 4) pe_int (fun _ _ => rfl)) pa_nil)))) pa_nil))))))
      (pss_one (ps_ret (pe_callTy call_tuple_of (by rfl) B.tuple (by decide +kernel) (pa_cons (pv 2) pa_nil))))), ?_⟩
    refine ⟨Nat.zero_le _, fun M nM => ?_⟩
    have g0 : Gr H (upd H M (.lst [])) := .new nM
    refine ⟨.ref a, rfl, .int k, rfl, a, k, rfl, hS.gr g0, k0, fun v H1 P genP hv g1 => ?_⟩
    have hM1 : H1 M = some (.lst []) := g1.lst upd_same
    have gH : Gr H (hide H1 M) := hide_from (g0.trans g1) nM
    have hvb := dp_hide hM1 (noL_P P) hv
    generalize hHb : hide H1 M = Hb at gH hvb
    have nMb : Hb M = none := by rw [← hHb]; exact hide_same
    have gb1 : Gr Hb H1 := by rw [← hHb]; exact hide_to _ _
    obtain ⟨mn, h1, h6, hnm, hgb⟩ := genP.ex
    obtain ⟨pa, xs, rfl, hPa, hPx⟩ := dp_tup hvb
    have lx : xs.length = P.length := by rw [dpAll_length hPx, List.length_map]
    have lP : P.length = mn := by
      have := congrArg List.length hnm
      rw [List.length_map, List.length_take] at this
      have e : nm6.length = 6 := rfl
      omega
    refine ⟨pa, xs, rfl, gb1.sqT hPa, ?_⟩
    refine for_enumT (xs := xs) (fun i σ H' => ∃ kv bv pv, σ = [some (.ref a), some (.int k), some (.ref M), kv, bv, pv, none, none] ∧ Gr Hb H' ∧ ∃ vs, ∃ bs : List Blk, H' M = some (.lst vs) ∧ DpAll c.K (hide H' M) vs (bs.map encB) ∧ bs.map Blk.name = (P.take i).map Blk.name ∧ ∀ b ∈ bs, GenB 7 mn b)
      ⟨none, none, none, rfl, gb1, [], [], hM1, .nil, rfl, fun b hb => by cases hb⟩ (fun i σ H' _ ⟨_, _, _, _, hg, _⟩ => hg.sqT hPa) (fun i x σ T H2 hx hPv nT => ?_) fun σ H2 hPv => ?_
    · obtain ⟨kv, bv, pv, rfl, g2, vs, bs, hM2, hd2, hn2, hb2⟩ := hPv
      obtain ⟨d, hd, hdp⟩ := dpAll_get hPx hx
      obtain ⟨b, hb, rfl⟩ : ∃ b, P[i]? = some b ∧ d = encB b := by
        rw [List.getElem?_map] at hd
        cases e9 : P[i]? with
        | none => rw [e9] at hd; cases hd
        | some b => rw [e9] at hd; exact ⟨b, rfl, (Option.some.inj hd).symm⟩
      have hi : i < P.length := (List.getElem?_eq_some_iff.mp hb).1
      have gen := hgb b (List.mem_of_getElem? hb)
      obtain ⟨ba, bp, en, ys, rfl, s1, s2, s3, s4⟩ := blk_at hdp
      have lbs : bs.length = i := by
        have := congrArg List.length hn2
        rw [List.length_map, List.length_map, List.length_take] at this
        omega
      refine ⟨T, _, rfl, .inl (.inl upd_same), rfl, .int (i : Nat), _, rfl, .ref ba, _, rfl, rfl, ?_⟩
      have g3 : Gr H2 (upd H2 T (.tup [.int (i : Nat), .ref ba])) := .new nT
      generalize upd H2 T (.tup [.int (i : Nat), .ref ba]) = H3 at g3
      refine ⟨2, rfl, by decide, by decide, fun G nG => ?_⟩
      refine lc_range (lo := 0) (n := 2) (fun j H' => Gr H3 H' ∧ ∃ zs : List Str, H' G = some (.lst (zs.map V.str)) ∧ zs.length = j ∧ ∀ z ∈ zs, z ∈ pl4) ⟨(Gr.refl _).put nG, [], upd_same, rfl, fun x hx => by cases hx⟩ (fun j H4 hj ⟨g4, zs, hG4, hl4, hx4⟩ => ?_) fun H4 ⟨g4, zs, hG4, hl4, hx4⟩ => ?_
      · refine ⟨rfl, .ref a, rfl, .int k, rfl, k, 350, rfl, rfl, .int (i : Nat), rfl, 2, (i : Nat), rfl, rfl, .inl ⟨by decide, by decide⟩, _, _, rfl, rfl, .int (0 + j), rfl, _, _, rfl, rfl, a, _, 4, rfl, hS.gr (((gH.trans g2).trans g3).trans g4), by omega, by decide, fun r' H5 q0 q1 g5 => ?_⟩
        obtain ⟨d, e1, e2⟩ := xyzw_at q0 q1
        refine ⟨_, r', d, rfl, rfl, xyzw_len, e1, _, g5.lst hG4, by rw [List.length_map]; exact small1000 (by omega), (g4.trans g5).put nG (.lst (g5.lst hG4)), zs ++ [⟨#[d]⟩], ?_, by rw [List.length_append, hl4]; rfl, fun x h => ?_⟩
        · rw [upd_same, List.map_append]; rfl
        · rcases List.mem_append.mp h with h | h
          · exact hx4 x h
          · rw [List.mem_singleton.mp h]; exact e2
      have g24 : Gr H2 H4 := g3.trans g4
      have gb4 : Gr Hb H4 := g2.trans g24
      have hM4 : H4 M = some (.lst vs) := g24.lst hM2
      refine ⟨.ref M, rfl, .inl ⟨rfl, _, .inl (.inl hM4)⟩, .ref ba, rfl, ba, _, 0, .str b.name, rfl, rfl, gb4.sqT s1, atI_nat (j := 0) rfl, ?_⟩
      refine bridge (t := tOp _ _ _) (G := fun v H' => Gr H4 H' ∧ Dp c.K H' v (.tuple ((b.steps ++ zs.map Stp.put).map encS))) (fun Q' hQ => ?_) fun v H5 hv5 => ?_
      · refine ⟨.ref ba, rfl, ba, _, 1, .ref bp, rfl, rfl, gb4.sqT s1, atI_nat (j := 1) rfl, .ref G, rfl, G, rfl, ⟨_, .inl (.inl hG4)⟩, fun D nD => ?_⟩
        refine lc_list (xs := zs.map V.str) (fun j H' => Gr H4 H' ∧ ∃ ws, H' D = some (.lst ws) ∧ DpAll c.K (hide H' D) ws (((zs.take j).map Stp.put).map encS)) ⟨(Gr.refl _).put nD, [], upd_same, .nil⟩ (fun j H' _ ⟨hg, _⟩ => .inl (.inl (hg.lst hG4))) (fun j x H5 hx5 ⟨g5, ws, hD5, hd5⟩ => ?_) fun H5 ⟨g5, ws, hD5, hd5⟩ => ?_
        · obtain ⟨z, hz, rfl⟩ : ∃ z, zs[j]? = some z ∧ x = .str z := by
            rw [List.getElem?_map] at hx5
            cases e9 : zs[j]? with
            | none => rw [e9] at hx5; cases hx5
            | some z => rw [e9] at hx5; exact ⟨z, rfl, (Option.some.inj hx5).symm⟩
          have hj : j < zs.length := (List.getElem?_eq_some_iff.mp hz).1
          have lw : ws.length = j := by rw [dpAll_length hd5, List.length_map, List.length_map, List.length_take]; omega
          refine ⟨rfl, .str z, rfl, by show 2 ≤ sizeLine; decide, fun t nt => ?_⟩
          have gt : Gr H5 (upd H5 t (.tup [.str "put", .str z])) := .new nt
          have ht : (upd H5 t (.tup [.str "put", .str z])) t = some (.tup [.str "put", .str z]) := upd_same
          generalize upd H5 t (.tup [.str "put", .str z]) = H6 at gt ht
          refine ⟨ws, gt.lst hD5, small1000 (by omega), (g5.trans gt).put nD (.lst (gt.lst hD5)), ws ++ [.ref t], upd_same, ?_⟩
          rw [hide_upd, List.take_add_one, hz, List.map_append, List.map_append]
          exact dpAll_snoc (dp_hide (gt.lst hD5) (noL_S (.put z)) (.tup (.inl (.inl ht)) (.cons (.str _) (.cons (.str _) .nil)))) (dpAll_gr (hide_gr gt (.lst (gt.lst hD5))) hd5)
        · refine ⟨D, _, rfl, .inl ⟨.inl (.inl hD5), fun tS ntS => ?_⟩⟩
          have g6 : Gr H5 (upd H5 tS (.tup ws)) := .new ntS
          have hT6 : (upd H5 tS (.tup ws)) tS = some (.tup ws) := upd_same
          generalize upd H5 tS (.tup ws) = H6 at g6 hT6
          have d6 : DpAll c.K H6 ws ((zs.map Stp.put).map encS) := by
            have := dpAll_gr ((hide_to H5 D).trans g6) hd5
            rwa [List.take_of_length_le (by rw [List.length_map]; exact Nat.le_refl _)] at this
          have lw : ws.length = 2 := by rw [dpAll_length d6, List.length_map, List.length_map, hl4]
          have g46 : Gr H4 H6 := g5.trans g6
          have dy : DpAll c.K H6 ys (b.steps.map encS) := dpAll_gr (gb4.trans g46) s3
          have ly : ys.length = b.steps.length := by rw [dpAll_length s3, List.length_map]
          have f5 := gen.few
          refine ⟨bp, tS, ys, ws, rfl, rfl, (gb4.trans g46).sqT s2, .inl (.inl hT6), Nat.le_of_lt (small1000 (by omega)), fun e => ?_, fun _ e => ?_, fun _ _ p np => ?_⟩
          · have e2 : b.steps = [] := List.length_eq_zero_iff.mp (by rw [← ly, e]; rfl)
            rw [e2] at hQ
            exact hQ _ _ ⟨g46, .tup (.inl (.inl hT6)) d6⟩
          · rw [e] at lw; cases lw
          · refine hQ _ _ ⟨g46.trans (.new np), .tup (.inl (.inl upd_same)) ?_⟩
            rw [List.map_append]
            exact dpAll_gr (.new np) (dpAll_append dy d6)
      obtain ⟨g5, d5⟩ := hv5
      have gb5 := gb4.trans g5
      refine ⟨.ref ba, rfl, ba, _, 2, en, rfl, rfl, gb5.sqT s1, atI_nat (j := 2) rfl, by show 3 ≤ sizeLine; decide, fun tB ntB => ?_⟩
      have g6 : Gr H5 (upd H5 tB (.tup [.str b.name, v, en])) := .new ntB
      have hB : (upd H5 tB (.tup [.str b.name, v, en])) tB = some (.tup [.str b.name, v, en]) := upd_same
      generalize upd H5 tB (.tup [.str b.name, v, en]) = H6 at g6 hB
      have g26 : Gr H2 H6 := (g24.trans g5).trans g6
      have lvs : vs.length = i := by rw [dpAll_length hd2, List.length_map, lbs]
      refine ⟨M, _, _, rfl, rfl, g26.lst hM2, small1000 (by omega), ?_⟩
      have dB : Dp c.K H6 (.ref tB) (encB ⟨b.name, b.steps ++ zs.map Stp.put, b.en⟩) := .tup (.inl (.inl hB)) (.cons (.str _) (.cons (dp_gr g6 d5) (.cons (dp_gr (gb5.trans g6) s4) .nil)))
      refine ⟨_, _, _, rfl, (g2.trans g26).put nMb (.lst (g26.lst hM2)), vs ++ [.ref tB], bs ++ [⟨b.name, b.steps ++ zs.map Stp.put, b.en⟩], upd_same, ?_, ?_, fun b' hb' => ?_⟩
      · rw [hide_upd, List.map_append]
        exact dpAll_snoc (dp_hide (g26.lst hM2) (noL_B _) dB) (dpAll_gr (hide_gr g26 (.lst (g26.lst hM2))) hd2)
      · rw [List.map_append, hn2, List.take_add_one, hb, List.map_append]
        rfl
      · rcases List.mem_append.mp hb' with h | h
        · exact hb2 b' h
        · rw [List.mem_singleton.mp h]
          have put4 : ∀ s ∈ zs.map Stp.put, OkS s ∧ InS s := fun s hs => by
            obtain ⟨z, hz, rfl⟩ := List.mem_map.mp hs
            exact ⟨pl4_name z (hx4 z hz), hx4 z hz⟩
          refine ⟨?_, fun s hs => ?_, fun s hs => ?_, gen.oke, gen.ine, gen.go⟩
          · show (b.steps ++ zs.map Stp.put).length ≤ 7
            have := gen.few
            rw [List.length_append, List.length_map]
            omega
          · rcases List.mem_append.mp hs with h | h
            · exact gen.ok s h
            · exact (put4 s h).1
          · rcases List.mem_append.mp hs with h | h
            · exact gen.ins s h
            · exact (put4 s h).2
    · obtain ⟨kv, bv, pv, rfl, g2, vs, bs, hM2, hd2, hn2, hb2⟩ := hPv
      refine ⟨.ref M, rfl, M, _, rfl, .inl ⟨.inl (.inl hM2), fun t nt => ?_⟩⟩
      refine q _ _ bs ⟨mn, h1, h6, ?_, hb2⟩ (.tup (.inl (.inl upd_same)) (dpAll_gr ((hide_to H2 M).trans (.new nt)) hd2)) ((gH.trans g2).trans (.new nt))
      rw [lx, List.take_of_length_le (Nat.le_refl _)] at hn2
      exact hn2.trans hnm
end Pm
set_option maxHeartbeats 4000000
namespace Pm
open PySem PySem.Spec PyProof.Rows L2 GxR GX
theorem merge_out {k : Key} : ∀ {more kvs : List (Key × V)}, k ∉ more.map (·.1) → valV (mergeK kvs more) k = valV kvs k
  | [], _, _ => rfl
  | p :: r, kvs, h => by
    rw [List.map_cons, List.mem_cons, not_or] at h
    show valV (mergeK (putK kvs p.1 p.2) r) k = _
    rw [merge_out h.2, valV_put, if_neg h.1]
theorem merge_in {k : Key} {v : V} : ∀ {more kvs : List (Key × V)}, (more.map (·.1)).Nodup → (k, v) ∈ more → valV (mergeK kvs more) k = some v
  | p :: r, kvs, nd, h => by
    rw [List.map_cons, List.nodup_cons] at nd
    show valV (mergeK (putK kvs p.1 p.2) r) k = _
    rcases List.mem_cons.mp h with rfl | h
    · rw [merge_out nd.1, valV_put, if_pos rfl]
    · exact merge_in nd.2 h
/-- tuples that are pairs -/
def PairsAt (H : Hp) (ps : List Addr) (kvs : List (Key × V)) : Prop := Paired (fun p kv => H p = some (.tup [kV kv.1, kv.2])) ps kvs
theorem PairsAt.gr {H H' : Hp} {ps : List Addr} {kvs : List (Key × V)} (h : PairsAt H ps kvs) (g : Gr H H') : PairsAt H' ps kvs := Paired.mono (fun _ _ e => g.tup e) h
theorem PairsAt.sq {H : Hp} {K : PySem.W.Frag} {ps : List Addr} {kvs : List (Key × V)} (h : PairsAt H ps kvs) : Paired (fun p kv => SqT K H p [kV kv.1, kv.2]) ps kvs := Paired.mono (fun _ _ e => .inl (.inl e)) h
/-! ### what the plain machine keeps -/
theorem cutV_at {xs : List V} {k : Nat} (h : k ≤ xs.length) : cutV xs (some (k : Int)) none = xs.drop k := by
  unfold cutV
  rw [show HT.sIx xs.length 0 (some (k : Int)) = min k xs.length from HT.sIx_nat xs.length 0 k, HT.sIx_none, Nat.min_eq_left h]
  rw [List.take_of_length_le (by rw [List.length_drop]; exact Nat.le_refl _)]
theorem cut_some {xs : List V} {k : Nat} (h : 0 < k) (h2 : 0 < xs.length) : ¬ (HT.sIx xs.length 0 (some (k : Int)) = 0 ∧ HT.sIx xs.length xs.length none = xs.length) := fun e => by
  have e1 := e.1
  rw [show HT.sIx xs.length 0 (some (k : Int)) = min k xs.length from HT.sIx_nat xs.length 0 k] at e1
  omega
end Pm
namespace Pm
open PySem PySem.Spec PyProof.Rows L2 GxR GX
end Pm
set_option maxHeartbeats 4000000
namespace Pm
open PySem PySem.Spec PyProof.Rows L2 GxR GX
variable {c : Ct} {C : Addr}
def someK (i j : Int) : List (Key × V) := putK (putK (mergeK [] [(Sum.inr "copy", .int i), (Sum.inr "add", .int (i + j)), (Sum.inr "sub", .int (i - j)), (Sum.inr "mul", .int (i * j))]) (Sum.inr "less") (.int (if decide (i < j) = true then 1 else 0))) (Sum.inr "same") (.int (if decide (V.int i = V.int j) = true then 1 else 0))
theorem some_nd {p q r u : V} : ([((Sum.inr "copy", p) : Key × V), (Sum.inr "add", q), (Sum.inr "sub", r), (Sum.inr "mul", u)].map (·.1)).Nodup := by
  show ([Sum.inr "copy", Sum.inr "add", Sum.inr "sub", Sum.inr "mul"] : List Key).Nodup
  decide +kernel
theorem some_copy (i j : Int) : valV (someK i j) (Sum.inr "copy") = some (.int i) := by
  unfold someK
  rw [valV_put, if_neg (by decide +kernel), valV_put, if_neg (by decide +kernel), merge_in some_nd (.head _)]
theorem some_sum {w : Str} (i j : Int) (h : w ∈ sumWords) (hi : 0 ≤ i ∧ i ≤ 9972) : ∃ k, valV (someK i j) (Sum.inr w) = some (.int k) ∧ k % 9973 = sumI w i j := by
  simp only [sumWords, List.mem_cons, List.not_mem_nil, or_false] at h
  have b2 : ∀ p : Prop, ∀ [Decidable p], (if p then (1 : Int) else 0) % 9973 = if p then 1 else 0 := fun p _ => by split <;> rfl
  unfold someK sumI
  rcases h with rfl | rfl | rfl | rfl | rfl
  · refine ⟨i + j, ?_, (if_pos rfl).symm⟩
    rw [valV_put, if_neg (by decide +kernel), valV_put, if_neg (by decide +kernel), merge_in some_nd (.tail _ (.head _))]
  · refine ⟨i - j, ?_, ?_⟩
    · rw [valV_put, if_neg (by decide +kernel), valV_put, if_neg (by decide +kernel), merge_in some_nd (.tail _ (.tail _ (.head _)))]
    · rw [if_neg (by decide +kernel), if_pos rfl]
  · refine ⟨i * j, ?_, ?_⟩
    · rw [valV_put, if_neg (by decide +kernel), valV_put, if_neg (by decide +kernel), merge_in some_nd (.tail _ (.tail _ (.tail _ (.head _))))]
    · rw [if_neg (by decide +kernel), if_neg (by decide +kernel), if_pos rfl]
  · refine ⟨if decide (i < j) = true then 1 else 0, ?_, ?_⟩
    · rw [valV_put, if_neg (by decide +kernel), valV_put, if_pos rfl]
    · rw [(if_neg (show ¬ ("less" : Str) = "add" by decide +kernel)), (if_neg (show ¬ ("less" : Str) = "sub" by decide +kernel)), (if_neg (show ¬ ("less" : Str) = "mul" by decide +kernel)), if_pos (rfl : ("less" : Str) = "less"), b2]
      simp only [decide_eq_true_eq]
  · refine ⟨if decide (V.int i = V.int j) = true then 1 else 0, ?_, ?_⟩
    · rw [valV_put, if_pos rfl]
    · rw [(if_neg (show ¬ ("same" : Str) = "add" by decide +kernel)), (if_neg (show ¬ ("same" : Str) = "sub" by decide +kernel)), (if_neg (show ¬ ("same" : Str) = "mul" by decide +kernel)), (if_neg (show ¬ ("same" : Str) = "less" by decide +kernel)), b2]
      simp only [decide_eq_true_eq, V.int.injEq]
/-- bears -/
def Bears (kvs : List (Key × V)) (m : Str → Int) : Prop := ∀ x ∈ pl4, valV kvs (Sum.inr x) = some (.int (m x))
theorem Bears.put {kvs : List (Key × V)} {m : Str → Int} {x : Str} {v : Int} (h : Bears kvs m) : Bears (putK kvs (Sum.inr x) (.int v)) (putM m x v) := fun y hy => by
  rw [valV_put]
  unfold putM
  by_cases e : y = x
  · rw [if_pos (by rw [e]), if_pos e]
  · rw [if_neg (fun z => e (Sum.inr.inj z)), if_neg e]; exact h y hy
theorem lc_str {g : TG} {tt : TT} {te : TE} {vs : List Nat} {σ : L2.St} {H1 : Hp} {D : Addr} {Qd : Hp → Prop} {x : Str} (Pv : Nat → Hp → Prop) (h0 : Pv 0 (upd H1 D (.lst [])))
    (hs : ∀ i d H, x.cps.toList[i]? = some d → Pv i H → g (.str ⟨#[d]⟩) (wipe σ vs) H fun σ2 H2 => wipe σ2 vs = wipe σ vs ∧ tt σ2 H2 fun b H3 =>
      if b = true then te σ2 H3 fun y H4 => ∃ acc, H4 D = some (.lst acc) ∧ acc.length < sizeLine ∧ Pv (i + 1) (upd H4 D (.lst (acc ++ [y]))) else Pv (i + 1) H3) (hd : ∀ H, Pv x.cps.toList.length H → Qd H) :
    ∃ W : Nat → Nat → Hp → Prop, (∃ m, W 0 m (upd H1 D (.lst []))) ∧ ∀ i m H, W i m H →
      ((Its x).stop i H ∧ Qd H) ∨ ((Its x).go i H ∧ ∃ Nx : Hp → Prop, (∀ H', Nx H' → ∃ m', m' < m ∧ W (i + 1) m' H') ∧ ∀ v H', (Its x).yld i H v H' → g v (wipe σ vs) H' fun σ2 H2 => wipe σ2 vs = wipe σ vs ∧ tt σ2 H2 fun b H3 =>
        if b = true then te σ2 H3 fun y H4 => ∃ acc, H4 D = some (.lst acc) ∧ acc.length < sizeLine ∧ Nx (upd H4 D (.lst (acc ++ [y]))) else Nx H3) := by
  have el : x.cps.size = x.cps.toList.length := by simp
  refine lc_n x.cps.toList.length Pv h0 (fun i H h _ => ?_) (fun H _ => ?_) (fun i H v H' h p y => ?_) hd
  · show i < x.cps.size
    rw [el]; exact h
  · show x.cps.size ≤ x.cps.toList.length
    rw [el]; exact Nat.le_refl _
  · obtain ⟨rfl, d, hc, rfl⟩ := y
    exact hs i d _ (by rw [Array.getElem?_toList]; exact hc) p
/-- x, y, z, w bear nothing at first -/
def bear0 : List (Key × V) := pl4.map fun x => (Sum.inr x, .int 0)
theorem bears0 : Bears (mergeK [] bear0) (fun _ => 0) := by
  have : ∀ x ∈ pl4, valV (mergeK [] bear0) (Sum.inr x) = some (.int 0) := by decide +kernel
  exact this
theorem xyzw_pl4 : pl4 = ("xyzw" : Str).cps.toList.map (fun d => (⟨#[d]⟩ : Str)) := by decide +kernel
theorem xyzw_four : ("xyzw" : Str).cps.toList.length = 4 := by decide +kernel
/-- the plain machine's things: d what places bear, O what was put, Bd the blocks by name, L what is left -/
structure PlAt (H0 : Hp) (d O Bd : Addr) (kvb : List (Key × V)) (ins : List Int) (L : Addr) (kvs : List (Key × V)) (n : Nat) (ms : Mst) (H : Hp) : Prop where
  g : Gr H0 H
  d0 : H0 d = none
  o0 : H0 O = none
  hd : H d = some (.dK kvs)
  hl : kvs.length ≤ 4 + n
  hb : Bears kvs ms.m
  hL : H L = some (.lst ((ins.drop ms.t).map V.int))
  lo : L ≠ O
  hO : H O = some (.lst (ms.outs.map V.int))
  ol : ms.outs.length ≤ n
  hB : H Bd = some (.dK kvb)
  db : d ≠ Bd
section
variable {H0 : Hp} {d O Bd : Addr} {kvb : List (Key × V)} {ins : List Int} {L : Addr} {kvs : List (Key × V)} {n : Nat} {ms : Mst} {H : Hp}
theorem PlAt.gr {H' : Hp} (h : PlAt H0 d O Bd kvb ins L kvs n ms H) (g : Gr H H') : PlAt H0 d O Bd kvb ins L kvs n ms H' :=
  ⟨h.g.trans g, h.d0, h.o0, g.keep h.hd (fun _ z => nomatch z), h.hl, h.hb, g.lst h.hL, h.lo, g.lst h.hO, h.ol, g.keep h.hB (fun _ z => nomatch z), h.db⟩
theorem PlAt.up (h : PlAt H0 d O Bd kvb ins L kvs n ms H) : PlAt H0 d O Bd kvb ins L kvs (n + 1) ms H :=
  ⟨h.g, h.d0, h.o0, h.hd, Nat.le_succ_of_le h.hl, h.hb, h.hL, h.lo, h.hO, Nat.le_succ_of_le h.ol, h.hB, h.db⟩
theorem PlAt.get {x : Str} (h : PlAt H0 d O Bd kvb ins L kvs n ms H) (hx : x ∈ pl4) : DGet H d (.str x) (some (.int (ms.m x))) := by
  rw [← h.hb x hx]
  exact DGet.k (k := Sum.inr x) h.hd
theorem PlAt.put {x : Str} {v : Int} (h : PlAt H0 d O Bd kvb ins L kvs n ms H) : PlAt H0 d O Bd kvb ins L (putK kvs (Sum.inr x) (.int v)) (n + 1) { ms with m := putM ms.m x v } (upd H d (.dK (putK kvs (Sum.inr x) (.int v)))) := by
  have n1 : L ≠ d := ne_of h.hL h.hd fun z => nomatch z
  have n2 : O ≠ d := ne_of h.hO h.hd fun z => nomatch z
  refine ⟨h.g.put h.d0 (.dK h.hd), h.d0, h.o0, upd_same, ?_, h.hb.put, by rw [upd_ne n1]; exact h.hL, h.lo, by rw [upd_ne n2]; exact h.hO, Nat.le_succ_of_le h.ol, by rw [upd_ne h.db.symm]; exact h.hB, h.db⟩
  have := putK_len (kvs := kvs) (k := Sum.inr x) (v := .int v)
  have := h.hl
  omega
theorem PlAt.out {v : Int} (h : PlAt H0 d O Bd kvb ins L kvs n ms H) : PlAt H0 d O Bd kvb ins L kvs (n + 1) { ms with outs := ms.outs ++ [v] } (upd H O (.lst (ms.outs.map V.int ++ [.int v]))) := by
  have n2 : d ≠ O := ne_of h.hd h.hO fun z => nomatch z
  have n3 : Bd ≠ O := ne_of h.hB h.hO fun z => nomatch z
  refine ⟨h.g.put h.o0 (.lst h.hO), h.d0, h.o0, by rw [upd_ne n2]; exact h.hd, Nat.le_succ_of_le h.hl, h.hb, by rw [upd_ne h.lo]; exact h.hL, h.lo, ?_, ?_, by rw [upd_ne n3]; exact h.hB, h.db⟩
  · rw [upd_same, List.map_append]; rfl
  · have := h.ol
    show (ms.outs ++ [v]).length ≤ n + 1
    rw [List.length_append, List.length_singleton]
    omega
theorem PlAt.left {L' : Addr} (h : PlAt H0 d O Bd kvb ins L kvs n ms H) (nL : H L' = none) (t' : Nat) (e : (ins.drop ms.t).drop 1 = ins.drop t') : PlAt H0 d O Bd kvb ins L' kvs n { ms with t := t' } (upd H L' (.lst (((ins.drop ms.t).map V.int).drop 1))) := by
  have h2 := h.gr (H' := upd H L' (.lst (((ins.drop ms.t).map V.int).drop 1))) (.new nL)
  refine ⟨h2.g, h2.d0, h2.o0, h2.hd, h2.hl, h2.hb, ?_, (ne_of_none h.hO nL).symm, h2.hO, h2.ol, h2.hB, h2.db⟩
  rw [upd_same, ← List.map_drop, e]
end
/-- what a copy or a sum reads -/
theorem two_of {ins : List Int} {ms : Mst} {st : Stp} (ok : OkS st) (inn : InS st) (hM : MOk ins ms) (h1 : wordS st ≠ "set") (h2 : wordS st ≠ "put") (h3 : wordS st ≠ "get") :
    ∃ y z, y ∈ pl4 ∧ z ∈ pl4 ∧ atI ((rowS st).drop 2) 0 = some (.str y) ∧ atI ((rowS st).drop 2) (-1) = some (.str z) ∧
      (∃ k, valV (someK (ms.m y) (ms.m z)) (Sum.inr (wordS st)) = some (.int k) ∧ k % 9973 = valS ins ms st) ∧ doS ins ms st = { ms with m := putM ms.m (placeS st) (valS ins ms st) } := by
  cases st with
  | set x i => exact absurd rfl h1
  | put x => exact absurd rfl h2
  | get x => exact absurd rfl h3
  | copy x y =>
    refine ⟨y, y, inn.2, inn.2, rfl, rfl, ⟨ms.m y, some_copy _ _, ?_⟩, rfl⟩
    have := hM.val y
    exact Int.emod_eq_of_lt this.1 (by omega)
  | sum w x y z => exact ⟨y, z, inn.2.1, inn.2.2, rfl, rfl, some_sum _ _ ok.1 (hM.val y), rfl⟩
end Pm
set_option maxHeartbeats 4000000
namespace Pm
open PySem PySem.Spec PyProof.Rows L2 GxR GX
variable {c : Ct} {C : Addr}
def spPlain (c : Ct) : Sp := fun vs H Q _ => ∃ (v : V) (a : Addr) (T : Nat) (P : List Blk) (ins : List Int), vs = [v, .ref a, .int T] ∧ Dp c.K H v (encP P) ∧ GenP 7 P ∧ SqL c.K H a (ins.map V.int) ∧ ins.length ≤ 30 ∧ InsOk ins ∧ T ≤ 9999 ∧
  ∀ H' p, Gr H H' → ResAt H' p (runP P ins T) → Q (.ref p) H'
abbrev nPlain : List Str := ["_law_program_here", "_law_inputs_here", "_law_most", "_law_place", "_law_bears", "_law_left", "_law_outs", "_law_many", "_law_blocks", "_law_name", "_law_at", "_law_steps", "_law_end", "_law_word", "_law_rest", "_law_one", "_law_other", "_law_some", "_law_block"]
theorem sc_plain : FnScope nPlain ["_law_program_here", "_law_inputs_here", "_law_most"] (defScope s_law_plain) := ⟨rfl, rfl, rfl, by decide +kernel, rfl, by decide +kernel, by decide +kernel⟩
set_option maxHeartbeats 8000000 in
theorem ok_plain (D : Df c "_law_plain" s_law_plain) (B : Bl2 c) : Ok c "_law_plain" 1 ["_law_program_here", "_law_inputs_here", "_law_most"] (spPlain c) := by
  refine df_ok D sc_plain (fun vs H Q E h => ?_) (fun _ _ _ _ _ _ us hl => match us, hl with | [_, _, _], _ => rfl) fun f cd A outer s H vs Q E hr h => ?_
  · obtain ⟨v, a, T, P, ins, rfl, _⟩ := h
    rfl
  · obtain ⟨v, a, tu, P, ins, rfl, hv, genP, hA, hil, hin, ht2, q⟩ := h
    have nd := sc_plain.nd
    have hu := hu_of hr
    refine ⟨_, pss_cons (ps_par3 (i := 4) (j := 5) (l := 6) (by rfl) nd rfl rfl rfl (by decide) (by decide) (by decide) rfl rfl rfl (pa_cons (pe_callTy (call_dictP rfl) (by rfl) B.dict (by decide +kernel) (pa_cons (pe_lc (own := [("_law_place", 3)]) (g := gName 3) (tt := tYes) (te := tTup (tCons (tVar 3) (tCons (tC (.int 0)) tNil))) rfl nd (pi_str pe_str) (blkOk_by (N := nPlain) (sc := defScope s_law_plain) (by decide +kernel)) (fun _ _ _ _ _ => pg_name (i := 3) nd rfl (.inl rfl)) (fun _ _ _ _ _ => pts_nil) (fun _ _ _ _ _ => pe_tup (pa_cons (pv 3) (pa_cons pe_int pa_nil)))) pa_nil)) (pa_cons (pe_callTy call_list_of (by rfl) B.list (by decide +kernel) (pa_cons (pv 1) pa_nil)) (pa_cons (pe_lst pa_nil) pa_nil))) (by rfl))
      (pss_cons (ps_set (i := 7) nd rfl (.inl rfl) pe_int)
      (pss_cons (ps_set (i := 8) nd rfl (.inl rfl) (pe_callTy (call_dictP rfl) (by rfl) B.dict (by decide +kernel) (pa_cons (pe_lc (own := [("_law_block", 18)]) (g := gName 18) (tt := tYes) (te := tTup (tCons (tOp (rIxT c.K) (tVar 18) (tC (.int 0))) (tCons (tVar 18) tNil))) rfl nd (pi_tup (pv 0)) (blkOk_by (N := nPlain) (sc := defScope s_law_plain) (by decide +kernel)) (fun _ _ _ _ _ => pg_name (i := 18) nd rfl (.inl rfl)) (fun _ _ _ _ _ => pts_nil) (fun _ _ _ _ _ => pe_tup (pa_cons (pe_ix ix_tup (pv 18) pe_int (fun _ _ => rfl)) (pa_cons (pv 18) pa_nil)))) pa_nil)))
      (pss_cons (ps_par (i := 9) (j := 10) (by rfl) nd rfl rfl (by decide) rfl rfl (pa_cons (pe_ix ix_tup (pe_ix ix_tup (pv 0) pe_int (fun _ _ => rfl)) pe_int (fun _ _ => rfl)) (pa_cons pe_int pa_nil)) (by rfl))
      (pss_cons (ps_while PassesOwn.never (pt_cmpR op_lt (pv 7) (pv 2) (nomark _)) (pss_cons (ps_asg (pe_slice sl_tup (pe_dget hu (pv 8) (pv 9) (fun _ _ => rfl)) (po_some pe_int) po_none) (pg_tup rfl (pgs_cons (pg_name (i := 11) nd rfl (.inl rfl)) (pgs_cons (pg_name (i := 12) nd rfl (.inl rfl)) pgs_nil))))
      (pss_cons (ps_set (i := 7) nd rfl (.inl rfl) (pe_op op_add (pv 7) pe_int))
      (pss_one (ps_if (pt_cmpR op_eq (pv 10) (pe_callB call_len_seq (by rfl) B.len PySem.boot_len (pa_cons (pv 11) pa_nil)) (nomark _)) (pss_cons (ps_if (pt_cmpR op_eq (pe_ix ix_tup (pv 12) pe_int (fun _ _ => rfl)) pe_str (nomark _)) (pss_one (ps_ret (pe_tup (pa_cons (pe_callTy call_tuple_of (by rfl) B.tuple (by decide +kernel) (pa_cons (pv 6) pa_nil)) (pa_cons pe_str (pa_cons (pv 7) pa_nil)))))) pss_nil)
      (pss_cons (ps_set (i := 9) nd rfl (.inl rfl) (pe_ifExp (pt_cmpR op_eq (pe_ix ix_tup (pv 12) pe_int (fun _ _ => rfl)) pe_str (nomark _)) (pe_ix ix_tup (pv 12) pe_int (fun _ _ => rfl)) (pe_ix ix_tup (pv 12) (pe_op op_add pe_int (pe_callTy call_int1 (by rfl) B.int (by decide +kernel) (pa_cons (pe_cmpR op_eq (pe_dget hu (pv 4) (pe_ix ix_tup (pv 12) pe_int (fun _ _ => rfl)) (fun _ _ => rfl)) pe_int (by rfl)) pa_nil))) (fun _ _ => rfl))))
      (pss_one (ps_set (i := 10) nd rfl (.inl rfl) pe_int)))) (pss_cons (ps_par3 (i := 13) (j := 3) (l := 14) (by rfl) nd rfl rfl rfl (by decide) (by decide) (by decide) rfl rfl rfl (pa_cons (pe_ix ix_tup (pe_ix ix_tup (pv 11) (pv 10) (fun _ _ => rfl)) pe_int (fun _ _ => rfl)) (pa_cons (pe_ix ix_tup (pe_ix ix_tup (pv 11) (pv 10) (fun _ _ => rfl)) pe_int (fun _ _ => rfl)) (pa_cons (pe_slice sl_tup (pe_ix ix_tup (pv 11) (pv 10) (fun _ _ => rfl)) (po_some pe_int) po_none) pa_nil))) (by rfl))
      (pss_cons (ps_set (i := 10) nd rfl (.inl rfl) (pe_op op_add (pv 10) pe_int))
      (pss_one (ps_if (pt_cmpR op_eq (pv 13) pe_str (nomark _)) (pss_one (ps_dput hu (pv 4) (pv 3) (pe_ix ix_tup (pv 14) pe_int (fun _ _ => rfl)) rfl)) (pss_one (ps_if (pt_cmpR op_eq (pv 13) pe_str (nomark _)) (pss_one (ps_expr (pe_bm PySem.F.plainAttrs_list PySem.F.slot_list_append PySem.F.type_list_append mt_append (pv 6) (pa_cons (pe_dget hu (pv 4) (pv 3) (fun _ _ => rfl)) pa_nil)))) (pss_one (ps_if (pt_cmpR op_eq (pv 13) pe_str (nomark _)) (pss_cons (ps_dput hu (pv 4) (pv 3) (pe_ifExp (pt_cmpR (op_neD hr.units) (pv 5) (pe_lst pa_nil) (nomark _)) (pe_ix ix_list (pv 5) pe_int (fun _ _ => rfl)) pe_int) rfl)
      (pss_one (ps_set (i := 5) nd rfl (.inl rfl) (pe_slice sl_list (pv 5) (po_some pe_int) po_none)))) (pss_cons (ps_par (i := 15) (j := 16) (by rfl) nd rfl rfl (by decide) rfl rfl (pa_cons (pe_dget hu (pv 4) (pe_ix ix_tup (pv 14) pe_int (fun _ _ => rfl)) (fun _ _ => rfl)) (pa_cons (pe_dget hu (pv 4) (pe_ix ix_tup (pv 14) (pe_un un_neg pe_int) (fun _ _ => rfl)) (fun _ _ => rfl)) pa_nil)) (by rfl))
      (pss_cons (ps_set (i := 17) nd rfl (.inl rfl) (pe_disp (pps_cons pe_str (pv 15) (pps_cons pe_str (pe_op op_add (pv 15) (pv 16)) (pps_cons pe_str (pe_op op_sub (pv 15) (pv 16)) (pps_cons pe_str (pe_op op_mul (pv 15) (pv 16)) pps_nil)))) (by rfl) (by rfl) (fun z => by cases z) (by decide)))
      (pss_cons (ps_asg (pe_tup (pa_cons (pe_callTy call_int1 (by rfl) B.int (by decide +kernel) (pa_cons (pe_cmpR op_lt (pv 15) (pv 16) (by rfl)) pa_nil)) (pa_cons (pe_callTy call_int1 (by rfl) B.int (by decide +kernel) (pa_cons (pe_cmpR op_eq (pv 15) (pv 16) (by rfl)) pa_nil)) pa_nil))) (pg_tup rfl (pgs_cons (pg_sub (pv 17) pe_str (set_dict hu)) (pgs_cons (pg_sub (pv 17) pe_str (set_dict hu)) pgs_nil))))
      (pss_one (ps_dput hu (pv 4) (pv 3) (pe_op op_mod (pe_dget hu (pv 17) (pv 13) (fun _ _ => rfl)) pe_int) rfl))))))))))))))))))
      (pss_one (ps_ret (pe_tup (pa_cons (pe_callTy call_tuple_of (by rfl) B.tuple (by decide +kernel) (pa_cons (pv 6) pa_nil)) (pa_cons pe_str (pa_cons (pv 7) pa_nil)))))))))), ?_⟩
    have okP := genP.okP (by decide : 7 ≤ 16)
    obtain ⟨mn, h1, h6, hnm, hgb⟩ := genP.ex
    obtain ⟨pa, xs, rfl, hPa, hPx⟩ := dp_tup hv
    have lx : xs.length = P.length := by rw [dpAll_length hPx, List.length_map]
    have fP := okP.few
    refine ⟨"xyzw", rfl, fun Dl nDl => ?_⟩
    refine lc_str (fun i H' => Gr H H' ∧ ∃ ps : List Addr, H' Dl = some (.lst (ps.map V.ref)) ∧ PairsAt (hide H' Dl) ps (bear0.take i)) ⟨(Gr.refl _).put nDl, [], upd_same, .nil⟩ (fun i dd H1 hd1 ⟨g1, ps, hD1, hp1⟩ => ?_) fun H1 ⟨g1, ps, hD1, hp1⟩ => ?_
    · have hi : i < 4 := by rw [← xyzw_four]; exact (List.getElem?_eq_some_iff.mp hd1).1
      have e4 : bear0[i]? = some (Sum.inr ⟨#[dd]⟩, .int 0) := by
        unfold bear0
        rw [List.getElem?_map, xyzw_pl4, List.getElem?_map, hd1]
        rfl
      have lp : ps.length ≤ 4 := by
        have l0 := hp1.length
        rw [List.length_take] at l0
        have e9 : bear0.length = 4 := rfl
        omega
      refine ⟨rfl, .str ⟨#[dd]⟩, rfl, by show 2 ≤ sizeLine; decide, fun t nt => ?_⟩
      have ntD : Dl ≠ t := ne_of_none hD1 nt
      have gt : Gr H1 (upd H1 t (.tup [.str ⟨#[dd]⟩, .int 0])) := .new nt
      refine ⟨ps.map V.ref, gt.lst hD1, by rw [List.length_map]; exact small1000 (by omega), (g1.trans gt).put nDl (.lst (gt.lst hD1)), ps ++ [t], by rw [upd_same, List.map_append]; rfl, ?_⟩
      rw [hide_upd, List.take_add_one, e4]
      exact (hp1.gr (hide_gr gt (.lst (gt.lst hD1)))).snoc (by rw [hide_ne ntD.symm, upd_same]; rfl)
    rw [xyzw_four] at hp1
    replace hp1 : PairsAt (hide H1 Dl) ps bear0 := hp1
    refine ⟨Dl, ps, bear0, rfl, .inl (.inl hD1), (hp1.gr (hide_to _ _)).sq, fun d nd1 => ?_⟩
    have g2 : Gr H (upd H1 d (.dK (mergeK [] bear0))) := g1.trans (.new nd1)
    have hd2 : (upd H1 d (.dK (mergeK [] bear0))) d = some (.dK (mergeK [] bear0)) := upd_same
    have d0 : H d = none := g1.free nd1
    generalize upd H1 d (.dK (mergeK [] bear0)) = H2 at g2 hd2
    refine ⟨.ref a, rfl, a, _, rfl, .inl (g2.sqL hA), fun L nL => ?_⟩
    refine ⟨Nat.zero_le _, fun O nO => ⟨_, _, _, rfl, ?_⟩⟩
    have o0 : H O = none := g2.free ((Gr.new nL).free nO)
    have pl0 : ∀ (kvb : List (Key × V)) (Bd : Addr) (H' : Hp), Gr (upd (upd H2 L (.lst (ins.map V.int))) O (.lst [])) H' → H' Bd = some (.dK kvb) → d ≠ Bd → PlAt H d O Bd kvb ins L (mergeK [] bear0) 0 σ0 H' := fun kvb Bd H' g hB db =>
      ⟨((g2.trans (.new nL)).trans (.new nO)).trans g, d0, o0, g.keep (by rw [upd_ne (ne_of_none (by rw [upd_ne (ne_of_none hd2 nL)]; exact hd2) nO), upd_ne (ne_of_none hd2 nL)]; exact hd2) (fun _ z => nomatch z), Nat.le_refl _, bears0,
        g.lst (by rw [upd_ne (ne_of_none upd_same nO), upd_same]; rfl), ne_of_none upd_same nO, g.lst upd_same, Nat.le_refl _, hB, db⟩
    have gO : Gr H (upd (upd H2 L (.lst (ins.map V.int))) O (.lst [])) := (g2.trans (.new nL)).trans (.new nO)
    have hdO : (upd (upd H2 L (.lst (ins.map V.int))) O (.lst [])) d = some (.dK (mergeK [] bear0)) := ((Gr.new nL).trans (.new nO)).keep hd2 fun _ z => nomatch z
    generalize upd (upd H2 L (.lst (ins.map V.int))) O (.lst []) = H3 at pl0 gO hdO
    -- the blocks by name
    refine ⟨.ref pa, rfl, pa, rfl, ⟨_, gO.sqT hPa⟩, fun Bl nBl => ?_⟩
    refine lc_tup (xs := xs) (fun i H' => Gr H3 H' ∧ ∃ ps : List Addr, H' Bl = some (.lst (ps.map V.ref)) ∧ PairsAt (hide H' Bl) ps (((P.zip xs).take i).map fun q => (Sum.inr q.1.name, q.2))) ⟨(Gr.refl _).put nBl, [], upd_same, .nil⟩ (fun i H' _ ⟨hg, _⟩ => (gO.trans hg).sqT hPa) (fun i x H4 hx ⟨g4, ps4, hD4, hp4⟩ => ?_) fun H4 ⟨g4, ps4, hD4, hp4⟩ => ?_
    · obtain ⟨dd, hdd, hdp⟩ := dpAll_get hPx hx
      obtain ⟨b, hb, rfl⟩ : ∃ b, P[i]? = some b ∧ dd = encB b := by
        rw [List.getElem?_map] at hdd
        cases e9 : P[i]? with
        | none => rw [e9] at hdd; cases hdd
        | some b => rw [e9] at hdd; exact ⟨b, rfl, (Option.some.inj hdd).symm⟩
      have hi : i < P.length := (List.getElem?_eq_some_iff.mp hb).1
      obtain ⟨ba, bp, en, ys, rfl, s1, s2, s3, s4⟩ := blk_at hdp
      have ez : (P.zip xs)[i]? = some (b, .ref ba) := by rw [List.getElem?_zip_eq_some]; exact ⟨hb, hx⟩
      have lp : ps4.length ≤ 12 := by
        have l0 := hp4.length
        rw [List.length_map, List.length_take, List.length_zip] at l0
        omega
      refine ⟨rfl, .ref ba, rfl, ba, _, 0, .str b.name, rfl, rfl, (gO.trans g4).sqT s1, atI_nat (j := 0) rfl, .ref ba, rfl, by show 2 ≤ sizeLine; decide, fun t nt => ?_⟩
      have ntD : Bl ≠ t := ne_of_none hD4 nt
      have gt : Gr H4 (upd H4 t (.tup [.str b.name, .ref ba])) := .new nt
      refine ⟨ps4.map V.ref, gt.lst hD4, by rw [List.length_map]; exact small1000 (by omega), (g4.trans gt).put nBl (.lst (gt.lst hD4)), ps4 ++ [t], by rw [upd_same, List.map_append]; rfl, ?_⟩
      rw [hide_upd, List.take_add_one, ez, List.map_append]
      exact (hp4.gr (hide_gr gt (.lst (gt.lst hD4)))).snoc (by rw [hide_ne ntD.symm, upd_same]; rfl)
    rw [List.take_of_length_le (by rw [List.length_zip]; omega)] at hp4
    refine ⟨Bl, ps4, _, rfl, .inl (.inl hD4), (hp4.gr (hide_to _ _)).sq, fun Bd nBd => ?_⟩
    have dBd : d ≠ Bd := ne_of_none (g4.keep hdO fun _ z => nomatch z) nBd
    obtain ⟨kvb, hkvb⟩ : ∃ kvb, kvb = mergeK [] ((P.zip xs).map fun q => ((Sum.inr q.1.name : Key), q.2)) := ⟨_, rfl⟩
    have hblk : ∀ b ∈ P, ∃ ba, valV kvb (Sum.inr b.name) = some (.ref ba) ∧ Dp c.K H (.ref ba) (encB b) := fun b hb => by
      obtain ⟨i, hi⟩ := List.getElem?_of_mem hb
      obtain ⟨x, hx, hdx⟩ := dpAll_getD hPx (i := i) (d := encB b) (by rw [List.getElem?_map, hi]; rfl)
      obtain ⟨ba, bp, en, ys, rfl, _⟩ := blk_at hdx
      refine ⟨ba, ?_, hdx⟩
      rw [hkvb]
      refine merge_in ?_ (List.mem_map.mpr ⟨(b, .ref ba), List.mem_of_getElem? (i := i) ?_, rfl⟩)
      · rw [List.map_map]
        have e9 : ((P.zip xs).map ((fun q : Key × V => q.1) ∘ fun q : Blk × V => ((Sum.inr q.1.name : Key), q.2))) = (P.map Blk.name).map (Sum.inr : Str → Key) := by
          rw [List.map_map]
          conv => rhs; rw [← List.map_fst_zip (l₁ := P) (l₂ := xs) (by omega)]
          rw [List.map_map]
          rfl
        rw [e9]
        exact List.Pairwise.map _ (fun a b h e => h (Sum.inr.inj e)) okP.nd
      · rw [List.getElem?_zip_eq_some]; exact ⟨hi, hx⟩
    rw [← hkvb]
    have pl5 := pl0 kvb Bd (upd H4 Bd (.dK kvb)) (g4.trans (.new nBd)) upd_same dBd
    generalize upd H4 Bd (.dK kvb) = H5 at pl5
    obtain ⟨b0, hb0⟩ : ∃ b0, P[0]? = some b0 := by
      cases P with
      | nil => have := okP.one; simp at this
      | cons b0 P' => exact ⟨b0, rfl⟩
    have hhd : P.headD noB = b0 := by
      cases P with
      | nil => cases hb0
      | cons b P' => exact Option.some.inj hb0
    obtain ⟨x0, hx0, hd0⟩ := dpAll_getD hPx (i := 0) (d := encB b0) (by rw [List.getElem?_map, hb0]; rfl)
    obtain ⟨ba0, bp0, en0, ys0, rfl, t1, _⟩ := blk_at hd0
    refine ⟨.ref pa, rfl, pa, _, 0, .ref ba0, rfl, rfl, pl5.g.sqT hPa, atI_nat (j := 0) hx0, ba0, _, 0, .str b0.name, rfl, rfl, pl5.g.sqT t1, atI_nat (j := 0) rfl, _, _, rfl, ?_⟩
    -- the loop
    let Wn : Nat → L2.St → Hp → Prop := fun n σ H' => ∃ plv stv env wov rev onev otv smv, ∃ L b, ∃ j : Nat, ∃ ms kvs, σ = [some (.ref pa), some (.ref a), some (.int tu), plv, some (.ref d), some (.ref L), some (.ref O), some (.int (n : Nat)), some (.ref Bd), some (.str b.name), some (.int j), stv, env, wov, rev, onev, otv, smv, none] ∧
      PlAt H d O Bd kvb ins L kvs n ms H' ∧ b ∈ P ∧ j ≤ b.steps.length ∧ MOk ins ms ∧ runM P ins (tu - n) b j ms n = runP P ins tu
    refine ⟨fun m σ H' => ∃ n, m = tu - n ∧ n ≤ tu ∧ Wn n σ H', ⟨tu, 0, rfl, Nat.zero_le _, none, none, none, none, none, none, none, none, L, b0, 0, σ0, _, rfl, pl5, List.mem_of_getElem? hb0, Nat.zero_le _, mok0, by unfold runP; rw [hhd]; rfl⟩, ?_⟩
    rintro m σ H6 ⟨n, rfl, hn, plv, stv, env, wov, rev, onev, otv, smv, L, b, j, ms, kvs, rfl, pl, hb, hj, hM, hrun⟩
    refine ⟨.int n, rfl, .int tu, rfl, n, tu, rfl, rfl, _, rfl, ite2 (fun e => ?_) fun e => ?_⟩
    · have hlt : n < tu := by
        have := of_decide_eq_true e
        omega
      refine ⟨Wn (n + 1), fun σ' H' h => ⟨tu - (n + 1), by omega, n + 1, rfl, hlt, h⟩, ?_⟩
      obtain ⟨ba, hba, hdb⟩ := hblk b hb
      obtain ⟨_, bp, en, ys, e9, s1, s2, s3, s4⟩ := blk_at hdb
      cases e9
      have dgB : DGet H6 Bd (.str b.name) (some (.ref ba)) := by
        rw [← hba]
        exact DGet.k (k := Sum.inr b.name) pl.hB
      refine ⟨.ref Bd, rfl, .str b.name, rfl, Bd, .ref ba, rfl, dgB, 1, rfl, ba, _, rfl, pl.g.sqT s1, cut_part _ _, fun Tp nTp => ?_⟩
      rw [cutV_one]
      refine ⟨Tp, _, rfl, .inl (.inl upd_same), rfl, .ref bp, _, rfl, en, _, rfl, rfl, ?_⟩
      have pl7 := pl.gr (Gr.new (o := .tup ([.str b.name, .ref bp, en].drop 1)) nTp)
      generalize upd H6 Tp (.tup ([.str b.name, .ref bp, en].drop 1)) = H7 at pl7
      obtain ⟨fu, hfu⟩ : ∃ fu, tu - n = fu + 1 := ⟨tu - n - 1, by omega⟩
      have hfu2 : tu - (n + 1) = fu := by omega
      rw [hfu] at hrun
      have gen := hgb b hb
      have ly : ys.length = b.steps.length := by rw [dpAll_length s3, List.length_map]
      refine ⟨.int n, rfl, n, 1, rfl, rfl, ?_⟩
      refine ⟨.int j, rfl, .ref bp, rfl, bp, ys, rfl, .inr (pl7.g.sqT s2), rfl, _, rfl, ite2 (fun e1 => ?_) fun e1 => ?_⟩
      · have hjl : j = b.steps.length := by
          have := V.int.inj (of_decide_eq_true e1)
          omega
        have hst : b.steps[j]? = none := List.getElem?_eq_none_iff.mpr (by omega)
        obtain ⟨ar, rfl, hAr⟩ := end_at s4
        have w0 := rowE_word b.en
        refine ⟨.ref ar, rfl, ar, _, 0, .str (wordE b.en), rfl, rfl, pl7.g.sqT hAr, atI_nat (j := 0) w0, rfl, _, rfl, ite2 (fun e2 => ?_) fun e2 => ?_⟩
        · rw [runM_stop hst ((word_stop b.en).mp (str_t e2))] at hrun
          refine ⟨.ref O, rfl, O, _, rfl, .inl ⟨.inl (.inl pl7.hO), fun l nl => ?_⟩⟩
          refine ⟨.int (n + 1), rfl, by show 3 ≤ sizeLine; decide, fun p np => ?_⟩
          have nlp : l ≠ p := ne_of_none upd_same np
          refine q _ p ((pl7.g.trans (.new nl)).trans (.new np)) ⟨l, ?_, ?_⟩
          · rw [upd_same, ← hrun]; rfl
          · rw [upd_ne nlp, upd_same, ← hrun]
        · have es : b.en ≠ .stop := fun z => (str_f e2) ((word_stop b.en).mpr z)
          rw [runM_end hst es] at hrun
          have hgo := okP.go b hb _ (next_goal (σ := ms) es)
          obtain ⟨f1, f2⟩ := find_mem hgo
          have fin : ∀ nm : Str, nm = nextB ms b.en → Wn (n + 1) [some (.ref pa), some (.ref a), some (.int tu), plv, some (.ref d), some (.ref L), some (.ref O), some (.int (n + 1)), some (.ref Bd), some (.str nm), some (.int 0), some (.ref bp), some (.ref ar), wov, rev, onev, otv, smv, none] H7 := fun nm enm => by
            refine ⟨plv, some (.ref bp), some (.ref ar), wov, rev, onev, otv, smv, L, findB P (nextB ms b.en), 0, ms, kvs, ?_, pl7.up, f1, Nat.zero_le _, hM, by rw [hfu2, ← hrun]⟩
            rw [f2, enm]
            rfl
          cases hen : b.en with
          | stop => exact absurd hen es
          | go t =>
            rw [hen] at hAr
            refine ⟨.ref ar, rfl, ar, _, 0, .str "go", rfl, rfl, pl7.g.sqT hAr, atI_nat (j := 0) rfl, rfl, _, rfl, ite2 (fun _ => ?_) fun e3 => absurd rfl (str_f e3)⟩
            exact ⟨.ref ar, rfl, ar, _, 1, .str t, rfl, rfl, pl7.g.sqT hAr, atI_nat (j := 1) rfl, fin t (by rw [hen]; rfl)⟩
          | ite x t u =>
            rw [hen] at hAr
            have hx4 : x ∈ pl4 := by
              have := gen.ine
              rw [hen] at this
              exact this
            refine ⟨.ref ar, rfl, ar, _, 0, .str "if", rfl, rfl, pl7.g.sqT hAr, atI_nat (j := 0) rfl, rfl, _, rfl, ite2 (fun e3 => absurd (str_t e3) (by decide +kernel)) fun _ => ?_⟩
            refine ⟨.ref ar, rfl, .ref d, rfl, .ref ar, rfl, ar, _, 1, .str x, rfl, rfl, pl7.g.sqT hAr, atI_nat (j := 1) rfl, d, _, rfl, pl7.get hx4, rfl, .inr ⟨_, rfl, 2, _, rfl, rfl, ?_⟩⟩
            by_cases hz : ms.m x = 0
            · rw [decide_eq_true (show V.int (ms.m x) = V.int 0 by rw [hz])]
              exact ⟨ar, _, 3, .str u, rfl, rfl, pl7.g.sqT hAr, atI_nat (j := 3) rfl, fin u (by rw [hen]; exact (if_pos hz).symm)⟩
            · rw [decide_eq_false (show ¬ V.int (ms.m x) = V.int 0 from fun z => hz (V.int.inj z))]
              exact ⟨ar, _, 2, .str t, rfl, rfl, pl7.g.sqT hAr, atI_nat (j := 2) rfl, fin t (by rw [hen]; exact (if_neg hz).symm)⟩
      · have hjl : j < b.steps.length := by
          have : ¬ j = b.steps.length := fun z => e1 (by rw [z, ly]; exact decide_eq_true rfl)
          omega
        obtain ⟨st, hst⟩ : ∃ st, b.steps[j]? = some st := ⟨_, List.getElem?_eq_getElem hjl⟩
        obtain ⟨x, hx, hdx⟩ := dpAll_getD s3 (i := j) (d := encS st) (by rw [List.getElem?_map, hst]; rfl)
        obtain ⟨ar, rfl, hAr⟩ := step_at hdx
        have hmem := List.mem_of_getElem? hst
        have okst := gen.ok st hmem
        have inst := gen.ins st hmem
        obtain ⟨w0, w1⟩ := row_two st
        rw [runM_step hst] at hrun
        have lrow : 2 ≤ (rowS st).length := by cases st <;> simp [rowS]
        refine ⟨.ref bp, rfl, .int j, rfl, bp, ys, j, .ref ar, rfl, rfl, pl7.g.sqT s2, atI_nat hx, ar, _, 0, .str (wordS st), rfl, rfl, pl7.g.sqT hAr, atI_nat (j := 0) w0,
          .ref bp, rfl, .int j, rfl, bp, ys, j, .ref ar, rfl, rfl, pl7.g.sqT s2, atI_nat hx, ar, _, 1, .str (placeS st), rfl, rfl, pl7.g.sqT hAr, atI_nat (j := 1) w1,
          .ref bp, rfl, .int j, rfl, bp, ys, j, .ref ar, rfl, rfl, pl7.g.sqT s2, atI_nat hx, 2, rfl, ar, _, rfl, pl7.g.sqT hAr, cut_some (k := 2) (by decide) (by omega), fun R nR => ⟨_, _, _, rfl, ?_⟩⟩
        rw [show cutV (rowS st) (some 2) none = (rowS st).drop 2 from cutV_at (k := 2) lrow]
        have pl8 := pl7.gr (Gr.new (o := .tup ((rowS st).drop 2)) nR)
        have hR8 : (upd H7 R (.tup ((rowS st).drop 2))) R = some (.tup ((rowS st).drop 2)) := upd_same
        generalize upd H7 R (.tup ((rowS st).drop 2)) = H8 at pl8 hR8
        refine ⟨.int j, rfl, j, 1, rfl, rfl, ?_⟩
        have fin : ∀ (L' : Addr) (ms' : Mst) kvs' onev otv smv (H' : Hp), ms' = doS ins ms st → PlAt H d O Bd kvb ins L' kvs' (n + 1) ms' H' →
            Wn (n + 1) [some (.ref pa), some (.ref a), some (.int tu), some (.str (placeS st)), some (.ref d), some (.ref L'), some (.ref O), some (.int (n + 1)), some (.ref Bd), some (.str b.name), some (.int (j + 1)), some (.ref bp), some en, some (.str (wordS st)), some (.ref R), onev, otv, smv, none] H' := fun L' ms' kvs' onev otv smv H' e9 pl' =>
          ⟨_, _, _, _, _, _, _, _, L', b, j + 1, ms', kvs', rfl, pl', hb, hjl, e9 ▸ hM.do hin okst, by rw [hfu2, ← hrun, e9]⟩
        have lk8 : kvs.length < sizeLine := by
          have h9 : kvs.length ≤ 10003 := by have := pl.hl; omega
          exact Nat.lt_of_le_of_lt h9 (by decide)
        refine ⟨.str (wordS st), rfl, rfl, _, rfl, ite2 (fun c1 => ?_) fun c1 => ?_⟩
        · cases st with
          | copy _ _ => exact absurd (str_t c1) (show ¬ ("copy" : Str) = "set" by decide +kernel)
          | get _ => exact absurd (str_t c1) (show ¬ ("get" : Str) = "set" by decide +kernel)
          | put _ => exact absurd (str_t c1) (show ¬ ("put" : Str) = "set" by decide +kernel)
          | sum w _ _ _ => exact absurd (str_t c1) (sum_words_ne w okst.1).1
          | set x i =>
            exact ⟨.ref R, rfl, R, _, 0, .int i, rfl, rfl, .inl (.inl hR8), atI_nat (j := 0) rfl, .ref d, rfl, .str x, rfl, d, _, rfl, DPut.k (k := Sum.inr x) pl8.hd lk8, fin L _ _ onev otv smv _ rfl pl8.put⟩
        refine ⟨.str (wordS st), rfl, rfl, _, rfl, ite2 (fun c2 => ?_) fun c2 => ?_⟩
        · cases st with
          | copy _ _ => exact absurd (str_t c2) (show ¬ ("copy" : Str) = "put" by decide +kernel)
          | get _ => exact absurd (str_t c2) (show ¬ ("get" : Str) = "put" by decide +kernel)
          | set _ _ => exact absurd (str_t c2) (show ¬ ("set" : Str) = "put" by decide +kernel)
          | sum w _ _ _ => exact absurd (str_t c2) (sum_words_ne w okst.1).2.2.2
          | put x =>
            have lo8 : ms.outs.length < sizeLine := small10k (by have := pl.ol; omega)
            exact ⟨.ref O, rfl, .inl ⟨rfl, _, .inl (.inl pl8.hO)⟩, .ref d, rfl, .str x, rfl, d, _, rfl, pl8.get inst, O, _, _, rfl, rfl, pl8.hO, by rw [List.length_map]; exact lo8, fin L _ _ onev otv smv _ rfl pl8.out⟩
        refine ⟨.str (wordS st), rfl, rfl, _, rfl, ite2 (fun c3 => ?_) fun c3 => ?_⟩
        · cases st with
          | copy _ _ => exact absurd (str_t c3) (show ¬ ("copy" : Str) = "get" by decide +kernel)
          | put _ => exact absurd (str_t c3) (show ¬ ("put" : Str) = "get" by decide +kernel)
          | set _ _ => exact absurd (str_t c3) (show ¬ ("set" : Str) = "get" by decide +kernel)
          | sum w _ _ _ => exact absurd (str_t c3) (sum_words_ne w okst.1).2.2.1
          | get x =>
            have hDL : Dp c.K H8 (.ref L) (.list ((ins.drop ms.t).map PyData.int)) := .lst (.inl (.inl pl8.hL)) (dpAll_ints _)
            have after : ∀ (H9 : Hp), PlAt H d O Bd kvb ins L kvs n ms H9 → ∀ v : Int, v = ins.getD ms.t 0 → ∃ H', DPut H9 d (.str x) (.int v) H' ∧ PlAt H d O Bd kvb ins L (putK kvs (Sum.inr x) (.int v)) (n + 1) { ms with m := putM ms.m x v } H' := fun H9 pl9 v ev => ⟨_, DPut.k (k := Sum.inr x) pl9.hd lk8, pl9.put⟩
            have lst : ∀ (H' : Hp) (v : Int), v = ins.getD ms.t 0 → PlAt H d O Bd kvb ins L (putK kvs (Sum.inr x) (.int v)) (n + 1) { ms with m := putM ms.m x v } H' → ∀ L', H' L' = none → PlAt H d O Bd kvb ins L' (putK kvs (Sum.inr x) (.int v)) (n + 1) (doS ins ms (.get x)) (upd H' L' (.lst (cutV ((ins.drop ms.t).map V.int) (some 1) none))) := fun H' v ev pl9 L' nL' => by
              rw [cutV_one]
              have e9 := pl9.left nL' (nextT ins ms.t) (by
                show (ins.drop ms.t).drop 1 = ins.drop (nextT ins ms.t)
                have ht := hM.t
                rw [List.drop_drop]
                unfold nextT
                split
                · rename_i z
                  rw [z, List.drop_of_length_le (by omega), List.drop_of_length_le (by omega)]
                · rfl)
              show PlAt H d O Bd kvb ins L' (putK kvs (Sum.inr x) (.int v)) (n + 1) { ms with m := putM ms.m x (ins.getD ms.t 0), t := nextT ins ms.t } _
              rw [← ev]
              exact e9
            refine ⟨.ref L, rfl, Nat.zero_le _, fun l nl => ⟨_, _, dp_gr (.new nl) hDL, .lst (.inl (.inl upd_same)) .nil, (shaped_ints _).1, (shaped_ints []).1, _, rfl, ?_⟩⟩
            have pl9 := pl8.gr (Gr.new (o := .lst []) nl)
            generalize upd H8 l (.lst []) = H9 at pl9
            refine ite2 (fun d1 => ?_) fun d1 => ?_
            · have ht : ms.t < ins.length := by
                rcases Nat.lt_or_ge ms.t ins.length with h | h
                · exact h
                · rw [List.drop_of_length_le h] at d1; cases d1
              have e9 : ins.getD ms.t 0 = ins[ms.t] := by simp [ht]
              have e8 : ((ins.drop ms.t).map V.int)[0]? = some (.int ins[ms.t]) := by
                rw [List.getElem?_map, List.getElem?_drop, Nat.add_zero, List.getElem?_eq_getElem ht]; rfl
              obtain ⟨H', p1, p2⟩ := after H9 pl9 ins[ms.t] e9.symm
              exact ⟨.ref L, rfl, L, _, 0, _, rfl, rfl, .inl (.inl pl9.hL), atI_nat (j := 0) e8, .ref d, rfl, .str x, rfl, d, H', rfl, p1, .ref L, rfl, 1, rfl, L, _, rfl, .inl (.inl p2.hL), fun L' nL' => fin L' _ _ onev otv smv _ rfl (lst H' _ e9.symm p2 L' nL')⟩
            · have ht : ¬ ms.t < ins.length := fun h => d1 (by
                cases hdr : ins.drop ms.t with
                | nil => have := List.drop_eq_nil_iff.mp hdr; omega
                | cons z r => rfl)
              have e9 : ins.getD ms.t 0 = 0 := by simp [Nat.not_lt.mp ht]
              obtain ⟨H', p1, p2⟩ := after H9 pl9 0 e9.symm
              exact ⟨.ref d, rfl, .str x, rfl, d, H', rfl, p1, .ref L, rfl, 1, rfl, L, _, rfl, .inl (.inl p2.hL), fun L' nL' => fin L' _ _ onev otv smv _ rfl (lst H' _ e9.symm p2 L' nL')⟩
        obtain ⟨y, z, hy, hz, a0, a1, ⟨k, k1, k2⟩, hdo⟩ := two_of (ins := ins) okst inst hM (str_f c1) (str_f c2) (str_f c3)
        refine ⟨.ref d, rfl, .ref R, rfl, R, _, 0, .str y, rfl, rfl, .inl (.inl hR8), a0, d, _, rfl, pl8.get hy, .ref d, rfl, .ref R, rfl, 1, rfl, R, _, -1, .str z, rfl, rfl, .inl (.inl hR8), a1, d, _, rfl, pl8.get hz, _, _, rfl, ?_⟩
        intro p np
        have mb : -(2 ^ 64) < ms.m y ∧ ms.m y < 2 ^ 64 := by have := hM.val y; omega
        refine ⟨.int (ms.m y), rfl, .int (ms.m y), rfl, .int (ms.m z), rfl, _, _, rfl, rfl, .int (ms.m y), rfl, .int (ms.m z), rfl, _, _, rfl, rfl, .int (ms.m y), rfl, .int (ms.m z), rfl, _, _, rfl, rfl, .inl mb, upd_same, [(Sum.inr "copy", .int (ms.m y)), (Sum.inr "add", .int (ms.m y + ms.m z)), (Sum.inr "sub", .int (ms.m y - ms.m z)), (Sum.inr "mul", .int (ms.m y * ms.m z))], rfl, by show 4 ≤ 15; decide, ?_⟩
        have gD : Gr H8 (upd (upd H8 p (.dK [])) p (.dK (mergeK [] [(Sum.inr "copy", .int (ms.m y)), (Sum.inr "add", .int (ms.m y + ms.m z)), (Sum.inr "sub", .int (ms.m y - ms.m z)), (Sum.inr "mul", .int (ms.m y * ms.m z))]))) := (Gr.new np).put np
        refine ⟨.int (ms.m y), rfl, .int (ms.m z), rfl, _, _, rfl, rfl, .inr ⟨_, rfl, .int (ms.m y), rfl, .int (ms.m z), rfl, rfl, .inr ⟨_, rfl, by show 2 ≤ sizeLine; decide, fun t nt => ?_⟩⟩⟩
        have ntp : p ≠ t := ne_of_none upd_same nt
        refine ⟨t, _, rfl, .inl (.inl upd_same), rfl, _, _, rfl, .ref p, rfl, p, _, rfl, DPut.k (k := Sum.inr "less") (by rw [upd_ne ntp, upd_same]) (small1000 (Nat.le_trans (length_mergeK _ _) (by show 0 + 4 ≤ 1000; decide))), _, _, rfl, .ref p, rfl, p, _, rfl, DPut.k (k := Sum.inr "same") upd_same (small1000 (Nat.le_trans putK_len (Nat.le_trans (Nat.add_le_add_right (length_mergeK _ _) 1) (by show 0 + 4 + 1 ≤ 1000; decide)))), rfl, ?_⟩
        have pl9 := fun (o1 : HO) (o2 o3 : List (Key × V)) => pl8.gr ((Gr.put (Gr.put (gD.trans (Gr.new (o := o1) nt)) np (o := .dK o2) (nc := .dK (by rw [upd_ne ntp, upd_same]))) np (o := .dK o3) (nc := .dK upd_same)))
        refine ⟨.ref p, rfl, .str (wordS st), rfl, p, .int k, rfl, (by rw [← k1]; exact DGet.k (k := Sum.inr (wordS st)) upd_same), k, 9973, rfl, rfl, by show (0 : Int) < 9973; decide, .ref d, rfl, .str (placeS st), rfl, d, _, rfl, DPut.k (k := Sum.inr (placeS st)) (pl9 _ _ _).hd lk8, ?_⟩
        exact fin L (doS ins ms st) _ _ _ _ _ rfl (by rw [hdo, ← k2]; exact (pl9 _ _ _).put)
    · have hnt : n = tu := by
        have : ¬ ((n : Int) < tu) := fun z => e (decide_eq_true z)
        omega
      subst hnt
      rw [Nat.sub_self] at hrun
      refine ⟨.ref O, rfl, O, _, rfl, .inl ⟨.inl (.inl pl.hO), fun l nl => ?_⟩⟩
      refine ⟨.int n, rfl, by show 3 ≤ sizeLine; decide, fun p np => ?_⟩
      have nlp : l ≠ p := ne_of_none upd_same np
      refine q _ p ((pl.g.trans (.new nl)).trans (.new np)) ⟨l, ?_, ?_⟩
      · rw [upd_same, ← hrun]; rfl
      · rw [upd_ne nlp, upd_same, ← hrun]; rfl
end Pm
set_option maxHeartbeats 4000000
namespace Pm
open PySem PySem.Spec PyProof.Rows L2 GxR GX
variable {c : Ct} {C : Addr}
/-! ### runs with fewer turns -/
section
variable {P : List Blk} {ins : List Int}
theorem runM_bound : ∀ (f : Nat) (b : Blk) (j : Nat) (σ : Mst) (n : Nat), n ≤ (runM P ins f b j σ n).2.2 ∧ (runM P ins f b j σ n).2.2 ≤ n + f ∧ (1 ≤ f → n + 1 ≤ (runM P ins f b j σ n).2.2)
  | 0, b, j, σ, n => ⟨Nat.le_refl _, Nat.le_refl _, fun h => by omega⟩
  | f + 1, b, j, σ, n => by
    cases hst : b.steps[j]? with
    | some s =>
      rw [runM_step hst]
      obtain ⟨h1, h2, _⟩ := runM_bound f b (j + 1) (doS ins σ s) (n + 1)
      exact ⟨by omega, by omega, fun _ => h1⟩
    | none =>
      by_cases he : b.en = .stop
      · rw [runM_stop hst he]
        exact ⟨Nat.le_succ _, by show n + 1 ≤ n + (f + 1); omega, fun _ => Nat.le_refl _⟩
      · rw [runM_end hst he]
        obtain ⟨h1, h2, _⟩ := runM_bound f (findB P (nextB σ b.en)) 0 σ (n + 1)
        exact ⟨by omega, by omega, fun _ => h1⟩
theorem runM_word : ∀ (f : Nat) (b : Blk) (j : Nat) (σ : Mst) (n : Nat), (runM P ins f b j σ n).2.1 = "stop" ∨ (runM P ins f b j σ n).2.1 = "limit"
  | 0, b, j, σ, n => .inr rfl
  | f + 1, b, j, σ, n => by
    cases hst : b.steps[j]? with
    | some s => rw [runM_step hst]; exact runM_word f _ _ _ _
    | none =>
      by_cases he : b.en = .stop
      · rw [runM_stop hst he]; exact .inl rfl
      · rw [runM_end hst he]; exact runM_word f _ _ _ _
theorem outs_do (σ : Mst) (s : Stp) : σ.outs <+: (doS ins σ s).outs := by
  cases s with
  | put x => exact List.prefix_append _ _
  | _ => exact List.prefix_refl _
theorem runM_outs : ∀ (f : Nat) (b : Blk) (j : Nat) (σ : Mst) (n : Nat), σ.outs <+: (runM P ins f b j σ n).1
  | 0, b, j, σ, n => List.prefix_refl _
  | f + 1, b, j, σ, n => by
    cases hst : b.steps[j]? with
    | some s => rw [runM_step hst]; exact (outs_do σ s).trans (runM_outs f _ _ _ _)
    | none =>
      by_cases he : b.en = .stop
      · rw [runM_stop hst he]; exact List.prefix_refl _
      · rw [runM_end hst he]; exact runM_outs f _ _ _ _
theorem runM_less : ∀ (g f : Nat) (b : Blk) (j : Nat) (σ : Mst) (n : Nat), g ≤ f → (runM P ins g b j σ n).1 <+: (runM P ins f b j σ n).1
  | 0, f, b, j, σ, n, _ => runM_outs f b j σ n
  | g + 1, 0, b, j, σ, n, h => by omega
  | g + 1, f + 1, b, j, σ, n, h => by
    cases hst : b.steps[j]? with
    | some s => rw [runM_step hst, runM_step hst]; exact runM_less g f _ _ _ _ (by omega)
    | none =>
      by_cases he : b.en = .stop
      · rw [runM_stop hst he, runM_stop hst he]; exact List.prefix_refl _
      · rw [runM_end hst he, runM_end hst he]; exact runM_less g f _ _ _ _ (by omega)
theorem runM_same : ∀ (f : Nat) (b : Blk) (j : Nat) (σ : Mst) (n : Nat), runM P ins ((runM P ins f b j σ n).2.2 - n) b j σ n = runM P ins f b j σ n
  | 0, b, j, σ, n => by
    show runM P ins (n - n) b j σ n = _
    rw [Nat.sub_self]
  | f + 1, b, j, σ, n => by
    cases hst : b.steps[j]? with
    | some s =>
      rw [runM_step hst]
      obtain ⟨h1, _, _⟩ := runM_bound (P := P) (ins := ins) f b (j + 1) (doS ins σ s) (n + 1)
      have ih := runM_same f b (j + 1) (doS ins σ s) (n + 1)
      rw [show (runM P ins f b (j + 1) (doS ins σ s) (n + 1)).2.2 - n = (runM P ins f b (j + 1) (doS ins σ s) (n + 1)).2.2 - (n + 1) + 1 by omega, runM_step hst]
      exact ih
    | none =>
      by_cases he : b.en = .stop
      · rw [runM_stop hst he, show ((σ.outs, (("stop" : Str), n + 1)) : List Int × Str × Nat).2.2 - n = 0 + 1 by show n + 1 - n = 0 + 1; omega, runM_stop hst he]
      · rw [runM_end hst he]
        obtain ⟨h1, _, _⟩ := runM_bound (P := P) (ins := ins) f (findB P (nextB σ b.en)) 0 σ (n + 1)
        have ih := runM_same f (findB P (nextB σ b.en)) 0 σ (n + 1)
        rw [show (runM P ins f (findB P (nextB σ b.en)) 0 σ (n + 1)).2.2 - n = (runM P ins f (findB P (nextB σ b.en)) 0 σ (n + 1)).2.2 - (n + 1) + 1 by omega, runM_end hst he]
        exact ih
end
/-! ### a run's answer as data -/
def resD (r : List Int × Str × Nat) : PyData := .tuple [.tuple (r.1.map PyData.int), .str r.2.1, .int r.2.2]
theorem ResAt.dp {H : Hp} {p : Addr} {r : List Int × Str × Nat} (h : ResAt H p r) : Dp c.K H (.ref p) (resD r) := by
  obtain ⟨q, h1, h2⟩ := h
  exact .tup (.inl (.inl h1)) (.cons (.tup (.inl (.inl h2)) (dpAll_ints _)) (.cons (.str _) (.cons (.int _) .nil)))
theorem shaped_res {r : List Int × Str × Nat} (h : r.2.1 = "stop" ∨ r.2.1 = "limit") : SeqAt.shaped (resD r) = true := by
  have e := (shaped_ints r.1).2
  unfold SeqAt.shaped at e ⊢
  rw [Bool.and_eq_true] at e ⊢
  have e2 := of_decide_eq_true e.2
  have e3 : PyData.canLay0 (.str r.2.1) = true := by
    rcases h with h | h <;> (rw [h]; decide +kernel)
  refine ⟨?_, decide_eq_true ?_⟩
  · show (PyData.canLay0 (.tuple (r.1.map PyData.int)) && (PyData.canLay0 (.str r.2.1) && (PyData.canLay0 (.int r.2.2) && PyData.canLayAll0 []))) = true
    rw [e.1, e3]
    rfl
  · have hd : ∀ ns : List Int, PyData.depthAll (ns.map PyData.int) ≤ 1 := fun ns => by
      induction ns with
      | nil => exact Nat.zero_le _
      | cons n t ih =>
        simp only [List.map_cons, PyData.depthAll, PyData.depth]
        omega
    have h9 := hd r.1
    unfold resD
    simp only [PyData.depth, PyData.depthAll]
    omega
theorem run_word {P : List Blk} {ins : List Int} {T : Nat} : (runP P ins T).2.1 = "stop" ∨ (runP P ins T).2.1 = "limit" := runM_word _ _ _ _ _
theorem eqv_res {r : List Int × Str × Nat} (h : r.2.1 = "stop" ∨ r.2.1 = "limit") : PyData.eqv (resD r) (resD r) = true := SeqAt.eqv_refl _ (SeqAt.canLay_of_shaped (shaped_res h))
theorem eqv_tup (ns : List Int) : PyData.eqv (.tuple (ns.map PyData.int)) (.tuple (ns.map PyData.int)) = true := SeqAt.eqv_refl _ (SeqAt.canLay_of_shaped (shaped_ints ns).2)
theorem eqv_lst (ns : List Int) : PyData.eqv (.list (ns.map PyData.int)) (.list (ns.map PyData.int)) = true := SeqAt.eqv_refl _ (SeqAt.canLay_of_shaped (shaped_ints ns).1)
/-! ### calls of run -/
section
variable {X : Cx} {k : Nat} {p pos : Pos} {e e2 : Expr} {kws : List Keyword} {t tk : TA}
theorem pe_runK (c : Ct) (O : OkRun c k) (hr : Room k X.A) (ha : PA X [e, e2] t) (hk : PK X kws tk) (h1 : X.prog = c.P := by rfl) (h2 : X.w = c.w := by rfl) (h3 : X.K = c.K := by rfl) (h4 : X.mg = c.mg := by rfl) (h5 : X.base = c.base := by rfl) (hg : Gl X "run" := by rfl)
    (hall : (backToKw pos (keywordEach kws X.env)).all (·.1.isSome) = true := by rfl) (hks : (backToKw pos (keywordEach kws X.env)).filterMap (·.1) = ([Str.ofString "turns"] : List Str) := by rfl)
    (he : starEach [e, e2] X.env = (false, eval e X.env) :: starEach [e2] X.env := by rfl) (hpl : ((backTo pos (starEach [e, e2] X.env)).any (·.1) || (backToKw pos (keywordEach kws X.env)).any (·.1.isNone)) = false := by rfl) :
    PE X (.Call (.Name "run" p) [e, e2] kws pos) (tCallN 2 1 (spRun c) (fun vs zs => vs ++ zs) E0 t tk) := by
  obtain ⟨f, fd, F, hm, kp, _, hb⟩ := O
  exact pe_callN (CX := CX0) (f := f) (fd := fd) (ks := ["turns"]) (by rw [h1, h2, h3, h4, h5]; exact F) hr hg (by rw [h4]; exact hm) (by rw [h3]; exact kp) (by rw [h3]; exact hb) pass0 ha hk hall hks (by decide) he hpl
theorem pe_run (c : Ct) (O : OkRun c k) (hr : Room k X.A) (ha : PA X [e, e2] t) (h1 : X.prog = c.P := by rfl) (h2 : X.w = c.w := by rfl) (h3 : X.K = c.K := by rfl) (h4 : X.mg = c.mg := by rfl) (h5 : X.base = c.base := by rfl) (hg : Gl X "run" := by rfl)
    (he : starEach [e, e2] X.env = (false, eval e X.env) :: starEach [e2] X.env := by rfl) (hpl : (backTo pos (starEach [e2] X.env)).any (·.1) = false := by rfl) :
    PE X (.Call (.Name "run" p) [e, e2] [] pos) (tCall (spRun c) [.int 500] E0 t) := by
  obtain ⟨f, fd, F, hm, kp, ⟨ds, hd, hb⟩, _⟩ := O
  exact pe_call (CX := CX0) (f := f) (fd := fd) (ds := ds) (by rw [h1, h2, h3, h4, h5]; exact F) hr hg (by rw [h4]; exact hm) (by rw [h3]; exact kp) (by rw [h3]; exact hb) hd pass0 ha (by decide) he hpl
end
end Pm
set_option maxHeartbeats 4000000
namespace Pm
open PySem PySem.Spec PyProof.Rows L2 GxR GX
variable {c : Ct} {C : Addr}
def spLaw (c : Ct) : Sp := fun vs H Q _ => ∃ a : Addr, vs = [.ref a] ∧ ScrAt c H a ∧ Tabs c.ts H ∧ ∀ H', Q (.bl true) H'
abbrev nLaw : List Str := ["_law_script", "_law_program_here", "_law_inputs_here", "_law_kept", "_law_k", "_law_most", "_law_told", "_law_less"]
theorem sc_law : FnScope nLaw ["_law_script"] (defScope s_law) := ⟨rfl, rfl, rfl, by decide +kernel, rfl, by decide +kernel, by decide +kernel⟩
/-- the law's def itself, at its place -/
theorem df_okE {x : Str} {st : Stmt} {N ps : List Str} {k : Nat} {sp : Sp} {f : Addr} {fd : FuncData} {cd : Addr} (D : DefAt c x st [] f fd cd) (S : FnScope N ps (defScope st)) (len : ∀ vs H Q E, sp vs H Q E → vs.length = ps.length)
    (hbody : ∀ (A : Around) (outer : List Env) (s : Shared) (H : Hp) (vs : List V) (Q : VK) (E : XK), Room k (A.deeper (envOfC x (defScope st) s.heap.objs.size f (.ref cd))) → sp vs H Q E →
      ∃ t, PSs (cxOf CX0 c.P c.w c.K c.mg c.base N x (defScope st) f (.ref cd) A outer s H E).nox (defBody st) t ∧ t { nx := fun _ H' => Q .non H', rt := Q } (start N vs) H) : FnOk c.P c.w c.K c.mg c.base CX0 (k + 1) f fd ps sp := by
  obtain ⟨⟨oc, od, dV, kV, doc, pm, an, ct, osl, rfl, lk, hcd, hD, _⟩, kp, hm⟩ := D
  refine fn_of lk hcd S len fun A outer s H vs Q E hr hsp => ?_
  obtain ⟨t, h, q⟩ := hbody A outer s H vs Q E hr hsp
  exact ⟨t, h.nox, q⟩
structure LawIn (c : Ct) : Prop where
  B : Bl2 c
  pick : OkPick c
  loud : Ok c "_law_loud" 4 ["_law_script", "_law_at"] (spLoud c)
  inputs : Ok c "_law_inputs" 2 ["_law_script", "_law_at"] (spInputs c)
  plain : Ok c "_law_plain" 1 ["_law_program_here", "_law_inputs_here", "_law_most"] (spPlain c)
  isP : Ok c "is_program" 9 ["thing"] (spIsProgram c)
  run : OkRun c 11
set_option maxHeartbeats 8000000 in
theorem ok_law {f : Addr} {fd : FuncData} {cd : Addr} (D : DefAt c "law" s_law [] f fd cd) (R : LawIn c) : FnOk c.P c.w c.K c.mg c.base CX0 12 f fd ["_law_script"] (spLaw c) := by
  obtain ⟨B, O1, O2, O3, O4, O5, O6⟩ := R
  refine df_okE D sc_law (fun vs H Q E h => ?_) fun A outer s H vs Q E hr h => ?_
  · obtain ⟨a, rfl, _⟩ := h
    rfl
  · obtain ⟨a, rfl, hS, hT, q⟩ := h
    have nd := sc_law.nd
    have r1 : Room 1 _ := hr.mono (by decide)
    have r2 : Room 2 _ := hr.mono (by decide)
    have r4 : Room 4 _ := hr.mono (by decide)
    have r9 : Room 9 _ := hr.mono (by decide)
    refine ⟨_, pss_cons (ps_par (i := 1) (j := 2) (by rfl) nd rfl rfl (by decide) rfl rfl (pa_cons (pe_f c O2 r4 (pa_cons (pv 0) (pa_cons pe_int pa_nil))) (pa_cons (pe_f c O3 r2 (pa_cons (pv 0) (pa_cons pe_int pa_nil))) pa_nil)) (by rfl))
      (pss_cons (ps_set (i := 3) nd rfl (.inl rfl) (pe_callTy call_list_of (by rfl) B.list (by decide +kernel) (pa_cons (pv 2) pa_nil)))
      (pss_cons (ps_if (PW.pt (pw_or (pt_not (pt_val (pe_f c O5 r9 (pa_cons (pv 1) pa_nil)))) (pw_or1 (pt_cmpR (op_neD hr.units) (pv 2) (pv 3) (nomark _))))) (pss_one (ps_ret pe_bl)) pss_nil)
      (pss_cons (ps_for PassesOwn.never rfl (pi_range1 rfl B.range (pa_cons pe_int pa_nil)) (pg_name (i := 4) nd rfl (.inl rfl))
        (pss_cons (ps_set (i := 5) nd rfl (.inl rfl) (pe_ix ix_list (pe_lst (pa_cons pe_int (pa_cons pe_int (pa_cons pe_int (pa_cons pe_int pa_nil))))) (pe_f c O1 r1 (pa_cons (pv 0) (pa_cons (pe_op op_add pe_int (pv 4)) (pa_cons pe_int pa_nil)))) (fun _ _ => rfl)))
        (pss_one (ps_if (pt_cmpR (op_neD hr.units) (pe_runK c O6 hr (pa_cons (pv 1) (pa_cons (pv 2) pa_nil)) (pk_cons (pv 5) pk_nil)) (pe_f c O4 r1 (pa_cons (pv 1) (pa_cons (pv 2) (pa_cons (pv 5) pa_nil)))) (nomark _)) (pss_one (ps_ret pe_bl)) pss_nil))))
      (pss_cons (ps_set (i := 6) nd rfl (.inl rfl) (pe_run c O6 hr (pa_cons (pv 1) (pa_cons (pv 2) pa_nil))))
      (pss_cons (ps_if (PW.pt (pw_or (pt_cmpR (op_neD hr.units) (pv 6) (pe_f c O4 r1 (pa_cons (pv 1) (pa_cons (pv 2) (pa_cons pe_int pa_nil)))) (nomark _)) (pw_or (pt_cmpR (op_neD hr.units) (pv 2) (pv 3) (nomark _))
          (pw_or1 (pt_not (pt_val (pe_callB call_isi (by rfl) B.isi (by decide +kernel) (pa_cons (pe_ix ix_tup (pv 6) pe_int (fun _ _ => rfl)) (pa_cons (pe_bltn (v := .ty "tuple") (by rfl) B.tuple (by decide +kernel) rfl) pa_nil))))))))) (pss_one (ps_ret pe_bl)) pss_nil)
      (pss_cons (ps_set (i := 7) nd rfl (.inl rfl) (pe_runK c O6 hr (pa_cons (pv 1) (pa_cons (pv 2) pa_nil)) (pk_cons (pe_callB (call_max2 rfl) (by rfl) B.max (by decide +kernel) (pa_cons (pe_op op_fdiv (pe_ix ix_tup (pv 6) pe_int (fun _ _ => rfl)) pe_int) (pa_cons pe_int pa_nil))) pk_nil)))
      (pss_one (ps_ret (pe_and (pe_cmpR (op_eqD hr.units) (pe_slice sl_tupA (pe_ix ix_tup (pv 6) pe_int (fun _ _ => rfl)) po_none (po_some (pe_callB call_len_seq (by rfl) B.len PySem.boot_len (pa_cons (pe_ix ix_tup (pv 7) pe_int (fun _ _ => rfl)) pa_nil)))) (pe_ix ix_tup (pv 7) pe_int (fun _ _ => rfl)) (nomark _))
        (pe_one (pe_cmpR (op_eqD hr.units) (pe_runK c O6 hr (pa_cons (pv 1) (pa_cons (pv 2) pa_nil)) (pk_cons (pe_callB (call_min2 rfl) (by rfl) B.min (by decide +kernel) (pa_cons (pe_ix ix_tup (pv 6) pe_int (fun _ _ => rfl)) (pa_cons pe_int pa_nil))) pk_nil)) (pv 6) (nomark _)))))))))))), ?_⟩
    refine ⟨.ref a, rfl, a, 0, rfl, hS, by decide, fun v H1 P genP hv g1 => ⟨.ref a, rfl, a, 400, rfl, hS.gr g1, by decide, fun ip H2 ins hil hin nip hip g2 => ⟨_, _, rfl, ?_⟩⟩⟩
    have okP := genP.okP (by decide : 7 ≤ 16)
    have g02 : Gr H H2 := g1.trans g2
    have hv2 : Dp c.K H2 v (encP P) := dp_gr g2 hv
    refine ⟨.ref ip, rfl, ip, _, rfl, .inl (.inl (.inl hip)), fun kp nk => ?_⟩
    have g3 : Gr H2 (upd H2 kp (.lst (ins.map V.int))) := .new nk
    have hk3 : (upd H2 kp (.lst (ins.map V.int))) kp = some (.lst (ins.map V.int)) := upd_same
    generalize upd H2 kp (.lst (ins.map V.int)) = H3 at g3 hk3
    have hv3 := dp_gr g3 hv2
    have hip3 : H3 ip = some (.lst (ins.map V.int)) := g3.lst hip
    have hT3 : Tabs c.ts H3 := hT.gr (g02.trans g3)
    have hS3 : ScrAt c H3 a := hS.gr (g02.trans g3)
    have hlist : ∀ H', Gr H3 H' → Dp c.K H' (.ref ip) (.list (ins.map PyData.int)) ∧ Dp c.K H' (.ref kp) (.list (ins.map PyData.int)) := fun H' g => ⟨.lst (.inl (.inl (g.lst hip3))) (dpAll_ints ins), .lst (.inl (.inl (g.lst hk3))) (dpAll_ints ins)⟩
    have hil30 : ins.length ≤ 30 := by omega
    -- a run at any heap behind
    have runs : ∀ (H' : Hp) (T : Nat) (Q' : VK), Gr H3 H' → 1 ≤ T → T ≤ 9999 → (∀ H'' p, Gr H' H'' → ResAt H'' p (runP P ins T) → Q' (.ref p) H'') → spRun c [v, .ref ip, .int T] H' Q' E0 := fun H' T Q' g t1 t2 k =>
      ⟨v, ip, T, P, ins, rfl, dp_gr g hv3, okP, .inl (.inl (g.lst hip3)), hil30, hin, t1, t2, hT3.gr g, k⟩
    have plains : ∀ (H' : Hp) (T : Nat) (Q' : VK), Gr H3 H' → T ≤ 9999 → (∀ H'' p, Gr H' H'' → ResAt H'' p (runP P ins T) → Q' (.ref p) H'') → spPlain c [v, .ref ip, .int T] H' Q' E0 := fun H' T Q' g t2 k =>
      ⟨v, ip, T, P, ins, rfl, dp_gr g hv3, genP, .inl (.inl (g.lst hip3)), hil30, hin, t2, k⟩
    have ne_res : ∀ T, (!PyData.eqv (resD (runP P ins T)) (resD (runP P ins T))) = false := fun T => by rw [eqv_res run_word]; rfl
    have ne_lst : (!PyData.eqv (.list (ins.map PyData.int)) (.list (ins.map PyData.int))) = false := by rw [eqv_lst]; rfl
    refine ⟨v, rfl, v, encP P, rfl, hv3, flat_prog, fit_prog okP, hT3, fun H4 g4 => ⟨_, rfl, ?_⟩⟩
    rw [prog_ok okP]
    refine ⟨.ref ip, rfl, .ref kp, rfl, _, _, (hlist H4 g4).1, (hlist H4 g4).2, (shaped_ints _).1, (shaped_ints _).1, _, rfl, ?_⟩
    rw [ne_lst]
    refine iteF ⟨3, rfl, by decide, by decide, ?_⟩
    refine for_range (n := 3) (fun i σ H' => ∃ kv mv, σ = [some (.ref a), some v, some (.ref ip), some (.ref kp), kv, mv, none, none] ∧ Gr H3 H') ⟨none, none, rfl, g4⟩ (fun i σ H5 hi hPv => ?_) fun σ H5 hPv => ?_
    · obtain ⟨kv, mv, rfl, g5⟩ := hPv
      refine ⟨by show 4 ≤ sizeLine; decide, fun L nL => ⟨.ref a, rfl, .int (0 + i), rfl, 410, 0 + i, rfl, rfl, a, _, 4, rfl, hS3.gr (g5.trans (.new nL)), by omega, by decide, fun r H6 r0 r1 g6 => ?_⟩⟩
      obtain ⟨vv, e1, e2⟩ := atI_of (xs := ([1, 7, 40, 120] : List Nat).map fun n => V.int (n : Nat)) r0 r1
      obtain ⟨T, hTm, rfl⟩ : ∃ T : Nat, T ∈ ([1, 7, 40, 120] : List Nat) ∧ vv = .int (T : Nat) := by
        rw [List.getElem?_map] at e2
        cases e9 : ([1, 7, 40, 120] : List Nat)[r.toNat]? with
        | none => rw [e9] at e2; cases e2
        | some n => rw [e9] at e2; exact ⟨n, List.mem_of_getElem? e9, (Option.some.inj e2).symm⟩
      have hT2 : 1 ≤ T ∧ T ≤ 9999 := by
        have : ∀ T ∈ ([1, 7, 40, 120] : List Nat), 1 ≤ T ∧ T ≤ 9999 := by decide
        exact this T hTm
      have g36 : Gr H3 H6 := (g5.trans (.new nL)).trans g6
      refine ⟨L, _, r, .int (T : Nat), rfl, rfl, .inl (.inl (g6.lst upd_same)), e1, ?_⟩
      refine ⟨v, rfl, .ref ip, rfl, .int (T : Nat), rfl, rfl, rfl, v, ip, T, P, ins, rfl, dp_gr g36 hv3, okP, .inl (.inl (Gr.lst g36 hip3)), hil30, hin, hT2.1, hT2.2, hT3.gr g36, fun H7 p7 g7 h7 => ?_⟩
      refine ⟨v, rfl, .ref ip, rfl, .int (T : Nat), rfl, v, ip, T, P, ins, rfl, dp_gr (g36.trans g7) hv3, genP, .inl (.inl (Gr.lst (g36.trans g7) hip3)), hil30, hin, hT2.2, fun H8 p8 g8 h8 => ?_⟩
      refine ⟨_, _, (h7.gr g8).dp, h8.dp, shaped_res run_word, shaped_res run_word, _, rfl, ?_⟩
      rw [ne_res]
      exact iteF ⟨_, _, rfl, (g36.trans g7).trans g8⟩
    · obtain ⟨kv, mv, rfl, g5⟩ := hPv
      refine ⟨v, rfl, .ref ip, rfl, v, ip, 500, P, ins, rfl, dp_gr g5 hv3, okP, .inl (.inl (Gr.lst g5 hip3)), hil30, hin, (by decide), (by decide), hT3.gr g5, fun H6 p6 g6 h6 => ?_⟩
      have g36 := g5.trans g6
      refine ⟨.ref p6, rfl, v, rfl, .ref ip, rfl, v, ip, 500, P, ins, rfl, dp_gr g36 hv3, genP, .inl (.inl (Gr.lst g36 hip3)), hil30, hin, (by decide), fun H7 p7 g7 h7 => ?_⟩
      refine ⟨_, _, (h6.gr g7).dp, h7.dp, shaped_res run_word, shaped_res run_word, _, rfl, ?_⟩
      rw [ne_res]
      have g37 := g36.trans g7
      have t7 := h6.gr g7
      obtain ⟨b1, b2, b3⟩ := runM_bound (P := P) (ins := ins) 500 (P.headD noB) 0 σ0 0
      have hsame := runM_same (P := P) (ins := ins) 500 (P.headD noB) 0 σ0 0
      replace b2 : (runP P ins 500).2.2 ≤ 0 + 500 := b2
      replace b3 : 0 + 1 ≤ (runP P ins 500).2.2 := b3 (by decide)
      replace hsame : runP P ins ((runP P ins 500).2.2) = runP P ins 500 := hsame
      obtain ⟨q7, e7, o7⟩ := _root_.id t7
      refine ⟨.ref ip, rfl, .ref kp, rfl, _, _, (hlist H7 g37).1, (hlist H7 g37).2, (shaped_ints _).1, (shaped_ints _).1, _, rfl, ?_⟩
      rw [ne_lst]
      have kt : PySem.W.kitOne c.K (.type "tuple") (.type "tuple") = some true := kit_ty (by decide +kernel)
      refine ⟨.ref p6, rfl, p6, _, 0, .ref q7, rfl, rfl, .inl (.inl e7), atI_nat (j := 0) rfl, .ref q7, .ty "tuple", .type "tuple", .type "tuple", true, rfl, .ty _, tyx_sqT (.inl (.inl o7)), kt, _, rfl, ?_⟩
      -- fewer turns
      have hle : (if (1 : Int) > ((runP P ins 500).2.2 : Int) / 2 then (1 : Int) else ((runP P ins 500).2.2 : Int) / 2) = ((max ((runP P ins 500).2.2 / 2) 1 : Nat) : Int) := by
        split <;> omega
      refine ⟨v, rfl, .ref ip, rfl, .ref p6, rfl, p6, _, 2, .int (runP P ins 500).2.2, rfl, rfl, .inl (.inl e7), atI_nat (j := 2) rfl, _, 2, rfl, rfl, ⟨by decide, by decide⟩, _, 1, rfl, rfl, rfl, ?_⟩
      rw [hle]
      refine runs H7 (max ((runP P ins 500).2.2 / 2) 1) _ g37 (by omega) (by omega) fun H8 p8 g8 h8 => ?_
      have hpre : (runP P ins (max ((runP P ins 500).2.2 / 2) 1)).1 <+: (runP P ins 500).1 := runM_less _ _ _ _ _ _ (by omega)
      generalize hr8 : runP P ins (max ((runP P ins 500).2.2 / 2) 1) = rl at h8 hpre
      generalize hr5 : runP P ins 500 = rt at *
      have w8 : rl.2.1 = "stop" ∨ rl.2.1 = "limit" := hr8 ▸ run_word
      have w5 : rt.2.1 = "stop" ∨ rt.2.1 = "limit" := hr5 ▸ run_word
      have g38 := g37.trans g8
      have e7' := g8.tup e7
      have o7' := g8.tup o7
      obtain ⟨q8, e8, o8⟩ := _root_.id h8
      unfold gName
      dsimp only
      show tRet (tAndV (tOp _ (tSl _ _ _ _) _) _) _ _ _
      refine bridge (t := tSl _ _ _ _) (G := fun x H' => Gr H8 H' ∧ Dp c.K H' x (.tuple (rl.1.map PyData.int))) (fun Q' hQ => ?_) fun x H9 hx => ?_
      · refine ⟨.ref p6, rfl, p6, _, 0, .ref q7, rfl, rfl, .inl (.inl e7'), atI_nat (j := 0) rfl, .ref p8, rfl, p8, _, 0, .ref q8, rfl, rfl, .inl (.inl e8), atI_nat (j := 0) rfl, q8, _, rfl, .inr (.inl (.inl o8)), _, rfl, q7, _, rfl, .inl (.inl o7'), fun hw => ?_, fun _ p np => ?_⟩
        · have hl : rt.1.length ≤ rl.1.length := by
            have h2 := hw.2
            rw [show HT.sIx (rt.1.map V.int).length (rt.1.map V.int).length (some (((rl.1.map V.int).length : Nat) : Int)) = min (rl.1.map V.int).length (rt.1.map V.int).length from HT.sIx_nat _ _ _, List.length_map, List.length_map] at h2
            omega
          have eq : rl.1 = rt.1 := hpre.eq_of_length (Nat.le_antisymm hpre.length_le hl)
          rw [eq] at hQ
          exact hQ _ _ ⟨.refl _, .tup (.inl (.inl o7')) (dpAll_ints _)⟩
        · have ec : cutV (rt.1.map V.int) none (some (((rl.1.map V.int).length : Nat) : Int)) = rl.1.map V.int := by
            obtain ⟨u, hu⟩ := hpre
            unfold cutV
            rw [show HT.sIx (rt.1.map V.int).length (rt.1.map V.int).length (some (((rl.1.map V.int).length : Nat) : Int)) = min (rl.1.map V.int).length (rt.1.map V.int).length from HT.sIx_nat _ _ _, HT.sIx_none, ← hu, List.map_append, List.length_append, Nat.min_eq_left (Nat.le_add_right _ _)]
            simp
          rw [ec]
          exact hQ _ _ ⟨.new np, .tup (.inl (.inl upd_same)) (dpAll_ints _)⟩
      obtain ⟨g9, dx⟩ := hx
      have g39 := g38.trans g9
      refine ⟨.ref p8, rfl, p8, _, 0, .ref q8, rfl, rfl, .inl (.inl (g9.tup e8)), atI_nat (j := 0) rfl, _, _, dx, .tup (.inl (.inl (g9.tup o8))) (dpAll_ints _), (shaped_ints _).2, (shaped_ints _).2, _, rfl, ?_⟩
      rw [eqv_tup]
      have hmin : (if (500 : Int) < (rt.2.2 : Int) then (500 : Int) else (rt.2.2 : Int)) = ((rt.2.2 : Nat) : Int) := if_neg (by omega)
      refine ⟨v, rfl, .ref ip, rfl, .ref p6, rfl, p6, _, 2, .int rt.2.2, rfl, rfl, .inl (.inl (g9.tup e7')), atI_nat (j := 2) rfl, _, 500, rfl, rfl, rfl, ?_⟩
      rw [hmin]
      refine runs H9 rt.2.2 _ g39 (by omega) (by omega) fun Ha pa ga ha => ?_
      rw [hsame] at ha
      refine ⟨.ref p6, rfl, _, _, ha.dp, ((t7.gr g8).gr (g9.trans ga)).dp, shaped_res w5, shaped_res w5, ?_⟩
      rw [eqv_res w5]
      exact q _
end Pm
set_option maxHeartbeats 4000000
/-! From what the head tells to what the proofs of the defs ask. -/
namespace Pm
open PySem PySem.Spec PyProof.Rows L2 GxR GX
variable {c : Ct}
abbrev FnG (c : Ct) (x : Str) (st : Stmt) (kws : List (Str × V)) : Prop := ∃ fd, FunD c.K x x (defArgs st) (defBody st) (defScope st) [] kws (He.fAd c.K (x, none)) fd
theorem defAt_of {x : Str} {st : Stmt} {kws : List (Str × V)} (F : FnG c x st kws) (hm : c.mg x = some (.ref (He.ga c.K x))) : ∃ fd cd, DefAt c x st kws (He.ga c.K x) fd cd := by
  obtain ⟨fd, ⟨oc, od, dV, kV, doc, pm, an, cdv, ct, osl, rfl, lk, hcd, hD, hK⟩, kp⟩ := F
  obtain ⟨cd, rfl⟩ := He.codeIn_ref hcd
  exact ⟨_, cd, ⟨oc, od, dV, kV, doc, pm, an, ct, osl, rfl, lk, hcd, hD, hK⟩, kp, hm⟩
theorem df_of {x : Str} {st : Stmt} (F : FnG c x st []) (hm : c.mg x = some (.ref (He.ga c.K x))) : Df c x st := let ⟨fd, cd, h⟩ := defAt_of F hm; ⟨_, fd, cd, h⟩
theorem tf_of {x : Str} {st : Stmt} (F : FnG c x st []) (hm : c.mg x = some (.ref (He.ga c.K x))) (T : TabB c.base c.mg (He.cT c.K (x, none)).1 (He.cT c.K (x, none)).2) (ht : (He.cT c.K (x, none)).2 ∈ c.ts) : Tf c x st := by
  obtain ⟨fd, cd, h⟩ := defAt_of F hm
  obtain ⟨⟨oc, od, dV, kV, doc, pm, an, ct, osl, e, lk, _⟩, _⟩ := _root_.id h
  have ec : He.codeOf c.K (x, none) = cd := He.codeOf_eq (p := (x, none)) lk (by rw [e])
  refine ⟨_, fd, cd, _, h, ?_, ht⟩
  rw [← ec]
  exact T
theorem fun_of {m q : Str} {st : Stmt} {f : Addr} (F : ∃ fd, FunD c.K m q (defArgs st) (defBody st) (defScope st) [] [] f fd) : ∃ fd, Fun c.K m q st f fd := by
  obtain ⟨fd, ⟨oc, od, dV, kV, doc, pm, an, cdv, ct, osl, rfl, lk, hcd, hD, _⟩, kp⟩ := F
  have e : dV = .none := by
    rcases hD with ⟨_, e⟩ | ⟨e, _⟩
    · exact e
    · exact absurd rfl e
  subst e
  exact ⟨_, ⟨oc, od, kV, doc, pm, an, cdv, ct, osl, rfl, lk, hcd⟩, kp⟩
/-! ### tables of the top -/
def tupAt (K : PySem.W.Frag) (t : Addr) (vs : List V) : Bool := match K.lookup t with
  | some ⟨.type z, _, .seq its _, _⟩ => decide (z = "tuple") && (decide (its.size ≤ sizeLine) && He.relAll vs its.toList)
  | _ => false
theorem tupAt_ok {K : PySem.W.Frag} {t : Addr} {vs : List V} (h : tupAt K t vs = true) (H : Hp) : SqT K H t vs := by
  unfold tupAt at h
  cases q : K.lookup t with
  | none => rw [q] at h; cases h
  | some o =>
    obtain ⟨oc, od, dt, osl⟩ := o
    rw [q] at h
    cases oc with
    | type z =>
      cases dt with
      | seq its n =>
        obtain ⟨h1, h2⟩ := He.ba (show (decide (z = "tuple") && (decide (its.size ≤ sizeLine) && He.relAll vs its.toList)) = true from h)
        obtain ⟨h3, h4⟩ := He.ba h2
        exact .inr ⟨_, its, n, q, congrArg Value.type (of_decide_eq_true h1), rfl, of_decide_eq_true h3, He.relAll_ok h4⟩
      | _ => cases h
    | _ => cases dt <;> cases h
/-- a dict of the top whose values are tuples of texts -/
def formsB (K : PySem.W.Frag) (x : Str) (l : List (Str × List Str)) : Bool := l.all fun q => match PySem.W.nsIn K (He.ga K x) q.1 with
  | some (some (.ref t)) => tupAt K t (q.2.map V.str)
  | _ => false
theorem formsB_ok {K : PySem.W.Frag} {w : World} {x : Str} {l : List (Str × List Str)} (h : formsB K x l = true) {es : Array DictEntry} {n : Nat} (D : KDict K w (He.ga K x) es n) {z : Str} {ks : List Str} (hz : (z, ks) ∈ l) :
    ∃ t, KDct K w (He.ga K x) z (.ref t) ∧ ∀ H, SqT K H t (ks.map V.str) := by
  have h2 := List.all_eq_true.mp h (z, ks) hz
  dsimp only at h2
  cases e : PySem.W.nsIn K (He.ga K x) z with
  | none => rw [e] at h2; cases h2
  | some o =>
    rw [e] at h2
    cases o with
    | none => cases h2
    | some v =>
      cases v with
      | ref t => exact ⟨t, ⟨es, n, _, D.at_, D.lit, e, rfl⟩, fun H => tupAt_ok h2 H⟩
      | _ => cases h2
def fmB (K : PySem.W.Frag) : Bool := formsB K "FORMS" formsL && (tupAt K (He.ga K "STEP_WORDS") (stepWords.map V.str) && tupAt K (He.ga K "END_WORDS") (endWords.map V.str))
theorem lookup_in {α : Type} {z : Str} {v : α} : ∀ {l : List (Str × α)}, l.lookup z = some v → (z, v) ∈ l
  | [], h => by simp at h
  | (k, u) :: r, h => by
    rw [List.lookup_cons] at h
    cases hb : z == k with
    | true =>
      rw [hb] at h
      rw [eq_of_beq hb, Option.some.inj h]
      exact List.mem_cons_self
    | false =>
      rw [hb] at h
      exact List.mem_cons_of_mem _ (lookup_in h)
theorem fm_of (h : fmB c.K = true) {es : Array DictEntry} {n : Nat} (D : KDict c.K c.w (He.ga c.K "FORMS") es n) (m1 : c.mg "FORMS" = some (.ref (He.ga c.K "FORMS"))) (m2 : c.mg "STEP_WORDS" = some (.ref (He.ga c.K "STEP_WORDS"))) (m3 : c.mg "END_WORDS" = some (.ref (He.ga c.K "END_WORDS"))) : Fm c := by
  obtain ⟨h1, h2⟩ := He.ba h
  obtain ⟨h3, h4⟩ := He.ba h2
  exact ⟨⟨_, m1, fun z ks hz => formsB_ok h1 D (lookup_in hz)⟩, ⟨_, m2, fun H => tupAt_ok h3 H⟩, ⟨_, m3, fun H => tupAt_ok h4 H⟩⟩
abbrev dG (x : Str) (st : Stmt) : He.DefD := ⟨(x, none), x, x, defArgs st, defBody st, defScope st, [], []⟩
abbrev dM (C m q : Str) (st : Stmt) : He.DefD := ⟨(C, some m), m, q, defArgs st, defBody st, defScope st, [], []⟩
end Pm
set_option maxHeartbeats 0
/-! the head: what the top leaves -/
namespace Pm
open PySem PySem.Spec PyProof.Rows L2 GxR GX
abbrev R : PySem.W.OpenRow := PySem.W.OpenLaw.row PySem.Challenge.rw_passmill_k01_whole_runs

def loose1 : List Str := ["MillError", "NoNumber", "NoProgram", "NoInputs", "LETTERS", "MODULUS", "LONGEST_NAME", "is_whole", "is_value", "is_word", "is_name", "MOST_BLOCKS", "MOST_STEPS", "STEP_WORDS", "END_WORDS", "FORMS", "is_program", "is_block", "has_form", "is_part"]
def loose2 : List Str := ["parts_of", "rows_of", "check_program", "MOST_INPUTS", "MOST_TURNS", "State", "sum_of", "check_inputs", "check_turns", "run", "_law_pick", "_law_step", "_law_program", "_law_loud", "_law_inputs", "_law_plain"]
def loose : List Str := loose1 ++ (loose2)
def fas1 : List He.Fa := [.glo "is_whole", .glo "is_value", .glo "is_word", .glo "is_name", .glo "is_program", .glo "is_block", .glo "has_form", .glo "is_part", .glo "parts_of", .glo "rows_of", .glo "check_program", .glo "sum_of", .glo "check_inputs", .glo "check_turns", .glo "run", .glo "_law_pick", .glo "_law_step", .glo "_law_program", .glo "_law_loud", .glo "_law_inputs"]
def fas2 : List He.Fa := [.glo "_law_plain", .glo "law", .glo "State", .glo "FORMS", .glo "STEP_WORDS", .glo "END_WORDS", .free "len", .free "all", .free "isinstance", .free "bool", .free "int", .free "str", .free "tuple", .free "list", .free "set", .free "zip", .free "range", .free "max", .free "min", .free "enumerate"]
def fas3 : List He.Fa := [.free "dict", .str "LETTERS" "abcdefghijklmnopqrstuvwxyz", .int "MODULUS" 9973, .int "LONGEST_NAME" 3, .int "MOST_BLOCKS" 12, .int "MOST_STEPS" 16, .int "MOST_INPUTS" 30, .int "MOST_TURNS" 9999, .cls "State", .noat "State" "borne", .noat "State" "inputs", .noat "State" "taken", .noat "State" "puts", .meth "State" "value_of", .meth "State" "next_input", .meth "State" "do_step", .meth "State" "value_for", .meth "State" "block_behind", .mkr "State"]
def fas : List He.Fa := fas1 ++ (fas2 ++ (fas3))
def fns1 : List He.DefD := [dG "is_whole" s_is_whole, dG "is_value" s_is_value, dG "is_word" s_is_word, dG "is_name" s_is_name, dG "is_program" s_is_program, dG "is_block" s_is_block, dG "has_form" s_has_form, dG "is_part" s_is_part, dG "parts_of" s_parts_of, dG "rows_of" s_rows_of, dG "check_program" s_check_program, dG "sum_of" s_sum_of]
def fns2 : List He.DefD := [dG "check_inputs" s_check_inputs, dG "check_turns" s_check_turns, ⟨("run", none), "run", "run", defArgs s_run, defBody s_run, defScope s_run, [], [("turns", .int 500)]⟩, dG "_law_pick" s_law_pick, dG "_law_step" s_law_step, dG "_law_program" s_law_program, dG "_law_loud" s_law_loud, dG "_law_inputs" s_law_inputs, dG "_law_plain" s_law_plain, dG "law" s_law, dM "State" "__init__" "State.__init__" s_State_init, dM "State" "value_of" "State.value_of" s_State_value_of]
def fns3 : List He.DefD := [dM "State" "next_input" "State.next_input" s_State_next_input, dM "State" "do_step" "State.do_step" s_State_do_step, dM "State" "value_for" "State.value_for" s_State_value_for, dM "State" "block_behind" "State.block_behind" s_State_block_behind]
def fns : List He.DefD := fns1 ++ (fns2 ++ (fns3))
def tabD0 : He.Tab := (fun K => He.ga K "FORMS", ["set", "copy", "add", "sub", "mul", "less", "same", "get", "put", "go", "if", "stop"])
def tabs0 : List He.Tab := [tabD0]
def tfs : List He.Defn := [("is_word", none), ("is_program", none), ("is_block", none), ("has_form", none), ("check_inputs", none)]
abbrev hk : PySem.W.Hook := He.hookX 5 fas fns tabs0 tfs fmB
def ob (s : PySem.W.SharedT) : He.AlX := He.obsX 5 fas fns tabs0 tfs fmB (HandSHeadRun.getT s)
theorem ob_eq (s : PySem.W.SharedT) : ob s = hk.obs s.abs := He.obsX_eq (HandSHeadRun.getT_eq s)
theorem run_f (w : World) : HandSHeadRun.RunEq R (PySem.W.view R.prog [41]) hk ob 8000 loose (w.withFollow "special-get-raises" false) := by
  intro os
  kernel_rfl
theorem run_t (w : World) : HandSHeadRun.RunEq R (PySem.W.view R.prog [41]) hk ob 8000 loose (w.withFollow "special-get-raises" true) := by
  intro os
  kernel_rfl
theorem runs (w : World) : HandSHeadRun.RunEq R (PySem.W.view R.prog [41]) hk ob 8000 loose w := PySem.W.byRow2 "special-get-raises" run_f run_t w
end Pm
set_option maxHeartbeats 4000000
/-! the end: the facts of the head, the promises of all defs, the law -/
namespace Pm
open PySem PySem.Spec PyProof.Rows L2 GxR GX
theorem law_in {c : Ct} {h : Heap} (X : c.K.In h) (G : h.Ns mainGlobals c.mg) (S : He.SaysX fas fns tabs0 tfs fmB c.w h c.K) (T : ∀ p ∈ tfs, TabB c.base c.mg (He.cT c.K p).1 (He.cT c.K p).2 ∧ (He.cT c.K p).2 ∈ c.ts) : LawIn c := by
  have D := S.t.d
  have gl := fun {x : Str} (e : (He.Fa.glo x).ok c.K = true) => He.glo_ok X G e
  have fr := fun {x : Str} (e : (He.Fa.free x).ok c.K = true) => He.free_ok X G e
  have B : Bl c := ⟨(fr (D.fact 26 (f := .free "len") rfl)), (fr (D.fact 27 (f := .free "all") rfl)), (fr (D.fact 28 (f := .free "isinstance") rfl)), (fr (D.fact 29 (f := .free "bool") rfl)), (fr (D.fact 30 (f := .free "int") rfl)), (fr (D.fact 31 (f := .free "str") rfl)), (fr (D.fact 32 (f := .free "tuple") rfl)), (fr (D.fact 33 (f := .free "list") rfl)), (fr (D.fact 34 (f := .free "set") rfl)), (fr (D.fact 35 (f := .free "zip") rfl)), (fr (D.fact 36 (f := .free "range") rfl))⟩
  have B2 : Bl2 c := ⟨B, (fr (D.fact 37 (f := .free "max") rfl)), (fr (D.fact 38 (f := .free "min") rfl)), (fr (D.fact 39 (f := .free "enumerate") rfl)), (fr (D.fact 40 (f := .free "dict") rfl))⟩
  obtain ⟨es, n, KD⟩ := S.t.tab 0 (t := tabD0) rfl
  have F : Fm c := fm_of S.more KD (gl (D.fact 23 (f := .glo "FORMS") rfl)) (gl (D.fact 24 (f := .glo "STEP_WORDS") rfl)) (gl (D.fact 25 (f := .glo "END_WORDS") rfl))
  have h1 := ok_is_whole (df_of (D.def_ 0 (d := dG "is_whole" s_is_whole) rfl) (gl (D.fact 0 (f := .glo "is_whole") rfl))) B
  have h2 := ok_is_value (df_of (D.def_ 1 (d := dG "is_value" s_is_value) rfl) (gl (D.fact 1 (f := .glo "is_value") rfl))) h1 (He.int_ok X G (D.fact 42 (f := .int "MODULUS" 9973) rfl))
  have h3 := ok_is_word (tf_of (D.def_ 2 (d := dG "is_word" s_is_word) rfl) (gl (D.fact 2 (f := .glo "is_word") rfl)) (T _ (.head _)).1 (T _ (.head _)).2) B (He.str_ok X G (D.fact 41 (f := .str "LETTERS" "abcdefghijklmnopqrstuvwxyz") rfl))
  have h4 := ok_is_name (df_of (D.def_ 3 (d := dG "is_name" s_is_name) rfl) (gl (D.fact 3 (f := .glo "is_name") rfl))) h3 (He.int_ok X G (D.fact 43 (f := .int "LONGEST_NAME" 3) rfl))
  have h5 := ok_is_part (df_of (D.def_ 7 (d := dG "is_part" s_is_part) rfl) (gl (D.fact 7 (f := .glo "is_part") rfl))) h2 h4
  obtain ⟨fo, ofo, mfo⟩ := h5.at
  have h6 := ok_has_form (tf_of (D.def_ 6 (d := dG "has_form" s_has_form) rfl) (gl (D.fact 6 (f := .glo "has_form") rfl)) (T _ (.tail _ (.tail _ (.tail _ (.head _))))).1 (T _ (.tail _ (.tail _ (.tail _ (.head _))))).2) B F kindD fo ofo
  have h7 := ok_parts_of (df_of (D.def_ 8 (d := dG "parts_of" s_parts_of) rfl) (gl (D.fact 8 (f := .glo "parts_of") rfl))) B F
  have h8 := ok_rows_of (df_of (D.def_ 9 (d := dG "rows_of" s_rows_of) rfl) (gl (D.fact 9 (f := .glo "rows_of") rfl)))
  have h9 := ok_is_block (tf_of (D.def_ 5 (d := dG "is_block" s_is_block) rfl) (gl (D.fact 5 (f := .glo "is_block") rfl)) (T _ (.tail _ (.tail _ (.head _)))).1 (T _ (.tail _ (.tail _ (.head _)))).2) B F (He.int_ok X G (D.fact 45 (f := .int "MOST_STEPS" 16) rfl)) h4 fo mfo h6
  have h10 := ok_is_program (tf_of (D.def_ 4 (d := dG "is_program" s_is_program) rfl) (gl (D.fact 4 (f := .glo "is_program") rfl)) (T _ (.tail _ (.head _))).1 (T _ (.tail _ (.head _))).2) B F (He.int_ok X G (D.fact 44 (f := .int "MOST_BLOCKS" 12) rfl)) h9 h7
  have h11 := ok_check_program (df_of (D.def_ 10 (d := dG "check_program" s_check_program) rfl) (gl (D.fact 10 (f := .glo "check_program") rfl))) h10
  have h12 := ok_check_inputs (tf_of (D.def_ 12 (d := dG "check_inputs" s_check_inputs) rfl) (gl (D.fact 12 (f := .glo "check_inputs") rfl)) (T _ (.tail _ (.tail _ (.tail _ (.tail _ (.head _)))))).1 (T _ (.tail _ (.tail _ (.tail _ (.tail _ (.head _)))))).2) B (He.int_ok X G (D.fact 46 (f := .int "MOST_INPUTS" 30) rfl)) h2
  have h13 := ok_check_turns (df_of (D.def_ 13 (d := dG "check_turns" s_check_turns) rfl) (gl (D.fact 13 (f := .glo "check_turns") rfl))) (He.int_ok X G (D.fact 47 (f := .int "MOST_TURNS" 9999) rfl)) h1
  have h14 := ok_sum_of (df_of (D.def_ 11 (d := dG "sum_of" s_sum_of) rfl) (gl (D.fact 11 (f := .glo "sum_of") rfl))) (He.int_ok X G (D.fact 42 (f := .int "MODULUS" 9973) rfl))
  have T1 : StCl c (He.ga c.K "State") := ⟨(He.cls_ok (D.fact 48 (f := .cls "State") rfl)), (He.noat_ok (D.fact 49 (f := .noat "State" "borne") rfl)), (He.noat_ok (D.fact 50 (f := .noat "State" "inputs") rfl)), (He.noat_ok (D.fact 51 (f := .noat "State" "taken") rfl)), (He.noat_ok (D.fact 52 (f := .noat "State" "puts") rfl))⟩
  have i1 := ok_st_init (C := He.ga c.K "State") (let ⟨fd, q⟩ := fun_of (D.def_ 22 (d := dM "State" "__init__" "State.__init__" s_State_init) rfl); ⟨_, fd, q, He.mkr_ok (D.fact 58 (f := .mkr "State") rfl)⟩) T1 B
  have i2 := ok_value_of (let ⟨fd, q⟩ := fun_of (D.def_ 23 (d := dM "State" "value_of" "State.value_of" s_State_value_of) rfl); ⟨_, fd, q, He.meth_ok (D.fact 53 (f := .meth "State" "value_of") rfl)⟩) T1
  have i3 := ok_next_input (let ⟨fd, q⟩ := fun_of (D.def_ 24 (d := dM "State" "next_input" "State.next_input" s_State_next_input) rfl); ⟨_, fd, q, He.meth_ok (D.fact 54 (f := .meth "State" "next_input") rfl)⟩) T1 B
  have i4 := ok_value_for (let ⟨fd, q⟩ := fun_of (D.def_ 26 (d := dM "State" "value_for" "State.value_for" s_State_value_for) rfl); ⟨_, fd, q, He.meth_ok (D.fact 56 (f := .meth "State" "value_for") rfl)⟩) T1 i2 i3 h14
  have i5 := ok_do_step (let ⟨fd, q⟩ := fun_of (D.def_ 25 (d := dM "State" "do_step" "State.do_step" s_State_do_step) rfl); ⟨_, fd, q, He.meth_ok (D.fact 55 (f := .meth "State" "do_step") rfl)⟩) T1 i2 i4
  have i6 := ok_block_behind (let ⟨fd, q⟩ := fun_of (D.def_ 27 (d := dM "State" "block_behind" "State.block_behind" s_State_block_behind) rfl); ⟨_, fd, q, He.meth_ok (D.fact 57 (f := .meth "State" "block_behind") rfl)⟩) T1 i2
  have r1 : OkRun c 11 := ok_run (C := He.ga c.K "State") (let ⟨fd, cd, q⟩ := defAt_of (D.def_ 14 (d := ⟨("run", none), "run", "run", defArgs s_run, defBody s_run, defScope s_run, [], [("turns", .int 500)]⟩) rfl) (gl (D.fact 14 (f := .glo "run") rfl)); ⟨_, fd, cd, q⟩) ⟨T1, B, F, (gl (D.fact 22 (f := .glo "State") rfl)), h11, h12, h13, h8, i1, i5, i6⟩
  have p1 := ok_pick (df_of (D.def_ 15 (d := dG "_law_pick" s_law_pick) rfl) (gl (D.fact 15 (f := .glo "_law_pick") rfl))) B2
  have p2 := ok_step (df_of (D.def_ 16 (d := dG "_law_step" s_law_step) rfl) (gl (D.fact 16 (f := .glo "_law_step") rfl))) B2 p1
  have p3 := ok_program (df_of (D.def_ 17 (d := dG "_law_program" s_law_program) rfl) (gl (D.fact 17 (f := .glo "_law_program") rfl))) B2 p1 p2
  have p4 := ok_loud (df_of (D.def_ 18 (d := dG "_law_loud" s_law_loud) rfl) (gl (D.fact 18 (f := .glo "_law_loud") rfl))) B2 p1 p3
  have p5 := ok_inputs (df_of (D.def_ 19 (d := dG "_law_inputs" s_law_inputs) rfl) (gl (D.fact 19 (f := .glo "_law_inputs") rfl))) B2 p1
  have p6 := ok_plain (df_of (D.def_ 20 (d := dG "_law_plain" s_law_plain) rfl) (gl (D.fact 20 (f := .glo "_law_plain") rfl))) B2
  exact ⟨B2, p1, p4, p5, p6, h10, r1⟩
theorem tabN_nil {H : Hp} {P : Addr} (h : H P = some (.tbl #[])) : TabN H P := ⟨#[], h, True.intro, fun pos cv e => by
  have z : codeAmong pos [] = some cv := e
  simp [codeAmong] at z⟩
theorem law_at {w : World} {K : PySem.W.Frag} {h : Heap} {mg : Str → Option Value} {fa : Addr} (X : K.In h) (G : h.Ns mainGlobals mg) (hfa : mg ("law" : Str) = some (.ref fa)) (S : He.SaysX fas fns tabs0 tfs fmB w h K) :
    LamX.LawAtS PySem.Challenge.rw_passmill_k01_whole_runs w K CX0 12 63 "_law_script" mg fa h := by
  have D := S.t.d
  have hg := He.glo_ok X G (D.fact 21 (f := .glo "law") rfl)
  have e := hfa.symm.trans hg
  cases e
  let ts : List Addr := tfs.map fun p => (He.cT K p).2
  obtain ⟨fd, F⟩ := D.def_ 21 (d := dG "law" s_law) rfl
  have b := FunD.bindsA (ps := ["_law_script"]) F fun _ _ _ _ _ _ us hl => match us, hl with | [_], _ => rfl
  refine ⟨fd, tfs.map (He.cT K), spLaw ⟨PySem.Challenge.rw_passmill_k01_whole_runs.prog, w, K, mg, h, ts⟩, fun p hp => ?_, fun p hp => ?_, fun p hp => ?_, fun s u => b s [u] rfl, fun H a ns hl _ hH hS => ?_, fun base KB NB TB => ?_⟩
  · obtain ⟨q, hq, rfl⟩ := List.mem_map.mp hp
    exact S.empty q hq
  · obtain ⟨q, hq, rfl⟩ := List.mem_map.mp hp
    exact S.out q hq
  · obtain ⟨q, hq, rfl⟩ := List.mem_map.mp hp
    exact PySem.W.codeHd_of_K X (S.hd q hq)
  · refine ⟨a, rfl, ⟨ns, hS, hl⟩, fun P hP => ?_, fun _ => rfl⟩
    obtain ⟨q, hq, rfl⟩ := List.mem_map.mp hP
    exact tabN_nil (hH _ (List.mem_map.mpr ⟨q, hq, rfl⟩))
  · obtain ⟨⟨oc, od, dV, kV, doc, pm, an, cdv, ct, osl, rfl, lk, hcd, hD, hK⟩, kp⟩ := F
    obtain ⟨cd, rfl⟩ := He.codeIn_ref hcd
    exact ok_law (c := ⟨PySem.Challenge.rw_passmill_k01_whole_runs.prog, w, K, mg, base, ts⟩) (cd := cd) ⟨⟨oc, od, dV, kV, doc, pm, an, ct, osl, rfl, lk, hcd, hD, hK⟩, kp, hg⟩
      (law_in (c := ⟨PySem.Challenge.rw_passmill_k01_whole_runs.prog, w, K, mg, base, ts⟩) X G S fun p hp => ⟨let z := TB _ (List.mem_map.mpr ⟨p, hp, rfl⟩); ⟨z.code, z.bm, z.gP⟩, List.mem_map.mpr ⟨p, hp, rfl⟩⟩)
end Pm
open PySem PySem.W PySem.Calls PyProof.Rows
theorem PySem.Challenge.cw_passmill_k01_whole_runs_holds : PySem.Challenge.rw_passmill_k01_whole_runs.Holds := by
  w_on; o_law
  refine HandSHeadRun.head_any (r := OpenLaw.row PySem.Challenge.rw_passmill_k01_whole_runs) (q := view (OpenLaw.row PySem.Challenge.rw_passmill_k01_whole_runs).prog [41]) (H := Pm.hk) (ob := Pm.ob) (M := 8000) (loose := Pm.loose) (d := HandSHeadRun.topDef (OpenLaw.row PySem.Challenge.rw_passmill_k01_whole_runs).prog 41) (kwd := []) Pm.ob_eq
    (by kernel_rfl) (fun s => by kernel_rfl) Pm.runs (by kernel_rfl) (by kernel_rfl) (by kernel_rfl) (by rfl) (by first | assumption | decide +kernel) (by decide +kernel) ⟨rfl, rfl, rfl, rfl, rfl, by decide +kernel⟩ ?hw ?hc
  case hw => w_witness2
  case hc =>
    refine LamX.walk_ofTsE (l := PySem.Challenge.rw_passmill_k01_whole_runs) (n := 63) (k := 12) (x := "_law_script") (CX := fun _ => L2.CX0) rfl (by decide) (by kernel_rfl) ⟨rfl, by decide, by decide⟩ ?F (fun _ _ _ _ _ z => z)
    intro w mg fa h Y G hmg0
    obtain ⟨K, KX, c⟩ := Y
    have hmg : mg ("law" : PySem.Str) = some (.ref fa) := by
      have e : (HandSHeadRun.topDef (OpenLaw.row PySem.Challenge.rw_passmill_k01_whole_runs).prog 41).name = ("law" : PySem.Str) := by kernel_rfl
      rw [← e]
      exact hmg0
    exact ⟨K, KX, Pm.law_at KX G hmg c⟩
