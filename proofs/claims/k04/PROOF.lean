

import PyProof.Rows.All
import Wide.All
import OpenK.AllK
import Wide.FinOn
import KE.KStateDown
import HandS.ForMost
import HandS.More
import HandS.Flow
import HandS.IsInst
import HandS.AnyAll
import HandS.Steps
import HandS.Walk
import HandS.Evl
import HandS.ExcOwn
import HandS.ExcCtx
import HandS.ExcIs
import HandS.HotCalls
import HandS.WordsExc
import HandS.Head0
import HandS.Head1
import HandS.Head2
import HandS.HeadEnd
import HandS.HeadHook1
import HandS.HeadHook2
import HandS.HeadHook4
import HandS.HeadWalk
import PyProof.Rows.SortShellAny
import PySem.Challenge.RW_readwriteroom_k04_rooms_made
set_option Elab.async false
set_option linter.all false
set_option maxHeartbeats 8000000
set_option maxRecDepth 100000

/-! ### all(test for x in text), the test over the sign and the module's names -/
namespace RG
open PySem PySem.Spec PyProof.Rows L2
/-- the test of one sign: it may read the sign's name and the module's names -/
def Elt (P : Program) (w : World) (mg : Str → Option Value) (scope : Scope) (x : Str) (elt : Expr) (pb : Nat → Bool) : Prop :=
  ∀ (ev : Env) (A : Around) (E : Value → Shared → Prop) (k : Nat) (t : Tok) (s : Shared) (m : Str → Option Value), ev.scope = scope → ev.globals = mainGlobals → s.heap.Ns mainGlobals mg → s.heap.Ns ev.locals m → m x = some (.str ⟨#[k]⟩ t) →
    wpAny (model P w) A (eval elt ev) (fun y s' => y = .bool (pb k) ∧ Keeps s s') E s
/-- x in NAME, NAME a text of the module -/
theorem elt_in {P : Program} {w : World} {mg : Str → Option Value} {scope : Scope} {x N z : Str} {tk : Tok} {p1 p2 p3 : Pos} (kd : scope.kind = .function) (lx : scope.names.lookup x = some .local) (lN : scope.names.lookup N = some .globalImplicit) (hN : mg N = some (.str z tk))
    (d1 : (x == ("__debug__" : Str)) = false := by decide) (d2 : (N == ("__debug__" : Str)) = false := by decide) : Elt P w mg scope x (.Compare (.Name x p1) [.In] [.Name N p2] p3) (fun k => decide (k ∈ z.cps.toList)) := by
  intro ev A E k t s m hs hg hG hL hx
  subst hs
  refine wpAny_Compare1 (wpAny_Name (wpAny_loadName_local kd lx hL hx ?_) d1) (by rfl)
  have hG' : s.heap.Ns ev.globals mg := by
    rw [hg]
    exact hG
  refine Calls.Name_function_global kd lN (Calls.loadGlobal_global hG' hN (PyProof.Rows.in_str ⟨?_, s.heap, s.toks, rfl, fun _ _ e => e⟩)) d2
  rw [PySem.StrLaws.found_one z k]
theorem nofree {l : List (Str × NameKind)} {R : Str × NameKind → Prop} (h : (l.all fun y => decide (y.2 ≠ .free)) = true) : ∀ y ∈ l, y.2 = .free → R y := fun y hy e => absurd e (of_decide_eq_true (List.all_eq_true.mp h y hy))
section
variable {X : Cx} {pins : List (Addr × Obj)} {σ : L2.St} {H : Hp} {s : Shared} {c P : Addr} {scope : Scope} {x : Str} {elt : Expr} {pb : Nat → Bool}
/-- the code object of the generator is found in the table, or made and entered -/
theorem code_of {M : Model} {A : Around} {E : Value → Shared → Prop} {r : Shared} {ev : Env} {gp : Pos} {qn : Str} {ps : Array Value} {Q : Value → Shared → Prop} (hc : ev.code = .ref c) (hd : PySem.W.CodeHd r.heap c P) (hP : r.heap.get? P = some (PySem.W.tabObj ps)) (ok : TriplesOk ps.toList)
    (h : ∀ cd h' tk more, Heap.ExtBut P r.heap h' → r.heap.objs.size ≤ h'.objs.size → h'.get? P = some (PySem.W.tabObj (ps ++ more)) → TriplesOk (ps ++ more).toList → Q cd { r with heap := h', toks := tk }) : wpAny M A (genexprCode ev gp qn scope) Q E r := by
  cases hf : codeAmong gp ps.toList with
  | some cd =>
    have e : ps ++ #[] = ps := by simp
    refine wpAny_genexprCode_hit hc (hd.code hP ok) hf ?_
    exact h cd r.heap r.toks #[] (.refl _ _) (Nat.le_refl _) (by rw [e]; exact hP) (by rw [e]; exact ok)
  | none =>
    refine wpAny_genexprCodeX hc (hd.code hP ok) (hd.tab hP) hf ?_
    intro c1 h1 t1 ext ge lt co _ ta _
    obtain ⟨_, _, _, _, _, _, _, _, _, _, _, _, _, _, _, _, _, _, _, tr, _⟩ := co
    exact h _ h1 t1 _ ext (Nat.le_trans ge (Nat.le_of_lt lt)) ta.2 tr
theorem in_range {h : Heap} {b : Addr} {u : Obj} (e : h.get? b = some u) : b ∈ List.range h.objs.size := List.mem_range.mpr (Heap.lt_size e)
theorem pe_allG {iter : Expr} {px p pos gp : Pos} {te : TE} {k : Nat} (hr : Room k X.A) (gA : Gl X "all") (mA : X.mg "all" = none) (TB : GxR.TabB X.base X.mg c P) (hc : X.env.code = .ref c) (S : GxR.GenS X.env scope x) (hi : PE X iter te) (hel : Elt X.prog X.w X.mg scope x elt pb)
    (hs : ∀ v, genFold iter X.env v = pure v)
    (he : starEach [.GeneratorExp elt [⟨.Name x px, iter, [], 0⟩] scope gp] X.env = [(false, eval (.GeneratorExp elt [⟨.Name x px, iter, [], 0⟩] scope gp) X.env)] := by rfl) :
    PE X (.Call (.Name "all" p) [.GeneratorExp elt [⟨.Name x px, iter, [], 0⟩] scope gp] [] pos) (GxR.tAllS P pb te) := by
  constructor
  intro pins s σ H Q I h
  have bA : bootBuiltins "all" = some (.builtin "all") := PyProof.Rows.boot_all
  refine wpAny_Call_Name_kw (ld_blt I gA mA bA (PyProof.Rows.callWith_builtin1 ?_ he (by rfl)))
  rw [he]
  refine Calls.spliced_cons ?_
  refine wpAny_GeneratorExp_walksQ hr.hd S.co (closure_ok S.free) S.cell S.dot S.loc S.kind (by have := hr.dp; omega) (thn (hi.run pins s σ H _ I h) ?_) hs
  rintro xv sa ⟨v, Ha, Ia, rv, a, rfl, ⟨ps, tP, ok⟩, q⟩
  obtain ⟨ta, rfl⟩ := rv
  refine wpAny_pyIter_str ?_
  intro io St W st0
  -- the heap with the text's iterator
  have gP : sa.heap.get? P = some (PySem.W.tabObj ps) := Ia.hok P _ tP
  have up : ∀ b u, sa.heap.get? b = some u → (sa.heap.push io).get? b = some u := fun b u e => Heap.get?_push_of_some _ e
  have nl : (sa.heap.push io).NoLimit := Ia.nolimit.push io
  have szp : (sa.heap.push io).objs.size = sa.heap.objs.size + 1 := Heap.size_push ..
  refine ⟨nl, code_of hc (TB.code.keeps fun b u e => up b u (Ia.bk b u e)) (up _ _ gP) ok ?_⟩
  intro cd h3 tk more ext ge gP3 ok3
  have ge2 : sa.heap.objs.size + 1 ≤ h3.objs.size := by
    rw [← szp]
    exact ge
  have kp : ∀ b u, b ≠ P → sa.heap.get? b = some u → h3.get? b = some u := fun b u n e => ext b u n (up b u e)
  have PltA : P < sa.heap.objs.size := Heap.lt_size gP
  have nsG : h3.Ns mainGlobals X.mg := ((Ia.mod.glob.keeps Ia.bk).push io).extBut ext TB.gP
  have csP : cStatics ≠ P := by
    intro e
    obtain ⟨_, ⟨o', _, _, ho, hdd, _⟩, _⟩ := Ia.nolimit
    rw [e, gP] at ho
    cases ho
    cases hdd
  have csA : cStatics < sa.heap.objs.size := let ⟨_, hns, _⟩ := Ia.nolimit; hns.lt
  have itP : sa.heap.objs.size ≠ P := fun e => absurd PltA (by rw [e]; exact Nat.lt_irrefl _)
  obtain ⟨bm, ob, b1, b2, b3, b4, b5, b6, b7, b8⟩ := TB.bm
  refine wpAny_builtinsFor (m := X.mg) (by rw [Ia.ok.glob]; exact nsG) b1 b2 (kp _ _ b4 (Ia.bk _ _ b5)) b6 b7 b8 ?_
  refine ⟨sa.heap.objs.size, [sa.heap.objs.size], [sa.heap.objs.size], a.cps.size, SignAt a, St, fun _ => true, fun j y => ∃ k, a.cps[j]? = some k ∧ y = .bool (pb k), rfl, W, ?_, ?_, nl.extBut ext csP, ?_, ?_, ?_⟩
  · refine (W X.A hr.hd).frame _ _ _ st0 fun b hb u e => ext b u ?_ e
    rw [List.mem_singleton.mp hb]
    exact itP
  · intro b hb
    rw [List.mem_singleton.mp hb]
    exact ge2
  · intro hm
    exact Nat.ne_of_lt csA (List.mem_singleton.mp hm)
  · intro hh kh
    constructor
    · intros
      simp only [List.forIn_nil]
      exact wpAny_pure ⟨rfl, GxR.keeps_refl _⟩
    · rintro A' E' j v s2 m2 hA ⟨k, u, hk, rfl⟩ _ hn hm keep
      have G2 : s2.heap.Ns mainGlobals X.mg := by
        obtain ⟨og, es, ep, hog, r⟩ := nsG
        refine ⟨og, es, ep, keep _ (in_range hog) ?_ _ (kh _ _ hog), r⟩
        intro hm2
        have e2 := List.mem_singleton.mp hm2
        obtain ⟨o9, _, _, h9, _⟩ := Ia.mod.glob.keeps Ia.bk
        have := Heap.lt_size h9
        rw [e2] at this
        exact Nat.lt_irrefl _ this
      refine wpAny_mono (hel _ A' E' k u s2 m2 rfl Ia.ok.glob G2 hn hm) ?_ fun _ _ z => z
      rintro y s3 ⟨e, kk⟩
      exact ⟨⟨k, hk, e⟩, kk⟩
  · intro g h5 t5 gs bare _ _ k5 W5 hat
    rw [GxR.passing_true] at W5
    simp only [List.length_range] at W5
    refine Calls.spliced_nil (call_all_walkS (W5.in4_1.self 0 _ _ _ hat ⟨g, _, _, _, _, _, _, GxR.trF pb a.cps.toList, rfl, W5.in4_1, hat, ?_, ?_⟩))
    · rintro j y sj Qj Ej ⟨i, hij, k, hk, rfl⟩ hq
      obtain ⟨hj, ej⟩ := List.getElem?_eq_some_iff.mp hij
      rw [List.getElem_range] at ej
      subst ej
      rw [GxR.trF_some (b := k) (by rw [Array.getElem?_toList]; exact hk)] at hq
      exact wpAny_truthy_bool hq
    · intro s' mv
      have away : ∀ b u, sa.heap.get? b = some u → b ∉ [h3.objs.size, sa.heap.objs.size] := by
        intro b u e hm
        have l := Heap.lt_size e
        rcases List.mem_cons.mp hm with z | z
        · rw [z] at l
          exact absurd (Nat.lt_of_lt_of_le l (Nat.le_of_succ_le ge2)) (Nat.lt_irrefl _)
        · rw [List.mem_singleton.mp z] at l
          exact Nat.lt_irrefl _ l
      have J := GxR.inv_tab (more := more) (h' := s'.heap) (g' := s'.gens) (d' := s'.drawn) (t' := s'.toks) Ia tP (fun b u n e => mv.heap b u (away b u e) (k5 b u (kp b u n e))) (mv.heap P _ (away P _ gP) (k5 P _ gP3)) (AllBare.movedS (Ia.bare.push bare) mv)
      rw [GxR.sh_eta sa s' mv.os] at J
      refine ⟨.bl _, _, J, rfl, ?_⟩
      rw [GxR.all_signs a pb]
      exact q _ ⟨⟨_, upd_same, ok3⟩, fun b n => upd_ne n⟩
end
end RG

namespace RR
open PySem L2

/-! ### heaps: what is known stays; the tables of code objects may grow -/
def Gr (H H' : Hp) : Prop := ∀ a o, H a = some o → H' a = some o ∨ ∃ ps qs, o = HO.tbl ps ∧ H' a = some (.tbl qs) ∧ (TriplesOk ps.toList → TriplesOk qs.toList)
namespace Gr
theorem refl (H : Hp) : Gr H H := fun _ _ h => .inl h
theorem trans {H H1 H2 : Hp} (x : Gr H H1) (y : Gr H1 H2) : Gr H H2 := by
  intro a o h
  rcases x a o h with h1 | ⟨ps, qs, rfl, h1, t1⟩
  · exact y a o h1
  · rcases y a _ h1 with h2 | ⟨ps', qs', e, h2, t2⟩
    · exact .inr ⟨ps, qs, rfl, h2, t1⟩
    · cases e
      exact .inr ⟨ps, qs', rfl, h2, fun t => t2 (t1 t)⟩
theorem new {H : Hp} {p : Addr} {o : HO} (hp : H p = none) : Gr H (upd H p o) := fun a u h => .inl ((upd_ne (ne_of_none h hp)).trans h)
theorem chg {H H' : Hp} {p : Addr} {o : HO} (x : Gr H H') (hp : H p = none) : Gr H (upd H' p o) := by
  intro a u h
  have n : a ≠ p := ne_of_none h hp
  rcases x a u h with h1 | ⟨ps, qs, e, h1, t1⟩
  · exact .inl ((upd_ne n).trans h1)
  · exact .inr ⟨ps, qs, e, (upd_ne n).trans h1, t1⟩
theorem at_ {H H' : Hp} {a : Addr} {o : HO} (x : Gr H H') (h : H a = some o) (n : ∀ ps, o ≠ .tbl ps) : H' a = some o := by
  rcases x a o h with h1 | ⟨ps, _, e, _⟩
  · exact h1
  · exact absurd e (n ps)
theorem lst {H H' : Hp} {a : Addr} {xs : List V} (x : Gr H H') (h : H a = some (.lst xs)) : H' a = some (.lst xs) := x.at_ h fun _ e => by cases e
theorem tup {H H' : Hp} {a : Addr} {xs : List V} (x : Gr H H') (h : H a = some (.tup xs)) : H' a = some (.tup xs) := x.at_ h fun _ e => by cases e
theorem ins {H H' : Hp} {a C d : Addr} {fs : List (Str × V)} (x : Gr H H') (h : H a = some (.ins C d fs)) : H' a = some (.ins C d fs) := x.at_ h fun _ e => by cases e
theorem free {H H' : Hp} {p : Addr} (x : Gr H H') (h : H' p = none) : H p = none := by
  cases q : H p with
  | none => rfl
  | some o =>
    rcases x p o q with h1 | ⟨_, _, _, h1, _⟩ <;> (rw [h] at h1; cases h1)
theorem rd {H H' : Hp} {a : Addr} {u : HO} (x : Gr H H') (h : Rd H a u) (n : ∀ ps, u ≠ .tbl ps) : Rd H' a u := by
  rcases h with h | ⟨o, h⟩
  · exact .inl (x.at_ h n)
  · exact .inr ⟨o, x.at_ h fun _ e => by cases e⟩
theorem sl {K : PySem.W.Frag} {H H' : Hp} {a : Addr} {xs : List V} (x : Gr H H') (h : SqL K H a xs) : SqL K H' a xs := by
  rcases h with h | h
  · exact .inl (x.rd h fun _ e => by cases e)
  · exact .inr h
theorem st {K : PySem.W.Frag} {H H' : Hp} {a : Addr} {xs : List V} (x : Gr H H') (h : SqT K H a xs) : SqT K H' a xs := by
  rcases h with h | h
  · exact .inl (x.rd h fun _ e => by cases e)
  · exact .inr h
theorem tab {H H' : Hp} {P : Addr} (x : Gr H H') (h : GxR.TabG H P) : GxR.TabG H' P := by
  obtain ⟨ps, h, t⟩ := h
  rcases x P _ h with h1 | ⟨ps', qs, e, h1, t1⟩
  · exact ⟨ps, h1, t⟩
  · cases e
    exact ⟨qs, h1, t1 t⟩
theorem ofTab {H H' : Hp} {P : Addr} (h : GxR.TabG H P) (g : GxR.Tabbed P H H') : Gr H H' := by
  obtain ⟨⟨qs, h1, t1⟩, oth⟩ := g
  intro a o ha
  by_cases e : a = P
  · subst e
    obtain ⟨ps, h0, t0⟩ := h
    rw [h0] at ha
    cases ha
    exact .inr ⟨ps, qs, rfl, h1, fun _ => t1⟩
  · exact .inl ((oth a e).trans ha)
end Gr
mutual
theorem Gr.dp {K : PySem.W.Frag} {H H' : Hp} (x : Gr H H') : ∀ {v : V} {d : PyData}, Dp K H v d → Dp K H' v d
  | _, _, .non => .non
  | _, _, .bl b => .bl b
  | _, _, .int i => .int i
  | _, _, .str z => .str z
  | _, _, .lst s h => .lst (x.sl s) (Gr.dps x h)
  | _, _, .tup s h => .tup (x.st s) (Gr.dps x h)
theorem Gr.dps {K : PySem.W.Frag} {H H' : Hp} (x : Gr H H') : ∀ {vs : List V} {ds : List PyData}, DpAll K H vs ds → DpAll K H' vs ds
  | _, _, .nil => .nil
  | _, _, .cons h t => .cons (Gr.dp x h) (Gr.dps x t)
end

/-! ### what a reading gives, whatever grew meanwhile -/
def Vl (te : TE) (σ : L2.St) (H : Hp) (v : V) : Prop := ∀ (H1 : Hp) (Q : VK), Gr H H1 → (∀ H2, Gr H1 H2 → Q v H2) → te σ H1 Q
def Ls (te : TE) (σ : L2.St) (H : Hp) (xs : List V) : Prop := ∀ (H1 : Hp) (Q : VK), Gr H H1 → (∀ p H2, H1 p = none → Gr H1 H2 → H2 p = some (.lst xs) → Q (.ref p) H2) → te σ H1 Q
def Tu (te : TE) (σ : L2.St) (H : Hp) (xs : List V) : Prop := ∀ (H1 : Hp) (Q : VK), Gr H H1 → (∀ p H2, H1 p = none → Gr H1 H2 → H2 p = some (.tup xs) → Q (.ref p) H2) → te σ H1 Q
def Ts (tt : TT) (σ : L2.St) (H : Hp) (b : Bool) : Prop := ∀ (H1 : Hp) (Q : Bool → Hp → Prop), Gr H H1 → (∀ H2, Gr H1 H2 → Q b H2) → tt σ H1 Q
def Ag (ta : TA) (σ : L2.St) (H : Hp) (vs : List V) : Prop := ∀ (H1 : Hp) (Q : List V → Hp → Prop), Gr H H1 → (∀ H2, Gr H1 H2 → Q vs H2) → ta σ H1 Q
/-- any value of which R holds (data, say) -/
def Vr (te : TE) (σ : L2.St) (H : Hp) (R : V → Hp → Prop) : Prop := ∀ (H1 : Hp) (Q : VK), Gr H H1 → (∀ v H2, Gr H1 H2 → R v H2 → Q v H2) → te σ H1 Q
def Ar (ta : TA) (σ : L2.St) (H : Hp) (R : List V → Hp → Prop) : Prop := ∀ (H1 : Hp) (Q : List V → Hp → Prop), Gr H H1 → (∀ vs H2, Gr H1 H2 → R vs H2 → Q vs H2) → ta σ H1 Q
def Bi (r : R2) (x y : V) (H : Hp) (z : V) : Prop := ∀ (H1 : Hp) (Q : VK), Gr H H1 → (∀ H2, Gr H1 H2 → Q z H2) → r x y H1 Q
def SpV (sp : Sp) (vs : List V) (H : Hp) (z : V) : Prop := ∀ (H1 : Hp) (Q : VK) (E : XK), Gr H H1 → (∀ H2, Gr H1 H2 → Q z H2) → sp vs H1 Q E
def SpL (sp : Sp) (vs : List V) (H : Hp) (xs : List V) : Prop := ∀ (H1 : Hp) (Q : VK) (E : XK), Gr H H1 → (∀ p H2, H1 p = none → Gr H1 H2 → H2 p = some (.lst xs) → Q (.ref p) H2) → sp vs H1 Q E
def SpR (sp : Sp) (vs : List V) (H : Hp) (R : V → Hp → Prop) : Prop := ∀ (H1 : Hp) (Q : VK) (E : XK), Gr H H1 → (∀ v H2, Gr H1 H2 → R v H2 → Q v H2) → sp vs H1 Q E
/-- a promise's ways out: a value, a new list, anything of which R holds -/
def RV (v : V) (H : Hp) (Q : VK) : Prop := ∀ H2, Gr H H2 → Q v H2
def RL (xs : List V) (H : Hp) (Q : VK) : Prop := ∀ p H2, H p = none → Gr H H2 → H2 p = some (.lst xs) → Q (.ref p) H2
def RR_ (R : V → Hp → Prop) (H : Hp) (Q : VK) : Prop := ∀ v H2, Gr H H2 → R v H2 → Q v H2
theorem RV.mono {v : V} {H H' : Hp} {Q : VK} (k : RV v H Q) (e : Gr H H') : RV v H' Q := fun H2 e2 => k H2 (e.trans e2)
theorem RL.mono {xs : List V} {H H' : Hp} {Q : VK} (k : RL xs H Q) (e : Gr H H') : RL xs H' Q := fun p H2 hp e2 h => k p H2 (e.free hp) (e.trans e2) h
theorem RR_.mono {R : V → Hp → Prop} {H H' : Hp} {Q : VK} (k : RR_ R H Q) (e : Gr H H') : RR_ R H' Q := fun v H2 e2 h => k v H2 (e.trans e2) h
theorem small {n : Nat} (h : n ≤ 100000) : n ≤ sizeLine := Nat.le_trans h (by decide)
theorem small' {n : Nat} (h : n < 100000) : n < sizeLine := Nat.lt_of_lt_of_le h (by decide)

section
variable {K : PySem.W.Frag} {σ : L2.St} {H H' : Hp} {t1 t2 t3 : TE} {c1 c2 : TT} {x y z v : V} {r : R2} {b c : Bool}
theorem Vl.mono (h : Vl t1 σ H v) (e : Gr H H') : Vl t1 σ H' v := fun H1 Q g q => h H1 Q (e.trans g) q
theorem Ls.mono {xs : List V} (h : Ls t1 σ H xs) (e : Gr H H') : Ls t1 σ H' xs := fun H1 Q g q => h H1 Q (e.trans g) q
theorem Ts.mono (h : Ts c1 σ H b) (e : Gr H H') : Ts c1 σ H' b := fun H1 Q g q => h H1 Q (e.trans g) q
theorem Vl.toR (h : Vl t1 σ H v) : Vr t1 σ H (fun u _ => u = v) := fun H1 Q g q => h H1 Q g fun H2 g2 => q v H2 g2 rfl
theorem Ls.toR {xs : List V} (h : Ls t1 σ H xs) : Vr t1 σ H (fun u H2 => ∃ p, u = .ref p ∧ H2 p = some (.lst xs)) := fun H1 Q g q => h H1 Q g fun p H2 _ g2 e => q _ H2 g2 ⟨p, rfl, e⟩
theorem Vl.is (h : Vl t1 σ H x) (e : x = y) : Vl t1 σ H y := e ▸ h
theorem Ts.is (h : Ts c1 σ H b) (e : b = c) : Ts c1 σ H c := e ▸ h
theorem Ls.is {xs ys : List V} (h : Ls t1 σ H xs) (e : xs = ys) : Ls t1 σ H ys := e ▸ h
theorem v_slot {i : Nat} (h : σ[i]? = some (some v)) : Vl (tVar i) σ H v := fun H1 _ _ q => ⟨v, h, q H1 (.refl _)⟩
theorem v_con : Vl (tC v) σ H v := fun H1 _ _ q => q H1 (.refl _)
theorem v_op (a : Vl t1 σ H x) (d : Vl t2 σ H y) (o : Bi r x y H z) : Vl (tOp r t1 t2) σ H z := fun H1 Q g q =>
  a H1 _ g fun H2 g2 => d H2 _ (g.trans g2) fun H3 g3 => o H3 _ ((g.trans g2).trans g3) fun H4 g4 => q H4 ((g2.trans g3).trans g4)
/-- the first operand, the second: of any kind -/
theorem v_opR {R S : V → Hp → Prop} (a : Vr t1 σ H R) (mR : ∀ {v H1 H2}, Gr H1 H2 → R v H1 → R v H2) (d : ∀ x H1, Gr H H1 → R x H1 → Vr t2 σ H1 S) (o : ∀ x y H1, Gr H H1 → R x H1 → S y H1 → Bi r x y H1 z) : Vl (tOp r t1 t2) σ H z := fun H1 Q g q =>
  a H1 _ g fun x H2 g2 hx => d x H2 (g.trans g2) hx H2 _ (.refl _) fun y H3 g3 hy => o x y H3 ((g.trans g2).trans g3) (mR g3 hx) hy H3 _ (.refl _) fun H4 g4 => q H4 ((g2.trans g3).trans g4)
theorem r_op {R S : V → Hp → Prop} (a : Vl t1 σ H x) (d : Vr t2 σ H R) (o : ∀ y H1, Gr H H1 → R y H1 → ∃ z, (∀ H2, Gr H1 H2 → S z H2) ∧ Bi r x y H1 z) : Vr (tOp r t1 t2) σ H S := fun H1 Q g q =>
  a H1 _ g fun H2 g2 => d H2 _ (g.trans g2) fun y H3 g3 hy => by
    obtain ⟨z, hz, b⟩ := o y H3 ((g.trans g2).trans g3) hy
    exact b H3 _ (.refl _) fun H4 g4 => q z H4 ((g2.trans g3).trans g4) (hz H4 g4)
theorem r_opV {R S : V → Hp → Prop} (a : Vr t1 σ H R) (d : ∀ H1, Gr H H1 → Vl t2 σ H1 y) (o : ∀ x H1, Gr H H1 → R x H1 → ∃ z, (∀ H2, Gr H1 H2 → S z H2) ∧ Bi r x y H1 z) : Vr (tOp r t1 t2) σ H S := fun H1 Q g q =>
  a H1 _ g fun x H2 g2 hx => d H2 (g.trans g2) H2 _ (.refl _) fun H3 g3 => by
    obtain ⟨z, hz, b⟩ := o x H2 (g.trans g2) hx
    exact b H3 _ g3 fun H4 g4 => q z H4 ((g2.trans g3).trans g4) (hz H4 (g3.trans g4))
theorem v_opL {xs : List V} (a : Ls t1 σ H xs) (d : ∀ H1, Gr H H1 → Vl t2 σ H1 y) (o : ∀ p H1, H1 p = some (.lst xs) → Gr H H1 → Bi r (.ref p) y H1 z) : Vl (tOp r t1 t2) σ H z := fun H1 Q g q =>
  a H1 _ g fun p H2 _ g2 hp => d H2 (g.trans g2) H2 _ (.refl _) fun H3 g3 => o p H3 (g3.lst hp) ((g.trans g2).trans g3) H3 _ (.refl _) fun H4 g4 => q H4 ((g2.trans g3).trans g4)
theorem v_opN {xs : List V} (a : Vl t1 σ H x) (d : Ls t2 σ H xs) (o : ∀ p H1, H1 p = some (.lst xs) → Gr H H1 → Bi r x (.ref p) H1 z) : Vl (tOp r t1 t2) σ H z := fun H1 Q g q =>
  a H1 _ g fun H2 g2 => d H2 _ (g.trans g2) fun p H3 _ g3 hp => o p H3 hp ((g.trans g2).trans g3) H3 _ (.refl _) fun H4 g4 => q H4 ((g2.trans g3).trans g4)
theorem v_opU {xs : List V} (a : Vl t1 σ H x) (d : Tu t2 σ H xs) (o : ∀ p H1, H1 p = some (.tup xs) → Gr H H1 → Bi r x (.ref p) H1 z) : Vl (tOp r t1 t2) σ H z := fun H1 Q g q =>
  a H1 _ g fun H2 g2 => d H2 _ (g.trans g2) fun p H3 _ g3 hp => o p H3 hp ((g.trans g2).trans g3) H3 _ (.refl _) fun H4 g4 => q H4 ((g2.trans g3).trans g4)
theorem v_un {f : V → Hp → VK → Prop} (a : Vl t1 σ H x) (o : ∀ H1 (Q : VK), Gr H H1 → Q z H1 → f x H1 Q) : Vl (tUn f t1) σ H z := fun H1 Q g q =>
  a H1 _ g fun H2 g2 => o H2 _ (g.trans g2) (q H2 g2)
theorem bi_0 {f : Int → Int → V} {i j : Int} : Bi (rI0 f) (.int i) (.int j) H (f i j) := fun H1 _ _ q => ⟨i, j, rfl, rfl, q H1 (.refl _)⟩
theorem bi_C {C : Int → Int → Prop} {f : Int → Int → V} {i j : Int} (h : C i j) : Bi (rI C f) (.int i) (.int j) H (f i j) := fun H1 _ _ q => ⟨i, j, rfl, rfl, h, q H1 (.refl _)⟩
theorem bi_eq (h : scal x y = true) : Bi rEq x y H (.bl (decide (x = y))) := fun H1 _ _ q => ⟨h, q H1 (.refl _)⟩
theorem bi_ne (h : scal x y = true) : Bi rNe x y H (.bl (!decide (x = y))) := fun H1 _ _ q => ⟨h, q H1 (.refl _)⟩
theorem bi_ixL {p : Addr} {xs : List V} {i : Int} (s : SqL K H p xs) (h : atI xs i = some v) : Bi (rIxL K) (.ref p) (.int i) H v := fun H1 _ g q => ⟨p, xs, i, v, rfl, rfl, g.sl s, h, q H1 (.refl _)⟩
theorem bi_ixT {p : Addr} {xs : List V} {i : Int} (s : SqT K H p xs) (h : atI xs i = some v) : Bi (rIxT K) (.ref p) (.int i) H v := fun H1 _ g q => ⟨p, xs, i, v, rfl, rfl, g.st s, h, q H1 (.refl _)⟩
theorem bi_ixS {w : Str} {i : Int} {k : Nat} (s : w.length ≤ 100000) (h : atI w.cps.toList i = some k) : Bi rIxS (.str w) (.int i) H (.str ⟨#[k]⟩) := fun H1 _ _ q => ⟨w, i, k, rfl, rfl, small s, h, q H1 (.refl _)⟩
theorem bi_cat {u w : Str} (h : u.length + w.length ≤ 100000) : Bi (fun x y H Q => ∃ i j, x = .str i ∧ y = .str j ∧ i.length + j.length ≤ sizeLine ∧ Q (.str (i ++ j)) H) (.str u) (.str w) H (.str (u ++ w)) := fun H1 _ _ q => ⟨u, w, rfl, rfl, small h, q H1 (.refl _)⟩
theorem bi_isN : Bi (fun x y H Q => y = .non ∧ Q (.bl (decide (x = .non))) H) x .non H (.bl (decide (x = .non))) := fun H1 _ _ q => ⟨rfl, q H1 (.refl _)⟩
theorem bi_notN : Bi (fun x y H Q => y = .non ∧ Q (.bl (!decide (x = .non))) H) x .non H (.bl (!decide (x = .non))) := fun H1 _ _ q => ⟨rfl, q H1 (.refl _)⟩
theorem bi_inT {neg : Bool} {p : Addr} {xs : List V} (s : SqT K H p xs) (hx : flatV x = true) (ha : xs.all flatV = true) : Bi (rIn K neg) x (.ref p) H (.bl (if neg then !inV x xs else inV x xs)) := fun H1 _ g q => ⟨p, xs, rfl, .inr (g.st s), hx, ha, q H1 (.refl _)⟩
theorem bi_inL {neg : Bool} {p : Addr} {xs : List V} (s : SqL K H p xs) (hx : flatV x = true) (ha : xs.all flatV = true) : Bi (rIn K neg) x (.ref p) H (.bl (if neg then !inV x xs else inV x xs)) := fun H1 _ g q => ⟨p, xs, rfl, .inl (g.sl s), hx, ha, q H1 (.refl _)⟩
theorem bi_eqD {d e : PyData} (hx : Dp K H x d) (hy : Dp K H y e) (sd : SeqAt.shaped d = true) (se : SeqAt.shaped e = true) : Bi (rEqD K) x y H (.bl (PyData.eqv d e)) := fun H1 _ g q => ⟨d, e, g.dp hx, g.dp hy, sd, se, q H1 (.refl _)⟩
theorem bi_neD {d e : PyData} (hx : Dp K H x d) (hy : Dp K H y e) (sd : SeqAt.shaped d = true) (se : SeqAt.shaped e = true) : Bi (rNeD K) x y H (.bl (!PyData.eqv d e)) := fun H1 _ g q => ⟨d, e, g.dp hx, g.dp hy, sd, se, q H1 (.refl _)⟩

/-! #### tests -/
theorem s_test (h : Vl t1 σ H (.bl b)) : Ts (tTest t1) σ H b := fun H1 _ g q => h H1 _ g fun H2 g2 => ⟨b, rfl, q H2 g2⟩
theorem s_B (h : Vl t1 σ H (.bl b)) : Ts (tB t1) σ H b := fun H1 _ g q => h H1 _ g fun H2 g2 => ⟨b, rfl, q H2 g2⟩
theorem s_truB (h : Vl t1 σ H (.bl b)) : Ts (fun σ H Q => t1 σ H fun x H' => ∃ k, TruV K x H' k ∧ Q k H') σ H b := fun H1 _ g q => h H1 _ g fun H2 g2 => ⟨b, rfl, q H2 g2⟩
theorem s_truL {a : Addr} {xs : List V} (h : Vl t1 σ H (.ref a)) (s : SqL K H a xs) : Ts (fun σ H Q => t1 σ H fun x H' => ∃ k, TruV K x H' k ∧ Q k H') σ H (!xs.isEmpty) := fun H1 _ g q => h H1 _ g fun H2 g2 => ⟨_, .inl ⟨xs, (g.trans g2).sl s, rfl⟩, q H2 g2⟩
theorem s_not (h : Ts c1 σ H b) : Ts (tNot c1) σ H (!b) := fun H1 _ g q => h H1 _ g fun H2 g2 => q H2 g2
theorem s_and (h : Ts c1 σ H b) (k : b = true → Ts c2 σ H c) : Ts (tAnd c1 c2) σ H (b && c) := fun H1 Q g q => h H1 _ g fun H2 g2 => by
  cases b
  · exact iteF (q H2 g2)
  · exact iteT (k rfl H2 _ (g.trans g2) fun H3 g3 => q H3 (g2.trans g3))
theorem s_or (h : Ts c1 σ H b) (k : b = false → Ts c2 σ H c) : Ts (tOr c1 c2) σ H (b || c) := fun H1 Q g q => h H1 _ g fun H2 g2 => by
  cases b
  · exact iteF (k rfl H2 _ (g.trans g2) fun H3 g3 => q H3 (g2.trans g3))
  · exact iteT (q H2 g2)
theorem v_chain {r' : R2} (a : Vl t1 σ H x) (d : Vl t2 σ H y) (o : Bi r x y H (.bl b)) (k : b = true → Vl t3 σ H z) (o2 : b = true → Bi r' y z H (.bl c)) : Vl (tChain r r' t1 t2 t3) σ H (.bl (b && c)) := fun H1 Q g q =>
  a H1 _ g fun H2 g2 => d H2 _ (g.trans g2) fun H3 g3 => o H3 _ ((g.trans g2).trans g3) fun H4 g4 => ⟨b, rfl, by
    cases b
    · exact iteF (q H4 ((g2.trans g3).trans g4))
    · exact iteT (k rfl H4 _ (((g.trans g2).trans g3).trans g4) fun H5 g5 => o2 rfl H5 _ ((((g.trans g2).trans g3).trans g4).trans g5) fun H6 g6 => q H6 ((((g2.trans g3).trans g4).trans g5).trans g6))⟩
theorem v_and (h : Vl t1 σ H (.bl b)) (k : b = true → Vl t2 σ H (.bl c)) : Vl (tAndV t1 t2) σ H (.bl (b && c)) := fun H1 Q g q => h H1 _ g fun H2 g2 => ⟨b, rfl, by
  cases b
  · exact iteF (q H2 g2)
  · exact iteT (k rfl H2 _ (g.trans g2) fun H3 g3 => q H3 (g2.trans g3))⟩
theorem v_or (h : Vl t1 σ H (.bl b)) (k : b = false → Vl t2 σ H (.bl c)) : Vl (tOrV t1 t2) σ H (.bl (b || c)) := fun H1 Q g q => h H1 _ g fun H2 g2 => ⟨b, rfl, by
  cases b
  · exact iteF (k rfl H2 _ (g.trans g2) fun H3 g3 => q H3 (g2.trans g3))
  · exact iteT (q H2 g2)⟩
theorem v_not (h : Vl t1 σ H (.bl b)) : Vl (tNotV t1) σ H (.bl (!b)) := fun H1 _ g q => h H1 _ g fun H2 g2 => ⟨b, rfl, q H2 g2⟩
theorem v_if (h : Ts c1 σ H b) (k1 : b = true → Vl t1 σ H v) (k2 : b = false → Vl t2 σ H v) : Vl (tIf c1 t1 t2) σ H v := fun H1 Q g q => h H1 _ g fun H2 g2 => by
  cases b
  · exact iteF (k2 rfl H2 _ (g.trans g2) fun H3 g3 => q H3 (g2.trans g3))
  · exact iteT (k1 rfl H2 _ (g.trans g2) fun H3 g3 => q H3 (g2.trans g3))

/-! #### arguments, calls, new objects -/
variable {a1 : TA} {vs xs : List V}
theorem g_nil : Ag tNil σ H [] := fun H1 _ _ q => q H1 (.refl _)
theorem g_cons (h : Vl t1 σ H x) (k : Ag a1 σ H vs) : Ag (tCons t1 a1) σ H (x :: vs) := fun H1 _ g q => h H1 _ g fun H2 g2 => k H2 _ (g.trans g2) fun H3 g3 => q H3 (g2.trans g3)
theorem l_lst (h : Ag a1 σ H vs) (n : vs.length ≤ 100000) : Ls (tLst a1) σ H vs := fun H1 _ g q => h H1 _ g fun H2 g2 => ⟨small n, fun p hp => q p _ (g2.free hp) (g2.trans (.new hp)) upd_same⟩
theorem u_tup (h : Ag a1 σ H vs) (n : vs.length ≤ 100000) : Tu (tTup a1) σ H vs := fun H1 _ g q => h H1 _ g fun H2 g2 => ⟨small n, fun p hp => q p _ (g2.free hp) (g2.trans (.new hp)) upd_same⟩
theorem v_call {sp : Sp} {ds : List V} {E : XK} (h : Ag a1 σ H vs) (k : SpV sp (vs ++ ds) H z) : Vl (tCall sp ds E a1) σ H z := fun H1 _ g q => h H1 _ g fun H2 g2 => k H2 _ _ (g.trans g2) fun H3 g3 => q H3 (g2.trans g3)
theorem l_call {sp : Sp} {ds : List V} {E : XK} (h : Ag a1 σ H vs) (k : SpL sp (vs ++ ds) H xs) : Ls (tCall sp ds E a1) σ H xs := fun H1 _ g q => h H1 _ g fun H2 g2 => k H2 _ _ (g.trans g2) fun p H3 hp g3 e => q p H3 (g2.free hp) (g2.trans g3) e
theorem r_call {sp : Sp} {ds : List V} {E : XK} {R : V → Hp → Prop} (h : Ag a1 σ H vs) (k : SpR sp (vs ++ ds) H R) : Vr (tCall sp ds E a1) σ H R := fun H1 _ g q => h H1 _ g fun H2 g2 => k H2 _ _ (g.trans g2) fun v H3 g3 e => q v H3 (g2.trans g3) e
/-- a built-in's call, by its reading -/
theorem v_blt {f : List V → Hp → VK → Prop} (h : Ag a1 σ H vs) (k : ∀ H1 (Q : VK), Gr H H1 → (∀ H2, Gr H1 H2 → Q z H2) → f vs H1 Q) : Vl (tCB f a1) σ H z := fun H1 _ g q => h H1 _ g fun H2 g2 => k H2 _ (g.trans g2) fun H3 g3 => q H3 (g2.trans g3)
theorem l_blt {f : List V → Hp → VK → Prop} (h : Ag a1 σ H vs) (k : ∀ H1 (Q : VK), Gr H H1 → (∀ p H2, H1 p = none → Gr H1 H2 → H2 p = some (.lst xs) → Q (.ref p) H2) → f vs H1 Q) : Ls (tCB f a1) σ H xs := fun H1 _ g q => h H1 _ g fun H2 g2 => k H2 _ (g.trans g2) fun p H3 hp g3 e => q p H3 (g2.free hp) (g2.trans g3) e
abbrev fLen (K : PySem.W.Frag) : List V → Hp → VK → Prop := fun xs H Q => ∃ p ys, xs = [.ref p] ∧ (SqL K H p ys ∨ SqT K H p ys) ∧ Q (.int ys.length) H
theorem v_len {p : Addr} {xs : List V} (h : Vl t1 σ H (.ref p)) (s : SqL K H p xs) : Vl (tCB (fLen K) (tCons t1 tNil)) σ H (.int xs.length) := v_blt (g_cons h g_nil) fun H1 _ g q => ⟨p, xs, rfl, .inl (g.sl s), q H1 (.refl _)⟩
theorem v_lenS {w : Str} (h : Vl t1 σ H (.str w)) (s : w.length ≤ 100000) : Vl (tCB (fun xs H Q => ∃ z, xs = [.str z] ∧ z.length ≤ sizeLine ∧ Q (.int z.length) H) (tCons t1 tNil)) σ H (.int w.length) := v_blt (g_cons h g_nil) fun H1 _ _ q => ⟨w, rfl, small s, q H1 (.refl _)⟩
theorem v_isi {w : V} {u t : Value} (h : Vl t1 σ H x) (h2 : Vl t2 σ H w) (k : ClsV w u) (ty : ∀ H1, Gr H H1 → TyX K H1 x t) (e : PySem.W.kitOne K t u = some b) : Vl (tCB (rIsi K) (tCons t1 (tCons t2 tNil))) σ H (.bl b) := v_blt (g_cons h (g_cons h2 g_nil)) fun H1 _ g q => ⟨x, w, t, u, b, rfl, k, ty H1 g, e, q H1 (.refl _)⟩
theorem v_isbB (h : Vl t1 σ H (.bl b)) : Vl (tCB (rIsi K) (tCons t1 (tCons (tC (.ty "bool")) tNil))) σ H (.bl true) := v_isi h v_con (.ty _) (fun _ _ => .base (.bl b)) (kit_ty (by decide +kernel))
theorem v_isiI {i : Int} (h : Vl t1 σ H (.int i)) : Vl (tCB (rIsi K) (tCons t1 (tCons (tC (.ty "int")) tNil))) σ H (.bl true) := v_isi h v_con (.ty _) (fun _ _ => .base (.int i)) (kit_ty (by decide +kernel))
theorem v_isbI {i : Int} (h : Vl t1 σ H (.int i)) : Vl (tCB (rIsi K) (tCons t1 (tCons (tC (.ty "bool")) tNil))) σ H (.bl false) := v_isi h v_con (.ty _) (fun _ _ => .base (.int i)) (kit_ty (by decide +kernel))
theorem v_isiN (h : Vl t1 σ H .non) : Vl (tCB (rIsi K) (tCons t1 (tCons (tC (.ty "int")) tNil))) σ H (.bl false) := v_isi h v_con (.ty _) (fun _ _ => .base .non) (kit_ty (by decide +kernel))
theorem v_issS {w : Str} (h : Vl t1 σ H (.str w)) : Vl (tCB (rIsi K) (tCons t1 (tCons (tC (.ty "str")) tNil))) σ H (.bl true) := v_isi h v_con (.ty _) (fun _ _ => .base (.str w)) (kit_ty (by decide +kernel))
theorem v_max {i j : Int} (h : Vl t1 σ H (.int i)) (h2 : Vl t2 σ H (.int j)) : Vl (tCB (fun xs H Q => ∃ i j, xs = [.int i, .int j] ∧ Q (.int (if j > i then j else i)) H) (tCons t1 (tCons t2 tNil))) σ H (.int (if j > i then j else i)) := v_blt (g_cons h (g_cons h2 g_nil)) fun H1 _ _ q => ⟨i, j, rfl, q H1 (.refl _)⟩
theorem v_min {i j : Int} (h : Vl t1 σ H (.int i)) (h2 : Vl t2 σ H (.int j)) : Vl (tCB (fun xs H Q => ∃ i j, xs = [.int i, .int j] ∧ Q (.int (if j < i then j else i)) H) (tCons t1 (tCons t2 tNil))) σ H (.int (if j < i then j else i)) := v_blt (g_cons h (g_cons h2 g_nil)) fun H1 _ _ q => ⟨i, j, rfl, q H1 (.refl _)⟩
theorem v_str {i : Int} (h : Vl t1 σ H (.int i)) (n : i.natAbs.log2 < 1920) : Vl (tCB (fun xs H Q => ∃ i, xs = [.int i] ∧ i.natAbs.log2 < 1920 ∧ Q (.str (toString i)) H) (tCons t1 tNil)) σ H (.str (toString i)) := v_blt (g_cons h g_nil) fun H1 _ _ q => ⟨i, rfl, n, q H1 (.refl _)⟩
theorem v_intB (h : Vl t1 σ H (.bl b)) : Vl (tCB (fun xs H Q => (∃ i, xs = [.int i] ∧ Q (.int i) H) ∨ ∃ k, xs = [.bl k] ∧ Q (.int (if k then 1 else 0)) H) (tCons t1 tNil)) σ H (.int (if b then 1 else 0)) := v_blt (g_cons h g_nil) fun H1 _ _ q => .inr ⟨b, rfl, q H1 (.refl _)⟩
theorem l_list {p : Addr} {xs : List V} (h : Vl t1 σ H (.ref p)) (s : SqL K H p xs) : Ls (tCB (fun xs H Q => ∃ p ys, xs = [.ref p] ∧ (SqL K H p ys ∨ SqT K H p ys) ∧ ∀ l, H l = none → Q (.ref l) (upd H l (.lst ys))) (tCons t1 tNil)) σ H xs :=
  l_blt (g_cons h g_nil) fun _ _ g q => ⟨p, xs, rfl, .inl (g.sl s), fun l hl => q l _ hl (.new hl) upd_same⟩
/-- slices -/
def Pt (to : TO) (σ : L2.St) (H : Hp) (o : Option Int) : Prop := ∀ (H1 : Hp) (Q : Option Int → Hp → Prop), Gr H H1 → (∀ H2, Gr H1 H2 → Q o H2) → to σ H1 Q
theorem p_no : Pt tNoPart σ H none := fun H1 _ _ q => q H1 (.refl _)
theorem p_int {i : Int} (h : Vl t1 σ H (.int i)) : Pt (tPart t1) σ H (some i) := fun H1 _ g q => h H1 _ g fun H2 g2 => ⟨i, rfl, q H2 g2⟩
theorem l_slice {tl th : TO} {a : Addr} {xs : List V} {lo hi : Option Int} (h : Vl t1 σ H (.ref a)) (h1 : Pt tl σ H lo) (h2 : Pt th σ H hi) (s : SqL K H a xs) : Ls (tSl (rSlL K) t1 tl th) σ H (cutV xs lo hi) := fun H1 _ g q =>
  h H1 _ g fun H2 g2 => h1 H2 _ (g.trans g2) fun H3 g3 => h2 H3 _ ((g.trans g2).trans g3) fun H4 g4 => ⟨a, xs, rfl, (((g.trans g2).trans g3).trans g4).sl s, fun p hp => q p _ (((g2.trans g3).trans g4).free hp) (((g2.trans g3).trans g4).trans (.new hp)) upd_same⟩

/-! #### statements; S..: the last one, B..: something behind it -/
variable {D : Ends} {u1 u2 u3 : TS} {g1 : TG} {i : Nat}
theorem S_ret (h : Vl t1 σ H v) (k : ∀ H1, Gr H H1 → D.rt v H1) : tRet t1 D σ H := h H _ (.refl _) k
theorem S_retL (h : Ls t1 σ H xs) (k : ∀ p H1, H p = none → Gr H H1 → H1 p = some (.lst xs) → D.rt (.ref p) H1) : tRet t1 D σ H := h H _ (.refl _) k
theorem S_retR {R : V → Hp → Prop} (h : Vr t1 σ H R) (k : ∀ v H1, Gr H H1 → R v H1 → D.rt v H1) : tRet t1 D σ H := h H _ (.refl _) k
theorem S_set (h : Vl t1 σ H v) (k : ∀ H1, Gr H H1 → D.nx (σ.set i (some v)) H1) : tAsg t1 (gName i) D σ H := h H _ (.refl _) k
theorem S_setL (h : Ls t1 σ H xs) (k : ∀ p H1, H p = none → Gr H H1 → H1 p = some (.lst xs) → D.nx (σ.set i (some (.ref p))) H1) : tAsg t1 (gName i) D σ H := h H _ (.refl _) k
theorem S_setU (h : Tu t1 σ H xs) (k : ∀ p H1, H p = none → Gr H H1 → H1 p = some (.tup xs) → D.nx (σ.set i (some (.ref p))) H1) : tAsg t1 (gName i) D σ H := h H _ (.refl _) k
theorem S_setR {R : V → Hp → Prop} (h : Vr t1 σ H R) (k : ∀ v H1, Gr H H1 → R v H1 → D.nx (σ.set i (some v)) H1) : tAsg t1 (gName i) D σ H := h H _ (.refl _) k
theorem S_drop (h : Vl t1 σ H v) (k : ∀ H1, Gr H H1 → D.nx σ H1) : tDrop t1 D σ H := h H _ (.refl _) k
theorem S_if (h : Ts c1 σ H b) (k1 : b = true → ∀ H1, Gr H H1 → u1 D σ H1) (k2 : b = false → ∀ H1, Gr H H1 → u2 D σ H1) : tIfS c1 u1 u2 D σ H := h H _ (.refl _) fun H1 g => by
  cases b
  · exact iteF (k2 rfl H1 g)
  · exact iteT (k1 rfl H1 g)
theorem B_set (h : Vl t1 σ H v) (k : ∀ H1, Gr H H1 → u1 D (σ.set i (some v)) H1) : tSeq (tAsg t1 (gName i)) u1 D σ H := S_set (D := { D with nx := u1 D }) h k
theorem B_setL (h : Ls t1 σ H xs) (k : ∀ p H1, H p = none → Gr H H1 → H1 p = some (.lst xs) → u1 D (σ.set i (some (.ref p))) H1) : tSeq (tAsg t1 (gName i)) u1 D σ H := S_setL (D := { D with nx := u1 D }) h k
theorem B_setU (h : Tu t1 σ H xs) (k : ∀ p H1, H p = none → Gr H H1 → H1 p = some (.tup xs) → u1 D (σ.set i (some (.ref p))) H1) : tSeq (tAsg t1 (gName i)) u1 D σ H := S_setU (D := { D with nx := u1 D }) h k
theorem B_setR {R : V → Hp → Prop} (h : Vr t1 σ H R) (k : ∀ v H1, Gr H H1 → R v H1 → u1 D (σ.set i (some v)) H1) : tSeq (tAsg t1 (gName i)) u1 D σ H := S_setR (D := { D with nx := u1 D }) h k
theorem B_drop (h : Vl t1 σ H v) (k : ∀ H1, Gr H H1 → u1 D σ H1) : tSeq (tDrop t1) u1 D σ H := S_drop (D := { D with nx := u1 D }) h k
theorem B_if (h : Ts c1 σ H b) (k1 : b = true → ∀ H1, Gr H H1 → u1 { D with nx := u3 D } σ H1) (k2 : b = false → ∀ H1, Gr H H1 → u2 { D with nx := u3 D } σ H1) : tSeq (tIfS c1 u1 u2) u3 D σ H := S_if (D := { D with nx := u3 D }) h k1 k2
theorem B_when (h : Ts c1 σ H b) (k1 : b = true → ∀ H1, Gr H H1 → u1 { D with nx := u3 D } σ H1) (k2 : b = false → ∀ H1, Gr H H1 → u3 D σ H1) : tSeq (tIfS c1 u1 tNext) u3 D σ H := S_if (D := { D with nx := u3 D }) h k1 k2
theorem S_when (h : Ts c1 σ H b) (k1 : b = true → ∀ H1, Gr H H1 → u1 D σ H1) (k2 : b = false → ∀ H1, Gr H H1 → D.nx σ H1) : tIfS c1 u1 tNext D σ H := S_if h k1 k2
/-- a slot set anew in an if without else, told by what it holds behind -/
theorem S_whenSet (h : Ts c1 σ H b) (hy : σ[i]? = some (some y)) (k1 : b = true → Vl t1 σ H v) (hv : b = false → v = y) (k : ∀ H1, Gr H H1 → D.nx (σ.set i (some v)) H1) : tIfS c1 (tAsg t1 (gName i)) tNext D σ H :=
  S_when h (fun hb H1 g => S_set ((k1 hb).mono g) fun H2 g2 => k H2 (g.trans g2)) fun hb H1 g => by
    obtain ⟨hi, e2⟩ := List.getElem?_eq_some_iff.mp hy
    have h2 := k H1 g
    rw [hv hb, ← e2, List.set_getElem_self hi] at h2
    exact h2
theorem B_whenSet (h : Ts c1 σ H b) (hy : σ[i]? = some (some y)) (k1 : b = true → Vl t1 σ H v) (hv : b = false → v = y) (k : ∀ H1, Gr H H1 → u3 D (σ.set i (some v)) H1) : tSeq (tIfS c1 (tAsg t1 (gName i)) tNext) u3 D σ H := S_whenSet (D := { D with nx := u3 D }) h hy k1 hv k
theorem B_whenInt {m n : Int} (h : Ts c1 σ H b) (hy : σ[i]? = some (some (.int n))) (k1 : Vl t1 σ H (.int m)) (k : ∀ H1, Gr H H1 → u3 D (σ.set i (some (.int (if b = true then m else n)))) H1) : tSeq (tIfS c1 (tAsg t1 (gName i)) tNext) u3 D σ H :=
  B_whenSet h hy (fun hb => k1.is (by rw [if_pos hb])) (fun hb => by rw [if_neg (by rw [hb]; exact Bool.false_ne_true)]) k
theorem B_cut {M : L2.St → Hp → Prop} (h : u1 { D with nx := M } σ H) (k : ∀ σ' H', M σ' H' → u2 D σ' H') : Evl.tCut u1 u2 D σ H := ⟨M, h, k⟩
/-- xs.append(e), the list known by its place -/
theorem S_app {l : Addr} {xs : List V} (hl : H l = some (.lst xs)) (a : Vl t1 σ H (.ref l)) (h : Vl t2 σ H v) (n : xs.length < 100000) (k : ∀ H1, Gr H H1 → D.nx σ (upd H1 l (.lst (xs ++ [v])))) : tDrop (tBM K "list" rAppend t1 (tCons t2 tNil)) D σ H := a H _ (.refl _) fun H1 g =>
  ⟨.inl ⟨rfl, xs, SqL.of (g.lst hl)⟩, h H1 _ g fun H2 g2 => ⟨l, xs, v, rfl, rfl, g2.lst (g.lst hl), small' n, k H2 (g.trans g2)⟩⟩
theorem S_appU {l : Addr} {xs ys : List V} (hl : H l = some (.lst xs)) (a : Vl t1 σ H (.ref l)) (h : Tu t2 σ H ys) (n : xs.length < 100000) (k : ∀ p H1, H p = none → Gr H H1 → H1 p = some (.tup ys) → D.nx σ (upd H1 l (.lst (xs ++ [.ref p])))) : tDrop (tBM K "list" rAppend t1 (tCons t2 tNil)) D σ H := a H _ (.refl _) fun H1 g =>
  ⟨.inl ⟨rfl, xs, SqL.of (g.lst hl)⟩, h H1 _ g fun p H2 hp g2 e => ⟨l, xs, .ref p, rfl, rfl, g2.lst (g.lst hl), small' n, k p H2 (g.free hp) (g.trans g2) e⟩⟩

theorem B_appU {l : Addr} {xs ys : List V} (hl : H l = some (.lst xs)) (a : Vl t1 σ H (.ref l)) (h : Tu t2 σ H ys) (n : xs.length < 100000) (k : ∀ p H1, H p = none → Gr H H1 → H1 p = some (.tup ys) → u1 D σ (upd H1 l (.lst (xs ++ [.ref p])))) : tSeq (tDrop (tBM K "list" rAppend t1 (tCons t2 tNil))) u1 D σ H := S_appU (D := { D with nx := u1 D }) hl a h n k
theorem B_app {l : Addr} {xs : List V} (hl : H l = some (.lst xs)) (a : Vl t1 σ H (.ref l)) (h : Vl t2 σ H v) (n : xs.length < 100000) (k : ∀ H1, Gr H H1 → u1 D σ (upd H1 l (.lst (xs ++ [v])))) : tSeq (tDrop (tBM K "list" rAppend t1 (tCons t2 tNil))) u1 D σ H := S_app (D := { D with nx := u1 D }) hl a h n k

/-! #### loops -/
theorem S_for1 {j : Nat} {n : Int} (h : Ag a1 σ H [.int n]) (hn : 0 ≤ n ∧ n ≤ 100000) (Pv : Nat → L2.St → Hp → Prop) (h0 : ∀ H1, Gr H H1 → Pv 0 σ H1)
    (hs : ∀ (m : Nat) σ' H', (m : Int) < n → Pv m σ' H' → u1 { D with nx := Pv (m + 1), ct := Pv (m + 1), bk := D.nx } (σ'.set j (some (.int (m : Int)))) H') (hd : ∀ σ' H', Pv n.toNat σ' H' → D.nx σ' H') : tFor (iRng1 a1) (gName j) u1 D σ H :=
  h H _ (.refl _) fun H1 g => ⟨n, rfl, by omega, by omega, for_range (lo := 0) (n := n.toNat) Pv (h0 H1 g) (fun m σ' H' hm p => by
    have q := hs m σ' H' (by omega) p
    rw [← Int.zero_add (m : Int)] at q
    exact q) hd⟩
theorem B_for1 {j : Nat} {n : Int} (h : Ag a1 σ H [.int n]) (hn : 0 ≤ n ∧ n ≤ 100000) (Pv : Nat → L2.St → Hp → Prop) (h0 : ∀ H1, Gr H H1 → Pv 0 σ H1)
    (hs : ∀ (m : Nat) σ' H', (m : Int) < n → Pv m σ' H' → u1 { D with nx := Pv (m + 1), ct := Pv (m + 1), bk := u2 D } (σ'.set j (some (.int (m : Int)))) H') (hd : ∀ σ' H', Pv n.toNat σ' H' → u2 D σ' H') : tSeq (tFor (iRng1 a1) (gName j) u1) u2 D σ H :=
  S_for1 (D := { D with nx := u2 D }) h hn Pv h0 hs hd
theorem S_forL {a : Addr} {xs : List V} (h : Vl t1 σ H (.ref a)) (s : SqL K H a xs) (Pv : Nat → L2.St → Hp → Prop) (h0 : ∀ H1, Gr H H1 → Pv 0 σ H1) (hl : ∀ m σ' H', m ≤ xs.length → Pv m σ' H' → SqL K H' a xs)
    (hs : ∀ m x σ' H', xs[m]? = some x → Pv m σ' H' → g1 x σ' H' fun σ2 H2 => u1 { D with nx := Pv (m + 1), ct := Pv (m + 1), bk := D.nx } σ2 H2) (hd : ∀ σ' H', Pv xs.length σ' H' → D.nx σ' H') : tFor (iList K t1) g1 u1 D σ H :=
  h H _ (.refl _) fun H1 g => ⟨a, rfl, ⟨xs, g.sl s⟩, for_list Pv (h0 H1 g) hl hs hd⟩
theorem B_forL {a : Addr} {xs : List V} (h : Vl t1 σ H (.ref a)) (s : SqL K H a xs) (Pv : Nat → L2.St → Hp → Prop) (h0 : ∀ H1, Gr H H1 → Pv 0 σ H1) (hl : ∀ m σ' H', m ≤ xs.length → Pv m σ' H' → SqL K H' a xs)
    (hs : ∀ m x σ' H', xs[m]? = some x → Pv m σ' H' → g1 x σ' H' fun σ2 H2 => u1 { D with nx := Pv (m + 1), ct := Pv (m + 1), bk := u2 D } σ2 H2) (hd : ∀ σ' H', Pv xs.length σ' H' → u2 D σ' H') : tSeq (tFor (iList K t1) g1 u1) u2 D σ H :=
  S_forL (D := { D with nx := u2 D }) h s Pv h0 hl hs hd
theorem S_while (W : Nat → L2.St → Hp → Prop) (m0 : Nat) (h0 : W m0 σ H)
    (hs : ∀ m σ' H', W m σ' H' → ∃ b, Ts c1 σ' H' b ∧ (b = true → ∀ H1, Gr H' H1 → ∃ N : L2.St → Hp → Prop, (∀ σ2 H2, N σ2 H2 → ∃ m', m' < m ∧ W m' σ2 H2) ∧ u1 { D with nx := N, ct := N, bk := D.nx } σ' H1) ∧ (b = false → ∀ H1, Gr H' H1 → D.nx σ' H1)) : tWhile c1 u1 D σ H :=
  ⟨W, ⟨m0, h0⟩, fun m σ' H' hw => by
    obtain ⟨b, hb, y1, n1⟩ := hs m σ' H' hw
    refine hb H' _ (.refl _) fun H1 g => ?_
    cases b
    · exact n1 rfl H1 g
    · exact y1 rfl H1 g⟩
theorem B_while (W : Nat → L2.St → Hp → Prop) (m0 : Nat) (h0 : W m0 σ H)
    (hs : ∀ m σ' H', W m σ' H' → ∃ b, Ts c1 σ' H' b ∧ (b = true → ∀ H1, Gr H' H1 → ∃ N : L2.St → Hp → Prop, (∀ σ2 H2, N σ2 H2 → ∃ m', m' < m ∧ W m' σ2 H2) ∧ u1 { D with nx := N, ct := N, bk := u2 D } σ' H1) ∧ (b = false → ∀ H1, Gr H' H1 → u2 D σ' H1)) : tSeq (tWhile c1 u1) u2 D σ H :=
  S_while (D := { D with nx := u2 D }) W m0 h0 hs

/-! #### comprehensions: the turns that give, and what they give -/
def out (n : Nat) (f : Nat → Bool) (val : Nat → V) : List V := ((List.range n).filter f).map val
theorem out_succ (n : Nat) (f : Nat → Bool) (val : Nat → V) : out (n + 1) f val = out n f val ++ (if f n = true then [val n] else []) := by
  unfold out
  rw [List.range_succ, List.filter_append, List.map_append, List.filter_cons]
  cases f n <;> rfl
theorem out_le (n : Nat) (f : Nat → Bool) (val : Nat → V) : (out n f val).length ≤ n := by
  unfold out
  rw [List.length_map]
  exact Nat.le_trans (List.length_filter_le _ _) (Nat.le_of_eq List.length_range)
def Cmp (H : Hp) (f : Nat → Bool) (val : Nat → V) (p : Addr) (m : Nat) (H' : Hp) : Prop := H p = none ∧ Gr H H' ∧ H' p = some (.lst (out m f val))
theorem Cmp.turn {f : Nat → Bool} {val : Nat → V} {p : Addr} {m : Nat} {σ2 : L2.St} (w : Cmp H f val p m H') (hm : m < 50000) (ht : Ts c1 σ2 H (f m)) (he : f m = true → Vl t1 σ2 H (val m)) :
    c1 σ2 H' fun b H3 => if b = true then t1 σ2 H3 fun y H4 => ∃ acc, H4 p = some (.lst acc) ∧ acc.length < sizeLine ∧ Cmp H f val p (m + 1) (upd H4 p (.lst (acc ++ [y]))) else Cmp H f val p (m + 1) H3 := by
  obtain ⟨w1, w2, w3⟩ := w
  refine ht H' _ w2 fun H3 g3 => ?_
  have o := out_succ m f val
  cases hf : f m
  · rw [hf] at o
    refine iteF ⟨w1, w2.trans g3, ?_⟩
    rw [o, if_neg Bool.false_ne_true, List.append_nil]
    exact g3.lst w3
  · rw [hf, if_pos rfl] at o
    refine iteT (he hf H3 _ (w2.trans g3) fun H4 g4 => ⟨out m f val, g4.lst (g3.lst w3), small' (by have := out_le m f val; omega), w1, ((w2.trans g3).trans g4).chg w1, ?_⟩)
    rw [o]
    exact upd_same
theorem l_cmp1 {j : Nat} {ws : List Nat} {n : Int} (f : Nat → Bool) (val : Nat → V) (h : Ag a1 σ H [.int n]) (hn : 0 ≤ n ∧ n ≤ 40000) (hw : ∀ x, wipe ((wipe σ ws).set j (some x)) ws = wipe σ ws)
    (ht : ∀ (m : Nat) H1, Gr H H1 → (m : Int) < n → Ts c1 ((wipe σ ws).set j (some (.int (m : Int)))) H1 (f m)) (he : ∀ (m : Nat) H1, Gr H H1 → (m : Int) < n → f m = true → Vl t1 ((wipe σ ws).set j (some (.int (m : Int)))) H1 (val m)) :
    Ls (tLc (iRng1 a1) (gName j) c1 t1 ws) σ H (out n.toNat f val) := fun H0 Q g q => h H0 _ g fun H1 g1 => ⟨n, rfl, by omega, by omega, fun p hp =>
  lc_range (lo := 0) (n := n.toNat) (Cmp H1 f val p) ⟨hp, .new hp, upd_same⟩ (fun m H' hm w => by
    have t := ht m H1 (g.trans g1) (by omega)
    have e := he m H1 (g.trans g1) (by omega)
    rw [← Int.zero_add (m : Int)] at t e
    exact ⟨hw _, w.turn (by omega) t e⟩) fun H' w => q p H' (g1.free w.1) (g1.trans w.2.1) w.2.2⟩
theorem l_cmpL {a : Addr} {xs : List V} {j : Nat} {ws : List Nat} (f : Nat → Bool) (val : Nat → V) (h : Vl t2 σ H (.ref a)) (s : SqL K H a xs) (hz : xs.length ≤ 40000) (hw : ∀ x, wipe ((wipe σ ws).set j (some x)) ws = wipe σ ws)
    (ht : ∀ (m : Nat) (x : V) H1, Gr H H1 → xs[m]? = some x → Ts c1 ((wipe σ ws).set j (some x)) H1 (f m)) (he : ∀ (m : Nat) (x : V) H1, Gr H H1 → xs[m]? = some x → f m = true → Vl t1 ((wipe σ ws).set j (some x)) H1 (val m)) :
    Ls (tLc (iList K t2) (gName j) c1 t1 ws) σ H (out xs.length f val) := fun H0 Q g q => h H0 _ g fun H1 g1 => ⟨a, rfl, ⟨xs, (g.trans g1).sl s⟩, fun p hp =>
  lc_list (xs := xs) (Cmp H1 f val p) ⟨hp, .new hp, upd_same⟩ (fun _ H' _ w => ((g.trans g1).trans w.2.1).sl s) (fun m x H' hm w => ⟨hw x, w.turn (by have := (List.getElem?_eq_some_iff.mp hm).1; omega) (ht m x H1 (g.trans g1) hm) fun hf => he m x H1 (g.trans g1) hm hf⟩)
    fun H' w => q p H' (g1.free w.1) (g1.trans w.2.1) w.2.2⟩
theorem l_cmpN {xs : List V} {j : Nat} {ws : List Nat} (f : Nat → Bool) (val : Nat → V) (h : Ls t2 σ H xs) (hz : xs.length ≤ 40000) (hw : ∀ x, wipe ((wipe σ ws).set j (some x)) ws = wipe σ ws)
    (ht : ∀ (m : Nat) (x : V) H1, Gr H H1 → xs[m]? = some x → Ts c1 ((wipe σ ws).set j (some x)) H1 (f m)) (he : ∀ (m : Nat) (x : V) H1, Gr H H1 → xs[m]? = some x → f m = true → Vl t1 ((wipe σ ws).set j (some x)) H1 (val m)) :
    Ls (tLc (iList K t2) (gName j) c1 t1 ws) σ H (out xs.length f val) := fun H0 Q g q => h H0 _ g fun a H1 ha g1 hx => ⟨a, rfl, ⟨xs, SqL.of hx⟩, fun p hp =>
  lc_list (xs := xs) (Cmp H1 f val p) ⟨hp, .new hp, upd_same⟩ (fun _ H' _ w => SqL.of (w.2.1.lst hx)) (fun m x H' hm w => ⟨hw x, w.turn (by have := (List.getElem?_eq_some_iff.mp hm).1; omega) (ht m x H1 (g.trans g1) hm) fun hf => he m x H1 (g.trans g1) hm hf⟩)
    fun H' w => q p H' (g1.free w.1) (g1.trans w.2.1) w.2.2⟩
theorem s_yes : Ts tYes σ H true := fun H1 _ _ q => q H1 (.refl _)
end

theorem slots {u : TS} {D : Ends} {σ τ : L2.St} {H : Hp} (e : σ = τ) (h : u D τ H) : u D σ H := e ▸ h

/-! ### automatic steps -/
local macro_rules | `(tactic| walk_at "n") => `(tactic| (try (refine slots (by simp only [List.set_cons_zero, List.set_cons_succ]; exact rfl) ?_)))
local macro_rules | `(tactic| walk_at "ev") => `(tactic| first
  | exact v_slot rfl
  | exact v_con
  | (refine' v_op ?a ?b ?c; (case a => walk_at "ev"); (case b => walk_at "ev"); (case c => walk_at "rv"))
  | (refine' v_call ?a ?b; (case a => walk_at "ea"); (case b => walk_at "sv"))
  | (refine' v_isbB ?a; (case a => walk_at "ev"))
  | (refine' v_and ?a (fun _ => ?b); (case a => walk_at "ev"); (case b => walk_at "ev"))
  | (refine' v_or ?a (fun _ => ?b); (case a => walk_at "ev"); (case b => walk_at "ev"))
  | (refine' v_not ?a; (case a => walk_at "ev"))
  | (refine' v_max ?a ?b; (case a => walk_at "ev"); (case b => walk_at "ev"))
  | (refine' v_min ?a ?b; (case a => walk_at "ev"); (case b => walk_at "ev"))
  | (refine' v_intB ?a; (case a => walk_at "ev"))
  | (refine' v_len ?a ?b; (case a => walk_at "ev"); (case b => assumption))
  | assumption)
local macro_rules | `(tactic| walk_at "ea") => `(tactic| first
  | exact g_nil
  | (refine' g_cons ?a ?b; (case a => walk_at "ev"); (case b => walk_at "ea")))
local macro_rules | `(tactic| walk_at "rv") => `(tactic| first
  | exact bi_0
  | (refine' bi_C ?a; (case a => walk_at "side"))
  | (refine' bi_eq ?a; (case a => rfl))
  | (refine' bi_ne ?a; (case a => rfl))
  | exact bi_isN
  | exact bi_notN
  | assumption)
local macro_rules | `(tactic| walk_at "side") => `(tactic| first
  | (show _ ≠ _; first | decide | omega)
  | (show _ ∧ _; first | exact ⟨by decide, by decide⟩ | exact ⟨by decide, by decide, by decide⟩ | omega))
local macro_rules | `(tactic| walk_at "et") => `(tactic| first
  | (refine' s_test ?a; (case a => walk_at "ev"))
  | (refine' s_B ?a; (case a => walk_at "ev"))
  | (refine' s_truB ?a; (case a => walk_at "ev"))
  | (refine' s_and ?a (fun _ => ?b); (case a => walk_at "et"); (case b => walk_at "et"))
  | (refine' s_or ?a (fun _ => ?b); (case a => walk_at "et"); (case b => walk_at "et"))
  | (refine' s_not ?a; (case a => walk_at "et"))
  | exact s_yes)
local macro_rules | `(tactic| walk_at "set") => `(tactic| (refine' B_set ?h ?k; (case h => walk_at "ev")))
local macro_rules | `(tactic| walk_at "setE") => `(tactic| (refine' S_set ?h ?k; (case h => walk_at "ev")))
local macro_rules | `(tactic| walk_at "when") => `(tactic| (refine' B_when ?h ?k1 ?k2; (case h => walk_at "et")))
local macro_rules | `(tactic| walk_at "whenE") => `(tactic| (refine' S_when ?h ?k1 ?k2; (case h => walk_at "et")))
local macro_rules | `(tactic| walk_at "whenInt") => `(tactic| (refine' B_whenInt ?h1 ?h2 ?h3 ?k; (case h1 => walk_at "et"); (case h2 => rfl); (case h3 => walk_at "ev")))
local macro_rules | `(tactic| walk_at "ret") => `(tactic| (refine' S_ret ?h ?k; (case h => walk_at "ev")))


/-! ### == and != of lists that hold the same things; of a dict and a tuple -/
namespace XE
open PySem PySem.Spec PyProof.Rows L2 PySem.SeqAt
def plainV : V → Bool
  | .non | .bl _ | .int _ | .str _ | .ref _ => true
  | _ => false
theorem rel_same {A : Around} {s : Shared} {x : V} {u v : Value} (h : plainV x = true) (r : RelV x u) (q : RelV x v) : EqAt A s u v true := by
  cases x with
  | non => cases r; cases q; exact EqAt.same _
  | bl b => cases r; cases q; exact EqAt.same _
  | int i =>
    obtain ⟨t, rfl⟩ := r
    obtain ⟨t', rfl⟩ := q
    have := EqAt.int_int (A := A) (s := s) i t i t'
    simpa using this
  | str i =>
    obtain ⟨t, rfl⟩ := r
    obtain ⟨t', rfl⟩ := q
    have := EqAt.str_str (A := A) (s := s) i t i t'
    simpa using this
  | ref a => cases r; cases q; exact EqAt.same _
  | _ => cases h
theorem vals_same {A : Around} {s : Shared} {xs : List V} {us vs : List Value} (h : xs.all plainV = true) (r : Vals xs us) (q : Vals xs vs) (j : Nat) (h1 : j < us.toArray.size) (h2 : j < vs.toArray.size) : EqAt A s us.toArray[j] vs.toArray[j] true := by
  have hx : j < xs.length := by
    have := r.length
    simp at h1
    omega
  obtain ⟨u, hu, ru⟩ := r.get (List.getElem?_eq_getElem hx)
  obtain ⟨v, hv, rv⟩ := q.get (List.getElem?_eq_getElem hx)
  have eu : us.toArray[j] = u := by
    have := (List.getElem?_eq_some_iff.mp hu).2
    simpa using this
  have ev : vs.toArray[j] = v := by
    have := (List.getElem?_eq_some_iff.mp hv).2
    simpa using this
  rw [eu, ev]
  exact rel_same (List.all_eq_true.mp h _ (List.getElem_mem hx)) ru rv
def rSame (K : PySem.W.Frag) (b : Bool) : R2 := fun x y H Q => ∃ a c xs, x = .ref a ∧ y = .ref c ∧ SqL K H a xs ∧ SqL K H c xs ∧ xs.all plainV = true ∧ Q (.bl b) H
def rNil (K : PySem.W.Frag) : R2 := fun x y H Q => ∃ a c xs, x = .ref a ∧ y = .ref c ∧ SqL K H a xs ∧ SqL K H c [] ∧ Q (.bl (!xs.isEmpty)) H
def rDT (K : PySem.W.Frag) : R2 := fun x y H Q => ∃ a c kvs xs, x = .ref a ∧ y = .ref c ∧ H a = some (.dK kvs) ∧ SqT K H c xs ∧ Q (.bl true) H
def rNeX (K : PySem.W.Frag) : R2 := fun x y H Q => rNeD K x y H Q ∨ rSame K false x y H Q ∨ rNil K x y H Q ∨ rDT K x y H Q
def rNilE (K : PySem.W.Frag) : R2 := fun x y H Q => ∃ a c xs, x = .ref a ∧ y = .ref c ∧ SqL K H a xs ∧ SqL K H c [] ∧ Q (.bl xs.isEmpty) H
def rEqX (K : PySem.W.Frag) : R2 := fun x y H Q => rEqD K x y H Q ∨ rSame K true x y H Q ∨ rNilE K x y H Q
section
variable {X : Cx}
theorem all_true (n : Nat) : (List.range n).all (fun _ => true) = true := by simp
theorem dict_ne_tuple {prog : Program} {w : World} {A : Around} {E : Value → Shared → Prop} {s : Shared} {a b : Addr} {name : Str} {Q : Value → Shared → Prop} (sl : Slot "dict" name "dict.__ne__") (ta : s.TypeIs (.ref a) "dict") (tb : s.TypeIs (.ref b) "tuple") (h : Q .notImplemented s) :
    wpAny (model prog w) A (call (.builtin "dict.__ne__") [.ref a, .ref b]) Q E s := by
  refine wpAny_call_entry sl ta PySem.F.entry_dict_ne ?_ (PySem.F.args_dict_ne_2 _ _)
  show wpAny _ _ (Builtin.Dict.dictSlotArgs "__ne__" ⟨[.ref a, .ref b], []⟩ >>= _) _ _ s
  refine wpAny_bind ?_
  unfold Builtin.Dict.dictSlotArgs
  refine wpAny_bind (wpAny_notOrdered_dict ta ?_)
  show wpAny _ _ (pure (Value.ref a, Value.ref b)) _ _ s
  refine wpAny_pure ?_
  refine wpAny_bind (wpAny_isInstance (T := "tuple") tb PySem.F.sub_tuple_dict ?_)
  simp only [Bool.not_false, if_true]
  refine wpAny_bind (wpAny_rule ?_)
  exact wpAny_pure ⟨_, rfl, h⟩
theorem tuple_ne_declines_dict (l b : Addr) (items : Array Value) (n : Nat) (dd : Option Addr) (sl : Array (Option Value)) (ob : Obj) (hob : ob.cls = .type "dict") :
    Meets (Builtin.«tuple.__ne__» ⟨[.ref l, .ref b], []⟩) (fun _ R s => s.heap.get? l = some { cls := .type "tuple", dict := dd, data := .seq items n, slots := sl } ∧ s.heap.get? b = some ob ∧ R (.ok (.ret .notImplemented)) s) := by
  obtain ⟨cls, od, data, slots⟩ := ob
  simp only at hob
  subst hob
  exact .of_wp fun prog w A R s h => by obtain ⟨hp, g, d, tk, os⟩ := s; obtain ⟨hl, hb, h⟩ := h; have f1 := F.sub_dict_tuple; wp_walk using AutoSeq1.wpAny_loadPart' hl, AutoSeq1.wpAny_loadPart' hb; exact ⟨_, rfl, h⟩
theorem ne_dict_tuple {A : Around} {s : Shared} {a b : Addr} {items : Array Value} (ta : s.TypeIs (.ref a) "dict") (hb : s.heap.IsTuple b items) (hu : A.units < cLine) : RcNeAt A s (.ref a) (.ref b) true := fun prog w E Q h => by
  obtain ⟨oa, ea, ca⟩ := ta
  obtain ⟨⟨cls, dd, data, sl⟩, ho, hc, n, hd⟩ := id hb
  simp only at hc hd
  subst hc hd
  have hne : a ≠ b := fun z => by
    rw [z, ho] at ea
    obtain rfl := Option.some.inj ea
    exact absurd (Value.type.inj ca) (by decide)
  exact rc_ne_decline_or (k := false) ⟨_, ea, ca⟩ ⟨_, ho, rfl⟩ (by decide) F.sub_tuple_dict F.slot_dict_ne F.slot_tuple_ne_refl
    (fun _ hq => dict_ne_tuple F.slot_dict_ne ⟨_, ea, ca⟩ ⟨_, ho, rfl⟩ hq)
    (fun _ hq => call_meets F.slot_tuple_ne_refl ⟨_, ho, rfl⟩ F.entry_tuple_ne (F.args_tuple_ne_2 _ _) (tuple_ne_declines_dict b a items n dd sl oa ca) ⟨ho, ea, hq⟩)
    (fun _ hq => wpAny_isSame_ref_other hne ea ho (by rw [ca]; simp) hq) (.inr hu) h
theorem op_neX (hu : X.A.units + 64 < cLine) : OpR X (compareOp .NotEq) (rNeX X.K) := by
  intro pins s σ H x y v u Q I rx ry h
  have hu1 : X.A.units < cLine := Nat.lt_of_le_of_lt (Nat.le_add_right _ _) hu
  rcases h with h | ⟨a, c, xs, rfl, rfl, ha, hc, hp, q⟩ | ⟨a, c, xs, rfl, rfl, ha, hc, q⟩ | ⟨a, c, kvs, xs, rfl, rfl, ha, hc, q⟩
  · exact op_neD hu pins s σ H x y v u Q I rx ry h
  · cases rx
    cases ry
    obtain ⟨its, rv, hl, _⟩ := I.list ha
    obtain ⟨its2, rv2, hl2, _⟩ := I.list hc
    have sz : its.toArray.size = its2.toArray.size := by
      have := rv.length
      have := rv2.length
      simp
      omega
    refine RcNeAt.lists (e := fun _ => true) hl.isList hl2.isList sz hu1 (fun j h1 h2 => vals_same hp rv rv2 j h1 h2) _ _ _ _ ?_
    rw [all_true]
    exact ⟨.bl _, H, I, rfl, q⟩
  · cases rx
    cases ry
    obtain ⟨its, rv, hl, _⟩ := I.list ha
    obtain ⟨its2, rv2, hl2, _⟩ := I.list hc
    cases rv2
    cases xs with
    | nil =>
      cases rv
      refine RcNeAt.lists (e := fun _ => true) hl.isList hl2.isList rfl hu1 (fun j h1 h2 => absurd h1 (by simp)) _ _ _ _ ?_
      rw [all_true]
      exact ⟨.bl _, H, I, rfl, q⟩
    | cons z zs =>
      refine RcNeAt.lists_lengths hl.isList hl2.isList ?_ hu1 _ _ _ _ ?_
      · have := rv.length
        rw [List.length_cons] at this
        simp
        intro e
        rw [e] at this
        simp at this
      · exact ⟨.bl _, H, I, rfl, q⟩
  · cases rx
    cases ry
    obtain ⟨_, _, vs, _, hd⟩ : ObjOk X.prog X.w H s.heap a (.dK kvs) := I.hok a _ ha
    obtain ⟨its, rv, hl, _⟩ := I.tuple hc
    exact ne_dict_tuple hd.typeIs hl hu1 _ _ _ _ ⟨.bl _, H, I, rfl, q⟩
theorem op_eqX (hu : X.A.units + 64 < cLine) : OpR X (compareOp .Eq) (rEqX X.K) := by
  intro pins s σ H x y v u Q I rx ry h
  have hu1 : X.A.units < cLine := Nat.lt_of_le_of_lt (Nat.le_add_right _ _) hu
  rcases h with h | ⟨a, c, xs, rfl, rfl, ha, hc, hp, q⟩ | ⟨a, c, xs, rfl, rfl, ha, hc, q⟩
  · exact op_eqD hu pins s σ H x y v u Q I rx ry h
  · cases rx
    cases ry
    obtain ⟨its, rv, hl, _⟩ := I.list ha
    obtain ⟨its2, rv2, hl2, _⟩ := I.list hc
    have sz : its.toArray.size = its2.toArray.size := by
      have := rv.length
      have := rv2.length
      simp
      omega
    refine RcAt.lists (e := fun _ => true) hl.isList hl2.isList sz hu1 (fun j h1 h2 => vals_same hp rv rv2 j h1 h2) _ _ _ _ ?_
    rw [all_true]
    exact ⟨.bl _, H, I, rfl, q⟩
  · cases rx
    cases ry
    obtain ⟨its, rv, hl, _⟩ := I.list ha
    obtain ⟨its2, rv2, hl2, _⟩ := I.list hc
    cases rv2
    cases xs with
    | nil =>
      cases rv
      refine RcAt.lists (e := fun _ => true) hl.isList hl2.isList rfl hu1 (fun j h1 h2 => absurd h1 (by simp)) _ _ _ _ ?_
      rw [all_true]
      exact ⟨.bl _, H, I, rfl, q⟩
    | cons z zs =>
      refine RcAt.lists_lengths hl.isList hl2.isList ?_ hu1 _ _ _ _ ?_
      · have := rv.length
        rw [List.length_cons] at this
        simp
        intro e
        rw [e] at this
        simp at this
      · exact ⟨.bl _, H, I, rfl, q⟩
end
/-! the rules, told by values -/
section
variable {K : PySem.W.Frag} {H : Hp} {a c : Addr} {xs : List V}
theorem bi_neX {x y z : V} (h : Bi (rNeD K) x y H z) : Bi (rNeX K) x y H z := fun H1 Q g q => .inl (h H1 Q g q)
theorem bi_eqX {x y z : V} (h : Bi (rEqD K) x y H z) : Bi (rEqX K) x y H z := fun H1 Q g q => .inl (h H1 Q g q)
theorem bi_neS (h1 : SqL K H a xs) (h2 : SqL K H c xs) (p : xs.all plainV = true) : Bi (rNeX K) (.ref a) (.ref c) H (.bl false) := fun H1 Q g q => .inr (.inl ⟨a, c, xs, rfl, rfl, g.sl h1, g.sl h2, p, q H1 (.refl _)⟩)
theorem bi_eqS (h1 : SqL K H a xs) (h2 : SqL K H c xs) (p : xs.all plainV = true) : Bi (rEqX K) (.ref a) (.ref c) H (.bl true) := fun H1 Q g q => .inr (.inl ⟨a, c, xs, rfl, rfl, g.sl h1, g.sl h2, p, q H1 (.refl _)⟩)
theorem bi_neNil (h1 : SqL K H a xs) (h2 : SqL K H c []) : Bi (rNeX K) (.ref a) (.ref c) H (.bl (!xs.isEmpty)) := fun H1 Q g q => .inr (.inr (.inl ⟨a, c, xs, rfl, rfl, g.sl h1, g.sl h2, q H1 (.refl _)⟩))
theorem bi_eqNil (h1 : SqL K H a xs) (h2 : SqL K H c []) : Bi (rEqX K) (.ref a) (.ref c) H (.bl xs.isEmpty) := fun H1 Q g q => .inr (.inr ⟨a, c, xs, rfl, rfl, g.sl h1, g.sl h2, q H1 (.refl _)⟩)
theorem bi_neDT {kvs : List (Key × V)} (h1 : H a = some (.dK kvs)) (h2 : SqT K H c xs) : Bi (rNeX K) (.ref a) (.ref c) H (.bl true) := fun H1 Q g q => .inr (.inr (.inr ⟨a, c, kvs, xs, rfl, rfl, g.at_ h1 (fun _ e => by cases e), g.st h2, q H1 (.refl _)⟩))
end
end XE

/-- a def whose code object is known by its place -/
theorem fun_okC {P : Program} {w : World} {K : PySem.W.Frag} {mg : Str → Option Value} {base : Heap} {x z : Str} {st : Stmt} {f c : Addr} {fd : FuncData} {N ps : List Str} {k : Nat} {sp : Sp} (F : Fun K x z st f fd) (hc : fd.code = .ref c) (S : FnScope N ps (defScope st)) (len : ∀ vs H Q E, sp vs H Q E → vs.length = ps.length)
    (body : ∀ (A : Around) (outer : List Env) (s : Shared) (H : Hp) (vs : List V) (Q : VK) (E : XK), Room k (A.deeper (PyProof.Rows.envOfC z (defScope st) s.heap.objs.size f (.ref c))) → sp vs H Q E →
      ∃ t, PSs (cxOf CX0 P w K mg base N z (defScope st) f (.ref c) A outer s H E).nox (defBody st) t ∧ t { nx := fun _ H' => Q .non H', rt := Q } (start N vs) H) : FnOk P w K mg base CX0 (k + 1) f fd ps sp := by
  obtain ⟨oc, od, kV, doc, pm, an, cv, ct, osl, rfl, lk, hcd⟩ := F.ex
  have e : cv = .ref c := hc
  subst e
  refine fn_of lk hcd S len fun A outer s H vs Q E hr hsp => ?_
  obtain ⟨t, h, q⟩ := body A outer s H vs Q E hr hsp
  exact ⟨t, h.nox, q⟩

/-! ### comprehensions over a text; data; what is no text -/
section
variable {K : PySem.W.Frag} {σ : L2.St} {H H' : Hp} {t1 t2 t3 : TE} {c1 c2 : TT} {x y z v : V}
theorem l_cmpS {w : Str} {j : Nat} {ws : List Nat} (f : Nat → Bool) (val : Nat → V) (h : Vl t2 σ H (.str w)) (hz : w.cps.size ≤ 40000) (hw : ∀ x, wipe ((wipe σ ws).set j (some x)) ws = wipe σ ws)
    (ht : ∀ (m k : Nat) H1, Gr H H1 → w.cps[m]? = some k → Ts c1 ((wipe σ ws).set j (some (.str ⟨#[k]⟩))) H1 (f m)) (he : ∀ (m k : Nat) H1, Gr H H1 → w.cps[m]? = some k → f m = true → Vl t1 ((wipe σ ws).set j (some (.str ⟨#[k]⟩))) H1 (val m)) :
    Ls (tLc (iStr t2) (gName j) c1 t1 ws) σ H (out w.cps.size f val) := fun H0 Q g q => h H0 _ g fun H1 g1 => ⟨w, rfl, fun p hp =>
  lc_it walk_str (Cmp H1 f val p) ⟨hp, .new hp, upd_same⟩ (fun _ _ _ _ => trivial) (fun m x Ha Hb hm w0 ⟨e, k, hk, ex⟩ => by
    subst e
    subst ex
    exact ⟨hw _, w0.turn (by omega) (ht m k H1 (g.trans g1) hk) fun hf => he m k H1 (g.trans g1) hk hf⟩) fun H' w0 => q p H' (g1.free w0.1) (g1.trans w0.2.1) w0.2.2⟩
theorem dps_str : ∀ l : List Str, DpAll K H (l.map V.str) (l.map PyData.str)
  | [] => .nil
  | a :: l => .cons (.str a) (dps_str l)
/-- plain signs alone -/
def Asc (z : Str) : Prop := ∀ k ∈ z.cps.toList, k < 128
theorem Asc.ok {z : Str} (h : Asc z) : PyData.strOk z = true := by
  unfold PyData.strOk
  rw [← Array.all_toList, List.all_eq_true]
  intro k hk
  have := h k hk
  exact decide_eq_true (by omega)
theorem Asc.cat {a b : Str} (ha : Asc a) (hb : Asc b) : Asc (a ++ b) := by
  intro k hk
  have e : (a ++ b).cps.toList = a.cps.toList ++ b.cps.toList := Array.toList_append
  rw [e] at hk
  rcases List.mem_append.mp hk with h | h
  · exact ha k h
  · exact hb k h
theorem Asc.cut {a : Str} (ha : Asc a) (lo hi : Option Int) : Asc (cutS a lo hi) := by
  intro k hk
  exact ha k (List.mem_of_mem_drop (List.mem_of_mem_take hk))
theorem Asc.one {k : Nat} (h : k < 128) : Asc ⟨#[k]⟩ := by
  intro j hj
  rw [List.mem_singleton.mp hj]
  exact h
theorem cut_len (a : Str) (lo hi : Option Int) : (cutS a lo hi).length ≤ a.length := by
  show ((_ : List Nat).toArray).size ≤ a.cps.size
  rw [List.size_toArray]
  refine Nat.le_trans (List.length_take_le' _ _) ?_
  rw [List.length_drop, Array.length_toList]
  omega
theorem cat_len (a b : Str) : (a ++ b).length = a.length + b.length := Array.size_append
theorem canLay_strs : ∀ l : List Str, (∀ a ∈ l, Asc a) → PyData.canLayAll0 (l.map PyData.str) = true
  | [], _ => by simp [PyData.canLayAll0]
  | a :: l, h => by
    have t := canLay_strs l fun b hb => h b (List.mem_cons_of_mem _ hb)
    have t2 := (h a List.mem_cons_self).ok
    simp [PyData.canLayAll0, PyData.canLay0, t, t2]
theorem depth_strs : ∀ l : List Str, PyData.depthAll (l.map PyData.str) = 0
  | [] => by simp [PyData.depthAll]
  | a :: l => by
    have := depth_strs l
    simp [PyData.depthAll, PyData.depth, this]
theorem shaped_strs (l : List Str) (h : ∀ a ∈ l, Asc a) : SeqAt.shaped (.list (l.map PyData.str)) = true := by
  unfold SeqAt.shaped
  simp [PyData.canLay0, PyData.depth, canLay_strs l h, depth_strs l]
theorem eqv_nil (ds : List PyData) : PyData.eqv (.list ds) (.list []) = ds.isEmpty := by
  cases ds <;> simp [PyData.eqv, PyData.eqvAll]

theorem Gr.tyOf {t : Value} (g : Gr H H') (h : TyOf K H v t) : TyOf K H' v t := by
  cases h with
  | non => exact .non
  | bl x => exact .bl x
  | int i => exact .int i
  | str x => exact .str x
  | flt x => exact .flt x
  | lst e => exact .lst (g.lst e)
  | frz e => exact .frz (g.at_ e fun _ z => by cases z)
  | tup e => exact .tup (g.tup e)
  | dK e => exact .dK (g.at_ e fun _ z => by cases z)
  | dT e => exact .dT (g.at_ e fun _ z => by cases z)
  | ins e a b c d f => exact .ins (g.ins e) a b c d f
theorem Gr.tyX {t : Value} (g : Gr H H') (h : TyX K H v t) : TyX K H' v t := by
  cases h with
  | base h => exact .base (g.tyOf h)
  | byt b => exact .byt b
  | set e => exact .set (g.at_ e fun _ z => by cases z)
  | kList e c => exact .kList e c
  | kTuple e c => exact .kTuple e c
  | kDict e c => exact .kDict e c
  | fTuple e => exact .fTuple (g.at_ e fun _ z => by cases z)
  | fDict e => exact .fDict (g.at_ e fun _ z => by cases z)
/-- a thing of a known kind that is no text -/
def NoStr (K : PySem.W.Frag) (v : V) (H : Hp) : Prop := ∃ n : String, TyX K H v (.type n) ∧ PySem.W.kitOne K (.type n) (.type "str") = some false
theorem NoStr.mono (g : Gr H H') (h : NoStr K v H) : NoStr K v H' := let ⟨n, a, b⟩ := h; ⟨n, g.tyX a, b⟩
theorem NoStr.non : NoStr K .non H := ⟨_, .base .non, kit_ty (by decide +kernel)⟩
theorem NoStr.bl {b : Bool} : NoStr K (.bl b) H := ⟨_, .base (.bl b), kit_ty (by decide +kernel)⟩
theorem NoStr.int {i : Int} : NoStr K (.int i) H := ⟨_, .base (.int i), kit_ty (by decide +kernel)⟩
theorem NoStr.lst {a : Addr} {xs : List V} (h : H a = some (.lst xs)) : NoStr K (.ref a) H := ⟨_, .base (.lst h), kit_ty (by decide +kernel)⟩
theorem NoStr.tup {a : Addr} {xs : List V} (h : H a = some (.tup xs)) : NoStr K (.ref a) H := ⟨_, .base (.tup h), kit_ty (by decide +kernel)⟩
theorem NoStr.dK {a : Addr} {xs : List (Key × V)} (h : H a = some (.dK xs)) : NoStr K (.ref a) H := ⟨_, .base (.dK h), kit_ty (by decide +kernel)⟩
theorem v_nostr (h : Vl t1 σ H v) (n : NoStr K v H) : Vl (tCB (rIsi K) (tCons t1 (tCons (tC (.ty "str")) tNil))) σ H (.bl false) := by
  obtain ⟨k, a, b⟩ := n
  exact v_isi h v_con (.ty _) (fun _ g => g.tyX a) b
/-- displays whose items are no texts -/
def NoStrs (K : PySem.W.Frag) (n : Nat) (vs : List V) (H : Hp) : Prop := vs.length = n ∧ ∀ v ∈ vs, NoStr K v H
theorem a_nil : Ar tNil σ H (NoStrs K 0) := fun H1 _ _ q => q [] H1 (.refl _) ⟨rfl, fun _ h => absurd h List.not_mem_nil⟩
theorem a_cons {a1 : TA} {n : Nat} (h : Vr t1 σ H (NoStr K)) (k : Ar a1 σ H (NoStrs K n)) : Ar (tCons t1 a1) σ H (NoStrs K (n + 1)) := fun H1 Q g q => h H1 _ g fun v H2 g2 hv => k H2 _ (g.trans g2) fun vs H3 g3 ⟨hl, ha⟩ => q (v :: vs) H3 (g2.trans g3) ⟨by rw [List.length_cons, hl], fun u hu => by
  rcases List.mem_cons.mp hu with e | e
  · rw [e]
    exact hv.mono g3
  · exact ha u e⟩
theorem vr_v {n : V} (h : Vl t1 σ H n) (k : ∀ H1, NoStr K n H1) : Vr t1 σ H (NoStr K) := fun H1 Q g q => h H1 _ g fun H2 g2 => q n H2 g2 (k H2)
theorem vr_l {xs : List V} (h : Ls t1 σ H xs) : Vr t1 σ H (NoStr K) := fun H1 Q g q => h H1 _ g fun p H2 _ g2 e => q _ H2 g2 (.lst e)
theorem vr_u {xs : List V} (h : Tu t1 σ H xs) : Vr t1 σ H (NoStr K) := fun H1 Q g q => h H1 _ g fun p H2 _ g2 e => q _ H2 g2 (.tup e)
theorem r_lst {a1 : TA} {R : List V → Hp → Prop} (h : Ar a1 σ H R) (n : ∀ vs H1, R vs H1 → vs.length ≤ 100000) (mono : ∀ {vs H1 H2}, Gr H1 H2 → R vs H1 → R vs H2) : Vr (tLst a1) σ H (fun v H1 => ∃ p vs, v = .ref p ∧ H1 p = some (.lst vs) ∧ R vs H1) := fun H1 Q g q => h H1 _ g fun vs H2 g2 hv =>
  ⟨small (n vs H2 hv), fun p hp => q _ _ (g2.trans (.new hp)) ⟨p, vs, rfl, upd_same, mono (.new hp) hv⟩⟩
theorem r_ix {i : Int} {R S : V → Hp → Prop} (h : Vr t1 σ H R) (k : ∀ H1, Gr H H1 → Vl t2 σ H1 (.int i)) (o : ∀ v H1, Gr H H1 → R v H1 → ∃ p xs u, v = .ref p ∧ H1 p = some (.lst xs) ∧ atI xs i = some u ∧ S u H1) (mono : ∀ {u H1 H2}, Gr H1 H2 → S u H1 → S u H2) : Vr (tOp (rIxL K) t1 t2) σ H S := fun H1 Q g q =>
  h H1 _ g fun v H2 g2 hv => by
    obtain ⟨p, xs, u, e, hp, hu, hs⟩ := o v H2 (g.trans g2) hv
    exact k H2 (g.trans g2) H2 _ (.refl _) fun H3 g3 => ⟨p, xs, i, u, e, rfl, SqL.of (g3.lst hp), hu, q u H3 (g2.trans g3) (mono g3 hs)⟩
end
section
variable {σ : L2.St} {H : Hp} {t1 : TE}
theorem v_slS {w : Str} {tl th : TO} {lo hi : Option Int} (h : Vl t1 σ H (.str w)) (h1 : Pt tl σ H lo) (h2 : Pt th σ H hi) (s : w.length ≤ 100000) : Vl (tSl (fun x lo hi H Q => ∃ z, x = .str z ∧ z.length ≤ sizeLine ∧ Q (.str (cutS z lo hi)) H) t1 tl th) σ H (.str (cutS w lo hi)) := fun H1 _ g q =>
  h H1 _ g fun H2 g2 => h1 H2 _ (g.trans g2) fun H3 g3 => h2 H3 _ ((g.trans g2).trans g3) fun H4 g4 => ⟨w, rfl, small s, q H4 ((g2.trans g3).trans g4)⟩
end
theorem fmod_in (c : Int) {m : Int} (h : 0 < m) : 0 ≤ c.fmod m ∧ c.fmod m < m := ⟨Int.fmod_nonneg_of_pos c h, Int.fmod_lt_of_pos c h⟩
theorem atI_in {α : Type} (d : α) {l : List α} {i : Int} (h0 : 0 ≤ i) (h : i < l.length) : atI l i = some (l.getD i.toNat d) := by
  have hn : i.toNat < l.length := by omega
  have e := atI_nat (xs := l) (j := i.toNat) (v := l.getD i.toNat d) (by rw [List.getD_eq_getElem?_getD, List.getElem?_eq_getElem hn]; rfl)
  rw [Int.toNat_of_nonneg h0] at e
  exact e
/-! ### names -/
def signs : Str := "abcdefghijklmnopqrstuvwxyz0123456789"
def nameB (z : Str) : Bool := (decide (1 ≤ (z.length : Int)) && decide ((z.length : Int) ≤ 12)) && z.cps.toList.all fun k => decide (k ∈ signs.cps.toList)
def wishB (z : Str) : Bool := inV (.str z) [V.str (Str.ofString "read"), V.str (Str.ofString "write")]
theorem wish_is (z : Str) : wishB z = (decide (V.str z = V.str (Str.ofString "read")) || decide (V.str z = V.str (Str.ofString "write"))) := by
  unfold wishB inV
  rw [List.any_cons, List.any_cons, List.any_nil, Bool.or_false]
  have e : ∀ a b : Str, eqV (.str a) (.str b) = decide (V.str b = V.str a) := fun a b => by
    rw [dec_str]
    exact Bool.beq_comm ..
  rw [e, e]

theorem bi_notInS {k : Nat} {w : Str} {H : Hp} : Bi rNotInS (.str ⟨#[k]⟩) (.str w) H (.bl (!decide (k ∈ w.cps.toList))) := fun H1 _ _ q => ⟨k, w, rfl, rfl, q H1 (.refl _)⟩
theorem bi_inS {k : Nat} {w : Str} {H : Hp} : Bi rInS (.str ⟨#[k]⟩) (.str w) H (.bl (decide (k ∈ w.cps.toList))) := fun H1 _ _ q => ⟨k, w, rfl, rfl, q H1 (.refl _)⟩
theorem none_out (l : List Nat) (p : Nat → Bool) : ((List.range l.length).filter fun m => !p (l.getD m 0)).isEmpty = l.all p := by
  rw [Bool.eq_iff_iff, List.isEmpty_iff, List.filter_eq_nil_iff, List.all_eq_true]
  constructor
  · intro h k hk
    obtain ⟨m, hm, e⟩ := List.getElem_of_mem hk
    have := h m (List.mem_range.mpr hm)
    rw [List.getD_eq_getElem?_getD, List.getElem?_eq_getElem hm, e] at this
    simpa using this
  · intro h m hm
    have hm' := List.mem_range.mp hm
    rw [List.getD_eq_getElem?_getD, List.getElem?_eq_getElem hm']
    have := h _ (List.getElem_mem hm')
    simpa using this
theorem cps_getD {w : Str} {m k : Nat} (h : w.cps[m]? = some k) : w.cps.toList.getD m 0 = k := by
  rw [List.getD_eq_getElem?_getD, Array.getElem?_toList, h]
  rfl

/-! ### more steps: an enumerated list, an item's field, a method that gives nothing -/
section
variable {K : PySem.W.Frag} {σ : L2.St} {H H' : Hp} {t1 t2 t3 : TE} {c1 c2 : TT} {x y z v : V} {D : Ends} {u1 u2 : TS} {g1 : TG}
theorem B_forE {a : Addr} {xs : List V} (h : Vl t1 σ H (.ref a)) (s : SqL K H a xs) (Pv : Nat → L2.St → Hp → Prop) (h0 : ∀ H1, Gr H H1 → Pv 0 σ H1) (hl : ∀ m σ' H', m ≤ xs.length → Pv m σ' H' → SqL K H' a xs)
    (hs : ∀ m x T σ' H', xs[m]? = some x → Pv m σ' H' → H' T = none → g1 (.ref T) σ' (upd H' T (.tup [.int (m : Nat), x])) fun σ2 H2 => u1 { D with nx := Pv (m + 1), ct := Pv (m + 1), bk := u2 D } σ2 H2) (hd : ∀ σ' H', Pv xs.length σ' H' → u2 D σ' H') : tSeq (tFor (iEnum K (tCons t1 tNil)) g1 u1) u2 D σ H :=
  h H _ (.refl _) fun H1 g => ⟨a, xs, rfl, g.sl s, for_it (D := { D with nx := u2 D }) walk_enum Pv (h0 H1 g) hl (fun m v σ' Ha Hb hm p ⟨T, i, w, ev, hT, eH, ei, ew⟩ => by
    subst ev
    subst eH
    cases ei
    exact hs m w T σ' Ha ew p hT) hd⟩
theorem v_fld {l p : Addr} {vs ts : List V} {m : Nat} {i : Int} (hl : SqL K H l vs) (hv : vs[m]? = some (.ref p)) (hp : H p = some (.tup ts)) (hf : atI ts i = some v) (a : Vl t1 σ H (.ref l)) (d : Vl t2 σ H (.int (m : Nat))) :
    Vl (tOp (rIxT K) (tOp (rIxL K) t1 t2) (tC (.int i))) σ H v := v_op (v_op a d (bi_ixL hl (atI_nat hv))) v_con (bi_ixT (SqT.of hp) hf)
theorem Tu.toR {xs : List V} (h : Tu t1 σ H xs) : Vr t1 σ H (fun u H2 => ∃ p, u = .ref p ∧ H2 p = some (.tup xs)) := fun H1 Q g q => h H1 Q g fun p H2 _ g2 e => q _ H2 g2 ⟨p, rfl, e⟩
/-- xs.insert(0, e), the item a new tuple -/
abbrev rIns0 : V → List V → Hp → VK → Prop := fun x vs H Q => ∃ (l : Addr) (xs : List V) (i : Int) (y : V), x = .ref l ∧ vs = [.int i, y] ∧ H l = some (.lst xs) ∧ xs.length < sizeLine ∧ 0 ≤ i ∧ i < 2 ^ 63 ∧ Q .non (upd H l (.lst (xs.take i.toNat ++ [y] ++ xs.drop i.toNat)))
theorem B_ins0U {l : Addr} {xs ts : List V} (hl : H l = some (.lst xs)) (a : Vl t1 σ H (.ref l)) (h : Tu t2 σ H ts) (n : xs.length < 100000) (k : ∀ p H1, H p = none → Gr H H1 → H1 p = some (.tup ts) → u1 D σ (upd H1 l (.lst (.ref p :: xs)))) :
    tSeq (tDrop (tBM K "list" rIns0 t1 (tCons (tC (.int 0)) (tCons t2 tNil)))) u1 D σ H := a H _ (.refl _) fun H1 g =>
  ⟨.inl ⟨rfl, xs, SqL.of (g.lst hl)⟩, h H1 _ g fun p H2 hp g2 e => ⟨l, xs, 0, .ref p, rfl, rfl, g2.lst (g.lst hl), small' n, by decide, by decide, k p H2 (g.free hp) (g.trans g2) e⟩⟩
theorem B_pop0 {l : Addr} {xs : List V} (hl : H l = some (.lst (y :: xs))) (a : Vl t1 σ H (.ref l)) (k : ∀ H1, Gr H H1 → u1 D σ (upd H1 l (.lst xs))) : tSeq (tDrop (tBM K "list" rPopAt t1 (tCons (tC (.int 0)) tNil))) u1 D σ H := a H _ (.refl _) fun H1 g =>
  ⟨.inl ⟨rfl, _, SqL.of (g.lst hl)⟩, l, y :: xs, 0, 0, y, rfl, rfl, g.lst hl, by decide, by decide, by
    unfold seqIndex?
    simp, rfl, k H1 g⟩
end
/-- sep.join(a list or a tuple of texts) -/
abbrev rJoin (K : PySem.W.Frag) : V → List V → Hp → VK → Prop := fun x xs H Q => ∃ a p, ∃ ys : List Str, x = .str a ∧ xs = [.ref p] ∧ (SqL K H p (ys.map V.str) ∨ SqT K H p (ys.map V.str)) ∧ (ys.map (·.length)).sum + ys.length * a.length ≤ 16777216 ∧ Q (.str (Txt.join a ys)) H
theorem out_filter {α : Type} (l : List α) (p : α → Bool) (g : α → V) (f : Nat → Bool) (val : Nat → V) (hf : ∀ m x, l[m]? = some x → f m = p x ∧ val m = g x) : out l.length f val = (l.filter p).map g := by
  have key : ∀ n, n ≤ l.length → out n f val = ((l.take n).filter p).map g := by
    intro n
    induction n with
    | zero => exact fun _ => rfl
    | succ n ih =>
      intro hn
      have h := hf n _ (List.getElem?_eq_getElem (show n < l.length by omega))
      rw [out_succ, ih (by omega), List.take_succ, List.getElem?_eq_getElem (show n < l.length by omega), Option.toList_some, List.filter_append, List.map_append, h.1, h.2, List.filter_cons]
      cases p l[n] <;> rfl
  have := key l.length (Nat.le_refl _)
  rw [List.take_length] at this
  exact this
theorem not_tup {H : Hp} {a : Addr} {kvs : List (Key × V)} (h : H a = some (.dK kvs)) : ∀ ts, H a ≠ some (.tup ts) := fun ts z => by
  rw [h] at z
  cases z
/-- tuples kept by a comprehension -/

abbrev rd : Str := "read"
abbrev wr : Str := "write"
/-! ### the law's readers of the script -/
def cellAt (ns : List Int) (k : Nat) : Int := ns.getD k 0
def spCell (K : PySem.W.Frag) : Sp := fun vs H Q _ => ∃ (a : Addr) (ns : List Int) (k : Nat), vs = [.ref a, .int (k : Int)] ∧ SqL K H a (ns.map V.int) ∧ RV (.int (cellAt ns k)) H Q
theorem sv_cell {K : PySem.W.Frag} {H : Hp} {a : Addr} {ns : List Int} {i : Int} (k : Nat) (e : i = (k : Int)) (h : SqL K H a (ns.map V.int)) : SpV (spCell K) [.ref a, .int i] H (.int (cellAt ns k)) := fun H1 Q E g q => ⟨a, ns, k, by rw [e], g.sl h, q⟩
def numBy (c l : Int) : Int :=
  if c.fmod 8 < 3 then l + c.fmod 8 else
  if c.fmod 8 = 3 then l + (c.fdiv 8).fmod 9 else
  if c.fmod 8 = 4 then 10 ^ 9 else
  if c.fmod 8 = 5 then l + (c.fdiv 8).fmod (10 ^ 9 + 1 - l) else
  l + (c.fdiv 8).fmod (if c.fmod 8 = 6 then 60 else 300)
theorem numBy_in (c l : Int) (hl : l = 0 ∨ l = 1) : l ≤ numBy c l ∧ numBy c l ≤ 10 ^ 9 := by
  have h1 := fmod_in c (m := 8) (by decide)
  have h2 := fmod_in (c.fdiv 8) (m := 9) (by decide)
  have h3 := fmod_in (c.fdiv 8) (m := 10 ^ 9 + 1 - l) (by omega)
  have h4 := fmod_in (c.fdiv 8) (m := (if c.fmod 8 = 6 then 60 else 300)) (by split <;> decide)
  unfold numBy
  split
  · omega
  split
  · omega
  split
  · omega
  split
  · omega
  have : (if c.fmod 8 = 6 then (60:Int) else 300) ≤ 300 := by split <;> decide
  omega
def spNum : Sp := fun vs H Q _ => ∃ (c l : Int), vs = [.int c, .int l] ∧ (l = 0 ∨ l = 1) ∧ RV (.int (numBy c l)) H Q
theorem sv_num {H : Hp} {c l : Int} (h : l = 0 ∨ l = 1) : SpV spNum [.int c, .int l] H (.int (numBy c l)) := fun H1 Q E g q => ⟨c, l, rfl, h, q⟩
/-- a new list of so many plain texts -/
def Names (n : Nat) (v : V) (H : Hp) : Prop := ∃ (p : Addr) (ss : List Str), v = .ref p ∧ H p = some (.lst (ss.map V.str)) ∧ ss.length = n ∧ ∀ s ∈ ss, nameB s = true
theorem Names.mono {n : Nat} {v : V} {H H' : Hp} (g : Gr H H') (h : Names n v H) : Names n v H' := let ⟨p, ss, a, b, c⟩ := h; ⟨p, ss, a, g.lst b, c⟩
/-- the same; if they are few, no two are alike -/
def NamesD (n : Nat) (v : V) (H : Hp) : Prop := ∃ (p : Addr) (ss : List Str), v = .ref p ∧ H p = some (.lst (ss.map V.str)) ∧ ss.length = n ∧ (∀ s ∈ ss, nameB s = true) ∧ (n ≤ 4 → ss.Nodup)
theorem NamesD.names {n : Nat} {v : V} {H : Hp} (h : NamesD n v H) : Names n v H := let ⟨p, ss, a, b, c, d, _⟩ := h; ⟨p, ss, a, b, c, d⟩
def spPeople : Sp := fun vs H Q _ => ∃ (c : Int) (n : Nat), vs = [.int c, .int (n : Int)] ∧ n ≤ 400 ∧ RR_ (NamesD n) H Q
theorem sr_people {H : Hp} {c i : Int} (n : Nat) (e : i = (n : Int)) (h : n ≤ 400) : SpR spPeople [.int c, .int i] H (Names n) := fun H1 Q E g q => ⟨c, n, by rw [e], h, fun v H2 g2 k => q v H2 g2 k.names⟩
theorem sr_peopleD {H : Hp} {c i : Int} (n : Nat) (e : i = (n : Int)) (h : n ≤ 400) : SpR spPeople [.int c, .int i] H (NamesD n) := fun H1 Q E g q => ⟨c, n, by rw [e], h, q⟩
theorem names_out {n : Nat} {s : Nat → Str} (h : ∀ m, m < n → nameB (s m) = true) (d : n ≤ 4 → ∀ i j, i < n → j < n → s i = s j → i = j) {p : Addr} {H : Hp} (hp : H p = some (.lst (out n (fun _ => true) fun m => V.str (s m)))) : NamesD n (.ref p) H := by
  refine ⟨p, (List.range n).map s, rfl, ?_, by rw [List.length_map, List.length_range], ?_, fun hn => ?_⟩
  · rw [hp]
    unfold out
    rw [List.map_map, List.filter_eq_self.mpr (fun _ _ => rfl)]
    rfl
  · intro z hz
    obtain ⟨m, hm, rfl⟩ := List.mem_map.mp hz
    exact h m (List.mem_range.mp hm)
  · exact List.pairwise_map.mpr (List.Pairwise.imp_of_mem (fun hi hj ne e => ne (d hn _ _ (List.mem_range.mp hi) (List.mem_range.mp hj) e)) List.nodup_range)
theorem str_cancel {a b c d : Str} (h : a ++ b ++ c = a ++ d ++ c) : b = d := by
  have t : ∀ u v : Str, (u ++ v).cps.toList = u.cps.toList ++ v.cps.toList := fun u v => Array.toList_append
  have h1 : (a ++ b ++ c).cps.toList = (a ++ d ++ c).cps.toList := congrArg (fun u : Str => u.cps.toList) h
  rw [t, t, t, t] at h1
  have h2 := List.append_cancel_left (List.append_cancel_right h1)
  cases b
  cases d
  exact congrArg Str.mk (Array.toList_inj.mp h2)
theorem sign_inj {i j : Nat} (hi : i < 36) (hj : j < 36) (h : signs.cps.toList.getD i 0 = signs.cps.toList.getD j 0) : i = j := by
  have key : ∀ i, i < 36 → ∀ j, j < 36 → signs.cps.toList.getD i 0 = signs.cps.toList.getD j 0 → i = j := by decide +kernel
  exact key i hi j hj h
/-- the signs of names alone -/
def Sg (z : Str) : Prop := ∀ k ∈ z.cps.toList, k ∈ signs.cps.toList
theorem sg_asc : ∀ k ∈ signs.cps.toList, k < 128 := by decide +kernel
theorem Sg.asc {z : Str} (h : Sg z) : Asc z := fun k hk => sg_asc k (h k hk)
theorem Sg.cat {a b : Str} (ha : Sg a) (hb : Sg b) : Sg (a ++ b) := by
  intro k hk
  have e : (a ++ b).cps.toList = a.cps.toList ++ b.cps.toList := Array.toList_append
  rw [e] at hk
  exact (List.mem_append.mp hk).elim (ha k) (hb k)
theorem Sg.cut {a : Str} (ha : Sg a) (lo hi : Option Int) : Sg (cutS a lo hi) := fun k hk => ha k (List.mem_of_mem_drop (List.mem_of_mem_take hk))
theorem Sg.one {k : Nat} (h : k ∈ signs.cps.toList) : Sg ⟨#[k]⟩ := fun j hj => by
  rw [List.mem_singleton.mp hj]
  exact h
theorem nameB_of {z : Str} (h1 : 1 ≤ z.length) (h2 : z.length ≤ 12) (h3 : Sg z) : nameB z = true := by
  unfold nameB
  rw [decide_eq_true (show (1 : Int) ≤ (z.length : Int) by omega), decide_eq_true (show (z.length : Int) ≤ 12 by omega), Bool.and_true, Bool.true_and, List.all_eq_true]
  exact fun k hk => decide_eq_true (h3 k hk)
theorem nameB_is {z : Str} (h : nameB z = true) : 1 ≤ z.length ∧ z.length ≤ 12 ∧ Sg z := by
  unfold nameB at h
  simp only [Bool.and_eq_true, decide_eq_true_eq, List.all_eq_true] at h
  exact ⟨by omega, by omega, h.2⟩
theorem cut_to (z : Str) (k : Nat) : (cutS z none (some (k : Int))).length = min k z.length := by
  show ((_ : List Nat).toArray).size = _
  rw [List.size_toArray, HT.sIx_nat, HT.sIx_none, List.length_take, List.length_drop, Array.length_toList]
  show min (min k z.length - 0) (z.length - 0) = _
  omega
theorem cut_from (z : Str) (k : Nat) : (cutS z (some (k : Int)) none).length = z.length - min k z.length := by
  show ((_ : List Nat).toArray).size = _
  rw [List.size_toArray, HT.sIx_nat, HT.sIx_none, List.length_take, List.length_drop, Array.length_toList]
  show min (z.length - min k z.length) (z.length - min k z.length) = _
  omega
theorem sign_at (n : Nat) (h : n < 36) : signs.cps.toList.getD n 0 ∈ signs.cps.toList := by
  have l : signs.cps.toList.length = 36 := by decide +kernel
  rw [List.getD_eq_getElem?_getD, List.getElem?_eq_getElem (by omega)]
  exact List.getElem_mem _
theorem sign_mod (c : Int) : signs.cps.toList.getD (c.fmod 36).toNat 0 ∈ signs.cps.toList := sign_at _ (by have := fmod_in c (m := 36) (by decide); omega)
theorem num_text : ∀ k : Nat, k < 400 → 1 ≤ (toString (k : Int) : Str).length ∧ (toString (k : Int) : Str).length ≤ (if k < 100 then 2 else 3) ∧ Sg (toString (k : Int)) := by
  unfold Sg
  decide +kernel
theorem num_len (k : Nat) (h : k < 400) : (toString (k : Int) : Str).length ≤ 3 := by
  have := (num_text k h).2.1
  split at this <;> omega
theorem num_small {m : Nat} (h : m < 400) : ((m : Int)).natAbs.log2 < 1920 := by
  have e : ((m : Int)).natAbs = m := Int.natAbs_natCast m
  rw [e]
  exact Nat.lt_of_le_of_lt (Nat.log2_le_self m) (by omega)
/-- a sign of a written text -/
theorem sign_in {w : Str} (n : Nat) (h : (w.cps.toList.all fun k => decide (k < 128)) = true) : w.cps.toList.getD n 0 < 128 := by
  rw [List.getD_eq_getElem?_getD]
  cases e : w.cps.toList[n]? with
  | none => show 0 < 128; decide
  | some k => exact of_decide_eq_true (List.all_eq_true.mp h k (List.mem_of_getElem? e))
theorem bi_sign {w : Str} {c : Int} {n : Nat} {H : Hp} (hn : w.length = n) (h0 : 0 < n) (s : n ≤ 100000) : Bi rIxS (.str w) (.int (c.fmod n)) H (.str ⟨#[w.cps.toList.getD (c.fmod n).toNat 0]⟩) :=
  bi_ixS (by omega) (atI_in 0 (fmod_in c (by omega)).1 (by
    have h2 := (fmod_in c (m := n) (by omega)).2
    have e : w.cps.toList.length = w.length := Array.length_toList
    rw [e, hn]
    exact h2))

/-! ### defs that raise, calls of them; methods, new objects; defs called while an exception is handled -/
namespace RX
open PySem PySem.Spec PyProof.Rows L2
section
variable {X : Cx} {CX : CXT} {k : Nat} {f C : Addr} {fd : FuncData} {ps : List Str} {sp : Sp} {E : L2.St → XK} {x m : Str} {p pos apos : Pos} {e o : Expr} {es : List Expr} {ta : TE} {t : TA}
/-- nothing leaves -/
theorem passN : Passes (L2N.CX X.prog X.w) X E0 := by
  intro _ _ _ _ _ _ _ h
  obtain ⟨_, _, _, _, _, _, _, _, _, _, _, _, z⟩ := h
  exact z.elim
theorem takesN : L2N.Takes X fun _ _ _ _ => False := by
  intro _ _ h
  obtain ⟨_, _, _, _, _, _, _, _, _, _, _, _, _, _, _, _, z⟩ := h
  exact z.elim
theorem passA0 {G : L2.St → XK} : ∀ σ, PassesAt CX0 X σ (G σ) := fun _ _ _ _ _ _ _ h => h.elim
/-- what the callee lets out leaves the caller too -/
theorem passD {F : XK} (tk : L2N.Takes X fun c d _ H => F c d H) : Passes (L2N.CX X.prog X.w) X F := L2N.passes_call tk fun _ _ _ _ z => z
/-- a method called where what is raised is wished for at the slots -/
def tMethA (C : Addr) (m : Str) (sp : Sp) (E : L2.St → XK) (ta : TE) (t : TA) : TE := fun σ H Q => ta σ H fun y H1 =>
  ∃ a dx fs, y = .ref a ∧ H1 a = some (.ins C dx fs) ∧ fs.lookup m = none ∧ t σ H1 fun vs H2 => sp (y :: vs) H2 Q (E σ)
theorem pe_methA {pl : Sem Bool} (ho : PE X o ta) (c : Cls X.K C) (hm : Meth X.K C m f) (F : FnOk X.prog X.w X.K X.mg X.base CX k f fd ps sp) (hr : Room k X.A) (hb : Binds X.K fd ps []) (hx : ∀ σ, PassesAt CX X σ (E σ)) (ha : PA X (e :: es) t)
    (hst : starEach (e :: es) X.env = (false, eval e X.env) :: starEach es X.env := by rfl) (hpl : (backTo pos (starEach es X.env)).any (·.1) = false := by rfl)
    (ht : eval (.Call (.Attribute o m apos) (e :: es) [] pos) X.env = (eval o X.env >>= fun ov => standAt apos.atName >>= fun _ => holding [ov] (getMethod ov m pl) >>= fun g => callWith pos g.1 g.2 (backTo pos (starEach (e :: es) X.env)) (backToKw pos (keywordEach [] X.env))) := by rfl) :
    PE X (.Call (.Attribute o m apos) (e :: es) [] pos) (tMethA C m sp E ta t) := ⟨fun pins s σ H Q I h => by
  refine PySem.W.methodCall_KW (pl := pl) (thn (ho.run pins s σ H _ I h) fun u s1 hu => ?_) ht
  obtain ⟨y, H1, I1, ry, a, dx, fs, rfl, ea, l, q⟩ := hu
  obtain rfl : u = Value.ref a := ry
  refine getmeth_ok I1 ea c hm l (PySem.W.callWith_K (first := [.ref a]) (h₀ := X.base) I.ok.mod.kin hm.kp (thn (ha.run pos pins s1 σ H1 _ I1 q) fun us s2 hus => ?_) hst hpl)
  obtain ⟨vs, H2, I2, r, q2⟩ := hus
  exact ⟨I2.kIn, run_fnS (us := .ref a :: us) (vs := .ref a :: vs) F hr hb (hx σ) I2 (.cons rfl r) q2⟩⟩
theorem pe_methA0 {pl : Sem Bool} (ho : PE X o ta) (c : Cls X.K C) (hm : Meth X.K C m f) (F : FnOk X.prog X.w X.K X.mg X.base CX k f fd ps sp) (hr : Room k X.A) (hb : Binds X.K fd ps []) (hx : ∀ σ, PassesAt CX X σ (E σ))
    (ht : eval (.Call (.Attribute o m apos) [] [] pos) X.env = (eval o X.env >>= fun ov => standAt apos.atName >>= fun _ => holding [ov] (getMethod ov m pl) >>= fun g => callWith pos g.1 g.2 (backTo pos (starEach [] X.env)) (backToKw pos (keywordEach [] X.env))) := by rfl) :
    PE X (.Call (.Attribute o m apos) [] [] pos) (tMethA C m sp E ta tNil) := ⟨fun pins s σ H Q I h => by
  refine PySem.W.methodCall_KW (pl := pl) (thn (ho.run pins s σ H _ I h) fun u s1 hu => ?_) ht
  obtain ⟨y, H1, I1, ry, a, dx, fs, rfl, ea, l, q⟩ := hu
  obtain rfl : u = Value.ref a := ry
  exact getmeth_ok I1 ea c hm l (PySem.W.callWith_K0 (first := [.ref a]) I1.kIn hm.kp (run_fnS (us := [.ref a]) (vs := [.ref a]) F hr hb (hx σ) I1 (.cons rfl .nil) q))⟩
/-- C(..) where what is raised is wished for at the slots -/
def tMakeA (C : Addr) (sp : Sp) (E : L2.St → XK) (t : TA) : TE := fun σ H Q => t σ H fun vs H1 => ∀ y dx, H1 y = none → H1 dx = none → dx ≠ y →
  sp (.ref y :: vs) (upd (upd H1 dx (.own y)) y (.ins C dx [])) (fun v H2 => v = .non ∧ Q (.ref y) H2) (E σ)
theorem run_makeA {pins : List (Addr × Obj)} {σ : L2.St} {H : Hp} {s : Shared} {Q : VK} {us : List Value} {vs : List V} {F' : XK} (M : Mk X.K C f) (F : FnOk X.prog X.w X.K X.mg X.base CX k f fd ps sp) (hr : Room (k + 1) X.A) (hb : Binds X.K fd ps [])
    (hx : PassesAt CX X σ F') (I : Inv X pins σ H s) (r : Vals vs us)
    (h : ∀ y dx, H y = none → H dx = none → dx ≠ y → sp (.ref y :: vs) (upd (upd H dx (.own y)) y (.ins C dx [])) (fun v H2 => v = .non ∧ Q (.ref y) H2) F') :
    wpAny (model X.prog X.w) X.A (call (.ref C) us) (EP X pins σ Q) X.xe s := by
  have q := h (s.heap.objs.size + 1) s.heap.objs.size (I.hok.fresh (Nat.le_succ _)) (I.hok.fresh (Nat.le_refl _)) (Nat.ne_of_lt (Nat.lt_succ_self _))
  have I2 := Inv.made (C := C) I
  have r2 : Vals (V.ref (s.heap.objs.size + 1) :: vs) (Value.ref (s.heap.objs.size + 1) :: us) := .cons rfl r
  have hl : (Value.ref (s.heap.objs.size + 1) :: us).length = ps.length := r2.length.symm.trans (F.len _ _ _ _ q)
  have b := hb _ (Value.ref (s.heap.objs.size + 1) :: us) I2.kIn (by rw [List.append_nil]; exact hl)
  rw [List.append_nil] at b
  refine wpAny_call (make_map (f := f) I.kIn M.makes M.init (beq_iff_eq.mp M.fn) (codeAny_mono (F.run _ X.stack _ _ ⟨Value.ref (s.heap.objs.size + 1) :: us, []⟩ _ _ _ F' (hr.make C us []) (I2.env0.make C us []) b r2 q) fun r s' hq => ?_))
  cases r with
  | error e => exact hx pins _ _ e s' I2 hq
  | ok fl =>
    cases fl with
    | ret u =>
      obtain ⟨v, H', I3, rv, rfl, q3⟩ := I2.after hq
      exact ⟨rv, ⟨V.ref (s.heap.objs.size + 1), H', I3, rfl, q3⟩⟩
    | next => exact False.elim hq
    | brk => exact False.elim hq
    | cont => exact False.elim hq
theorem pe_makeA (M : Mk X.K C f) (F : FnOk X.prog X.w X.K X.mg X.base CX k f fd ps sp) (hr : Room (k + 1) X.A) (hg : Gl X x) (hm : X.mg x = some (.ref C)) (hb : Binds X.K fd ps []) (hx : ∀ σ, PassesAt CX X σ (E σ)) (ha : PA X (e :: es) t)
    (hdb : (x == ("__debug__" : Str)) = false := by decide) (he : starEach (e :: es) X.env = (false, eval e X.env) :: starEach es X.env := by rfl) (hpl : (backTo pos (starEach es X.env)).any (·.1) = false := by rfl) : PE X (.Call (.Name x p) (e :: es) [] pos) (tMakeA C sp E t) := ⟨fun pins s σ H Q I h => by
  refine wpAny_Call_Name_kw (ld_glob I hg hm (PySem.W.callWith_K (h₀ := X.base) I.ok.mod.kin M.kp (thn (ha.run pos pins s σ H _ I h) fun us s1 hus => ?_) he hpl) hdb)
  obtain ⟨vs, H1, I1, r, q⟩ := hus
  exact ⟨I1.kIn, run_makeA M F hr hb (hx σ) I1 r q⟩⟩
end
section
variable {P : Program} {w : World} {K : PySem.W.Frag} {mg : Str → Option Value} {base : Heap} {x qual : Str} {st : Stmt} {f : Addr} {fd : FuncData} {N ps : List Str} {k : Nat} {sp : Sp}
/-- a def that may raise -/
theorem okN (F : Fun K x qual st f fd) (S : FnScope N ps (defScope st)) (len : ∀ vs H Q E, sp vs H Q E → vs.length = ps.length)
    (h : ∀ (cdv : Value) (A : Around) (outer : List Env) (s : Shared) (H : Hp) (vs : List V) (Q : VK) (E : XK), Room k (A.deeper (envOfC qual (defScope st) s.heap.objs.size f cdv)) → sp vs H Q E →
      ∃ t, PSs (cxOf (L2N.CX P w) P w K mg base N qual (defScope st) f cdv A outer s H E) (defBody st) t ∧ t ⟨fun _ H' => Q .non H', Q, fun _ _ => False, fun _ _ => False⟩ (start N vs) H) : FnOk P w K mg base (L2N.CX P w) (k + 1) f fd ps sp := by
  obtain ⟨_, _, _, _, _, _, cdv, _, _, rfl, lk, hcd⟩ := F.ex
  exact fn_of lk hcd S len fun A outer s H vs Q E => h cdv A outer s H vs Q E
/-- a def called while an exception is handled, of which nothing is let out -/
theorem okH {CX : CXT} (F : Fun K x qual st f fd) (S : FnScope N ps (defScope st)) (len : ∀ vs H Q E, sp vs H Q E → vs.length = ps.length)
    (h : ∀ (cdv : Value) (A : Around) (outer : List Env) (s : Shared) (H : Hp) (vs : List V) (Q : VK) (E : XK) (z : Addr × Obj), L2H.Hot1 A z → L2H.RoomH k (A.deeper (envOfC qual (defScope st) s.heap.objs.size f cdv)) → sp vs H Q E →
      ∃ t, PSs (L2H.cxH CX P w K mg base N qual (defScope st) f cdv A outer s H E z) (defBody st) t ∧ t ⟨fun _ H' => Q .non H', Q, fun _ _ => False, fun _ _ => False⟩ (start N vs) H) : L2H.FnH P w K mg base CX (k + 1) f fd ps sp := by
  obtain ⟨_, _, _, _, _, _, cdv, _, _, rfl, lk, hcd⟩ := F.ex
  exact L2H.fn_ofH lk hcd S len fun A outer s H vs Q E z => h cdv A outer s H vs Q E z
end
/-- isinstance(e, c) of an exception that is pinned: its class, what the class says, the answer -/
def rIsP (K : PySem.W.Frag) (a : Addr) (cls : Value) (d : Option Addr) : List V → Hp → VK → Prop := fun xs H Q =>
  ∃ (D : Addr) (c : V) (cv : Value) (b : Bool), cls = .ref D ∧ d = none ∧ ExcC K D ∧ xs = [.ref a, c] ∧ (∀ u, RelV c u → u = cv) ∧ PySem.W.kitOne K (.ref D) cv = some b ∧ Q (.bl b) H
theorem call_isP {X : Cx} {a : Addr} {oe : Obj} {cls : Value} {d : Option Addr} (hp : (a, oe) ∈ X.pn) (hz : Zc cls d oe) (hf : ∃ vs, oe.data = .fields vs) : CallR X (.builtin "isinstance") (rIsP X.K a cls d) := by
  intro pins s σ H xs us Q I r h
  obtain ⟨D, c, cv, b, rfl, rfl, C, rfl, hcv, e, q⟩ := h
  obtain ⟨u1, us1, rx, r1, rfl⟩ : ∃ u1 us1, RelV (.ref a) u1 ∧ Vals [c] us1 ∧ us = u1 :: us1 := by
    cases r with
    | cons r1 r2 => exact ⟨_, _, r1, r2, rfl⟩
  obtain ⟨u2, rt, rfl⟩ : ∃ u2, RelV c u2 ∧ us1 = [u2] := by
    cases r1 with
    | cons r2 r3 =>
      cases r3
      exact ⟨_, r2, rfl⟩
  obtain rfl : u1 = .ref a := rx
  obtain rfl := hcv _ rt
  obtain ⟨vs, hv⟩ := hf
  have J : PySem.W.InstAt s.heap a oe D none := by
    have g := (I.pin (a, oe) (List.mem_append_left _ hp)).1
    obtain ⟨oc, od, oda, osl⟩ := oe
    obtain ⟨h1, h2⟩ := hz
    dsimp only at h1 h2 hv
    subst h1 h2 hv
    exact ⟨g, rfl, rfl, trivial⟩
  exact PySem.W.kia_one (PySem.W.handS_kitx_exc C.hg C.hk C.hs C.hd C.ha C.hn C.ht C.hm) I.kIn J e (fun z => nomatch z) fun tk => ⟨.bl b, H, I.kept (t' := tk) fun _ _ z => z, rfl, q⟩
/-- isinstance(e, (c1, c2, ..)) of an exception that is pinned -/
def rIsPT (K : PySem.W.Frag) (a : Addr) (cls : Value) (d : Option Addr) : List V → Hp → VK → Prop := fun xs H Q =>
  ∃ (D tp : Addr) (cs : List V) (us : List Value) (b : Bool), cls = .ref D ∧ d = none ∧ ExcC K D ∧ xs = [.ref a, .ref tp] ∧ H tp = some (.tup cs) ∧ Paired ClsV cs us ∧ PySem.W.kitAny K (.ref D) us = some b ∧ Q (.bl b) H
theorem call_isPT {X : Cx} {a : Addr} {oe : Obj} {cls : Value} {d : Option Addr} (hp : (a, oe) ∈ X.pn) (hz : Zc cls d oe) (hf : ∃ vs, oe.data = .fields vs) : CallR X (.builtin "isinstance") (rIsPT X.K a cls d) := by
  intro pins s σ H xs us Q I r h
  obtain ⟨D, tp, cs, ws, b, rfl, rfl, C, rfl, hT, k, e, q⟩ := h
  obtain ⟨u1, us1, rx, r1, rfl⟩ : ∃ u1 us1, RelV (.ref a) u1 ∧ Vals [.ref tp] us1 ∧ us = u1 :: us1 := by
    cases r with
    | cons r1 r2 => exact ⟨_, _, r1, r2, rfl⟩
  obtain ⟨u2, rt, rfl⟩ : ∃ u2, RelV (.ref tp) u2 ∧ us1 = [u2] := by
    cases r1 with
    | cons r2 r3 =>
      cases r3
      exact ⟨_, r2, rfl⟩
  obtain rfl : u1 = .ref a := rx
  obtain rfl : u2 = .ref tp := rt
  obtain ⟨vs, hv⟩ := hf
  have J : PySem.W.InstAt s.heap a oe D none := by
    have g := (I.pin (a, oe) (List.mem_append_left _ hp)).1
    obtain ⟨oc, od, oda, osl⟩ := oe
    obtain ⟨h1, h2⟩ := hz
    dsimp only at h1 h2 hv
    subst h1 h2 hv
    exact ⟨g, rfl, rfl, trivial⟩
  obtain ⟨_, its, rv, o, h1, h2, n, h3⟩ := (show ObjOk X.prog X.w H s.heap tp (.tup cs) from I.hok tp _ hT)
  have e3 := ClsV.all k rv
  subst e3
  obtain ⟨oc, od, dt, sl⟩ := o
  simp only at h2 h3
  subst h2 h3
  exact PySem.W.kia_tup (PySem.W.handS_kitx_exc C.hg C.hk C.hs C.hd C.ha C.hn C.ht C.hm) I.kIn J h1 e (fun z => nomatch z) fun tk => ⟨.bl b, H, I.kept (t' := tk) fun _ _ z => z, rfl, q⟩
end RX

/-! ### a def that is handed the exception that is being handled -/
namespace RX
open PySem PySem.Spec PyProof.Rows L2
/-- as FnH; the promise knows the exception, its place and what stands there -/
structure FnE (P : Program) (w : World) (K : PySem.W.Frag) (mg : Str → Option Value) (base : Heap) (CX : CXT) (k : Nat) (f : Addr) (fd : FuncData) (ps : List Str) (sp : Addr → Value → Option Addr → Sp) : Prop where
  len : ∀ a c d vs H Q E, sp a c d vs H Q E → vs.length = ps.length
  run : ∀ (A : Around) (outer : List Env) (s : Shared) (H : Hp) (args : Args) (us : List Value) (vs : List V) (Q : VK) (E : XK) (z : Addr × Obj) (c : Value) (d : Option Addr), L2H.RoomH k A → L2H.Hot1 A z → L2H.PinOk outer H s z → Zc c d z.2 → Env0 P w K mg base A outer s H →
    BindsTo s fd args (ps.zip us) → Vals vs us → sp z.1 c d vs H Q E → codeAny (model P w) A (.call (.ref f) args) (CR CX outer P w H s Q E) s
section
variable {P : Program} {w : World} {K : PySem.W.Frag} {mg : Str → Option Value} {base : Heap} {x qual : Str} {st : Stmt} {f : Addr} {fd : FuncData} {N ps : List Str} {k : Nat} {sp : Addr → Value → Option Addr → Sp}
theorem okE {CX : CXT} (F : Fun K x qual st f fd) (S : FnScope N ps (defScope st)) (len : ∀ a c d vs H Q E, sp a c d vs H Q E → vs.length = ps.length)
    (h : ∀ (cdv : Value) (A : Around) (outer : List Env) (s : Shared) (H : Hp) (vs : List V) (Q : VK) (E : XK) (z : Addr × Obj) (c : Value) (d : Option Addr), L2H.Hot1 A z → Zc c d z.2 → L2H.RoomH k (A.deeper (envOfC qual (defScope st) s.heap.objs.size f cdv)) → sp z.1 c d vs H Q E →
      ∃ t, PSs (L2H.cxH CX P w K mg base N qual (defScope st) f cdv A outer s H E z) (defBody st) t ∧ t ⟨fun _ H' => Q .non H', Q, fun _ _ => False, fun _ _ => False⟩ (start N vs) H) : FnE P w K mg base CX (k + 1) f fd ps sp := by
  obtain ⟨_, _, _, _, _, _, cdv, _, _, rfl, lk, hcd⟩ := F.ex
  refine ⟨len, fun A outer s H args us vs Q E z cc dd hr hot hpin hc e0 hb r hsp => ?_⟩
  have hin : K.In s.heap := e0.mod.kin.keeps fun b o hbo => (e0.bs b o hbo).1
  refine codeAny_call_function hr.depth (hin _ _ lk) rfl S.co S.gen rfl (PySem.W.codeRec_of hin hcd) (hb _ _ _ _ (wpAny_newFunctionEnv_cells S.kind (fun y hy => ?_) fun env he s1 c => ?_))
  · rcases S.par y.1 (List.of_mem_zip (show (y.1, y.2) ∈ _ from hy)).1 with q | q
    · exact .inl q
    · exact .inr ⟨q, PySem.W.cellsFrom_some _ _ _ (.inl q)⟩
  subst he
  obtain ⟨t, ht, hq⟩ := h cdv A outer s H vs Q E z cc dd hot hc (hr.deeper _) hsp
  have I := L2H.inv_startH (CX := CX) (E := E) S hpin e0 (len _ _ _ _ _ _ _ hsp) r c
  have nl : s.heap.NoLimit := e0.mod.nolimit.keeps fun b o hbo => (e0.bs b o hbo).1
  refine ⟨nl.keeps c.toInCall.keep, codeAny_func (wpAny_mono (ht.run [] s1 _ H _ I hq) (fun fl s' hs => ?_) fun _ _ hs => hs)⟩
  cases fl with
  | ret u => exact let ⟨v, _, H', J, rv, q⟩ := hs; ⟨v, H', J.os, J.bare, J.base, J.hok, rv, q⟩
  | next => exact let ⟨_, H', J, q⟩ := hs; ⟨.non, H', J.os, J.bare, J.base, J.hok, rfl, q⟩
  | brk => exact let ⟨_, _, _, q⟩ := hs; q.elim
  | cont => exact let ⟨_, _, _, q⟩ := hs; q.elim
end
section
variable {X : Cx} {CX : CXT} {k : Nat} {f : Addr} {fd : FuncData} {ps : List Str} {sp : Addr → Value → Option Addr → Sp} {E : L2.St → XK} {x : Str} {p pos : Pos} {e : Expr} {es : List Expr} {t : TA} {a : Addr} {oe : Obj} {c : Value} {d : Option Addr}
def tCallE (a : Addr) (c : Value) (d : Option Addr) (sp : Addr → Value → Option Addr → Sp) (E : L2.St → XK) (t : TA) : TE := fun σ H Q => t σ H fun vs H1 => sp a c d vs H1 Q (E σ)
theorem pe_callE (F : FnE X.prog X.w X.K X.mg X.base CX k f fd ps sp) (hr : L2H.RoomH k X.A) (hz : L2H.Hot1 X.A (a, oe)) (hp : (a, oe) ∈ X.pn) (hc : Zc c d oe) (hg : Gl X x) (hm : X.mg x = some (.ref f)) (hk : PySem.W.keepIn X.K (.ref f) = true) (hb : Binds X.K fd ps [])
    (hx : ∀ σ, PassesAt CX X σ (E σ)) (ha : PA X (e :: es) t) (hdb : (x == ("__debug__" : Str)) = false := by decide) (he : starEach (e :: es) X.env = (false, eval e X.env) :: starEach es X.env := by rfl) (hpl : (backTo pos (starEach es X.env)).any (·.1) = false := by rfl) :
    PE X (.Call (.Name x p) (e :: es) [] pos) (tCallE a c d sp E t) := ⟨fun pins s σ H Q I h => by
  refine wpAny_Call_Name_kw (ld_glob I hg hm (PySem.W.callWith_K (h₀ := X.base) I.ok.mod.kin hk (thn (ha.run pos pins s σ H _ I h) fun us s1 hus => ?_) he hpl) hdb)
  obtain ⟨vs, H1, J, r, q⟩ := hus
  have hl : us.length = ps.length := r.length.symm.trans (F.len _ _ _ _ _ _ _ q)
  have b := hb s1 us J.kIn (by rw [List.append_nil]; exact hl)
  rw [List.append_nil] at b
  have P1 := J.pin (a, oe) (List.mem_append_left _ hp)
  refine ⟨J.kIn, wpAny_call (codeAny_mono (F.run X.A X.stack s1 H1 ⟨us, []⟩ us vs Q (E σ) (a, oe) c d hr hz ⟨P1.1, P1.2.1, fun hm => (List.mem_cons.mp (J.stkSub _ hm)).elim P1.2.2.1 P1.2.2.2.1, P1.2.2.2.2⟩ hc J.env0 b r q) fun r s' hq => ?_)⟩
  cases r with
  | error e => exact hx σ pins H1 s1 e s' J hq
  | ok fl =>
    cases fl with
    | ret u => exact J.after hq
    | next => exact hq.elim
    | brk => exact hq.elim
    | cont => exact hq.elim⟩
theorem hot_suite {a : Addr} {oe : Obj} {cls : Value} {d : Option Addr} {A : Around} (hz : L2N.Zn cls d oe) (hf : ∃ vs, oe.data = .fields vs) : L2H.Hot1 (A.mark (some (.ref a))) (a, oe) := by
  obtain ⟨vs, e⟩ := hf
  exact ⟨rfl, vs, e, hz.2.2 vs e⟩
theorem fields_of {A : Around} {z : Addr × Obj} (h : L2H.Hot1 A z) : ∃ vs, z.2.data = .fields vs := let ⟨_, vs, e, _⟩ := h; ⟨vs, e⟩
theorem roomH_suite {k : Nat} {A : Around} {h : Option Value} (r : Room k A) : L2H.RoomH k (A.mark h) := ⟨r.dp, r.un⟩
end
end RX

/-! ### wishes, tuples at places, rows of a journal -/
def wishOf (c : Int) : Str := if c.fmod 3 = 0 then wr else rd
theorem wishOf_ok (c : Int) : wishOf c = rd ∨ wishOf c = wr := by
  unfold wishOf
  split
  · exact .inr rfl
  · exact .inl rfl
def spWish : Sp := fun vs H Q _ => ∃ c : Int, vs = [.int c] ∧ RV (.str (wishOf c)) H Q
theorem sv_wish {H : Hp} {c : Int} : SpV spWish [.int c] H (.str (wishOf c)) := fun H1 Q E g q => ⟨c, rfl, q⟩
/-- tuples at these places, what they hold -/
inductive TupsAt (H : Hp) {α : Type} (f : α → List V) : List V → List α → Prop
  | nil : TupsAt H f [] []
  | cons {p : Addr} {r : α} {vs : List V} {l : List α} : H p = some (.tup (f r)) → TupsAt H f vs l → TupsAt H f (.ref p :: vs) (r :: l)
namespace TupsAt
variable {α : Type} {f : α → List V}
theorem mono {H H' : Hp} (g : Gr H H') : ∀ {vs : List V} {l : List α}, TupsAt H f vs l → TupsAt H' f vs l
  | _, _, .nil => .nil
  | _, _, .cons h t => .cons (g.tup h) (mono g t)
theorem chg {H : Hp} {a : Addr} {o : HO} (n : ∀ ts, H a ≠ some (.tup ts)) : ∀ {vs : List V} {l : List α}, TupsAt H f vs l → TupsAt (upd H a o) f vs l
  | _, _, .nil => .nil
  | _, _, .cons h t => .cons ((upd_ne fun e => n _ (e ▸ h)).trans h) (chg n t)
theorem length {H : Hp} : ∀ {vs : List V} {l : List α}, TupsAt H f vs l → vs.length = l.length
  | _, _, .nil => rfl
  | _, _, .cons _ t => by rw [List.length_cons, List.length_cons, length t]
theorem get {H : Hp} : ∀ {vs : List V} {l : List α} (m : Nat) {r : α}, TupsAt H f vs l → l[m]? = some r → ∃ p, vs[m]? = some (.ref p) ∧ H p = some (.tup (f r))
  | _, _, _, _, .nil, h => by simp at h
  | _, _, 0, _, .cons h _, e => by
    cases e
    exact ⟨_, rfl, h⟩
  | _, _, m + 1, _, .cons _ t, e => get m t e
theorem snoc {H : Hp} {p : Addr} {r : α} (h : H p = some (.tup (f r))) : ∀ {vs : List V} {l : List α}, TupsAt H f vs l → TupsAt H f (vs ++ [.ref p]) (l ++ [r])
  | _, _, .nil => .cons h .nil
  | _, _, .cons k t => .cons k (snoc h t)
theorem app {H : Hp} : ∀ {vs ws : List V} {l m : List α}, TupsAt H f vs l → TupsAt H f ws m → TupsAt H f (vs ++ ws) (l ++ m)
  | _, _, _, _, .nil, k => k
  | _, _, _, _, .cons h t, k => .cons h (app t k)
theorem take {H : Hp} : ∀ (n : Nat) {vs : List V} {l : List α}, TupsAt H f vs l → TupsAt H f (vs.take n) (l.take n)
  | 0, _, _, _ => .nil
  | _ + 1, _, _, .nil => .nil
  | n + 1, _, _, .cons h t => .cons h (take n t)
theorem drop {H : Hp} : ∀ (n : Nat) {vs : List V} {l : List α}, TupsAt H f vs l → TupsAt H f (vs.drop n) (l.drop n)
  | 0, _, _, h => h
  | _ + 1, _, _, .nil => .nil
  | n + 1, _, _, .cons _ t => drop n t
end TupsAt

section
variable {K : PySem.W.Frag} {σ : L2.St} {H H' : Hp} {t1 t2 t3 : TE} {c1 c2 : TT} {x y z v : V}
theorem v_isl {p : Addr} {xs : List V} (h : Vl t1 σ H (.ref p)) (hp : H p = some (.lst xs)) : Vl (tCB (rIsi K) (tCons t1 (tCons (tC (.ty "list")) tNil))) σ H (.bl true) := v_isi h v_con (.ty _) (fun _ g => .base (.lst (g.lst hp))) (kit_ty (by decide +kernel))
theorem v_ist {p : Addr} {xs : List V} (h : Vl t1 σ H (.ref p)) (hp : H p = some (.tup xs)) : Vl (tCB (rIsi K) (tCons t1 (tCons (tC (.ty "tuple")) tNil))) σ H (.bl true) := v_isi h v_con (.ty _) (fun _ g => .base (.tup (g.tup hp))) (kit_ty (by decide +kernel))
theorem v_lenT {p : Addr} {xs : List V} (h : Vl t1 σ H (.ref p)) (s : SqT K H p xs) : Vl (tCB (fLen K) (tCons t1 tNil)) σ H (.int xs.length) := v_blt (g_cons h g_nil) fun H1 _ g q => ⟨p, xs, rfl, .inr (g.st s), q H1 (.refl _)⟩
theorem l_cmpT {a : Addr} {xs : List V} {j : Nat} {ws : List Nat} (f : Nat → Bool) (val : Nat → V) (h : Vl t2 σ H (.ref a)) (s : SqT K H a xs) (hz : xs.length ≤ 40000) (hw : ∀ x, wipe ((wipe σ ws).set j (some x)) ws = wipe σ ws)
    (ht : ∀ (m : Nat) (x : V) H1, Gr H H1 → xs[m]? = some x → Ts c1 ((wipe σ ws).set j (some x)) H1 (f m)) (he : ∀ (m : Nat) (x : V) H1, Gr H H1 → xs[m]? = some x → f m = true → Vl t1 ((wipe σ ws).set j (some x)) H1 (val m)) :
    Ls (tLc (iTup K t2) (gName j) c1 t1 ws) σ H (out xs.length f val) := fun H0 Q g q => h H0 _ g fun H1 g1 => ⟨a, rfl, ⟨xs, (g.trans g1).st s⟩, fun p hp =>
  lc_tup (xs := xs) (Cmp H1 f val p) ⟨hp, .new hp, upd_same⟩ (fun _ H' _ w => ((g.trans g1).trans w.2.1).st s) (fun m x H' hm w => ⟨hw x, w.turn (by have := (List.getElem?_eq_some_iff.mp hm).1; omega) (ht m x H1 (g.trans g1) hm) fun hf => he m x H1 (g.trans g1) hm hf⟩)
    fun H' w => q p H' (g1.free w.1) (g1.trans w.2.1) w.2.2⟩
end
theorem Tu.toN {σ : L2.St} {H : Hp} {t1 : TE} {xs : List V} (h : Tu t1 σ H xs) : Vr t1 σ H (fun u H2 => ∃ p, u = .ref p ∧ H p = none ∧ H2 p = some (.tup xs)) := fun H1 Q g q => h H1 Q g fun p H2 hp g2 e => q _ H2 g2 ⟨p, rfl, g.free hp, e⟩
/-- a row: some words -/
abbrev JRow := List Str
def JRow.vs (r : JRow) : List V := r.map V.str
def JRow.good (r : JRow) : Prop := 2 ≤ r.length ∧ r.length ≤ 3 ∧ ∀ s ∈ r, Asc s ∧ s.length ≤ 100
/-- a row as journals have them -/
def JRow.ok (r : JRow) : Prop := ∃ w n : Str, nameB n = true ∧ (((w = "came" ∨ w = "begins") ∧ ∃ x, (x = rd ∨ x = wr) ∧ r = [w, n, x]) ∨ ((w = "left" ∨ w = "asked" ∨ w = "eased") ∧ r = [w, n]))
theorem word_asc {w : Str} (h : w ∈ (["came", "begins", "left", "asked", "eased", "read", "write"] : List Str)) : Asc w ∧ w.length ≤ 6 := by
  have key : ∀ s ∈ (["came", "begins", "left", "asked", "eased", "read", "write"] : List Str), (s.cps.toList.all fun k => decide (k < 128)) = true ∧ s.length ≤ 6 := by decide +kernel
  obtain ⟨a, b⟩ := key w h
  exact ⟨fun k hk => of_decide_eq_true (List.all_eq_true.mp a k hk), b⟩
theorem JRow.ok.good {r : JRow} (h : r.ok) : r.good := by
  obtain ⟨w, n, hn, h⟩ := h
  obtain ⟨_, n2, n3⟩ := nameB_is hn
  have an : Asc n ∧ n.length ≤ 100 := ⟨n3.asc, by omega⟩
  rcases h with ⟨hw, x, hx, rfl⟩ | ⟨hw, rfl⟩
  · have aw := word_asc (w := w) (by rcases hw with rfl | rfl <;> decide)
    have ax := word_asc (w := x) (by rcases hx with rfl | rfl <;> decide)
    refine ⟨by simp, by simp, fun s hs => ?_⟩
    simp only [List.mem_cons, List.not_mem_nil, or_false] at hs
    rcases hs with rfl | rfl | rfl
    · exact ⟨aw.1, by omega⟩
    · exact an
    · exact ⟨ax.1, by omega⟩
  · have aw := word_asc (w := w) (by rcases hw with rfl | rfl | rfl <;> decide)
    refine ⟨by simp, by simp, fun s hs => ?_⟩
    simp only [List.mem_cons, List.not_mem_nil, or_false] at hs
    rcases hs with rfl | rfl
    · exact ⟨aw.1, by omega⟩
    · exact an
def rowsD (l : List JRow) : List PyData := l.map fun r => .tuple (r.map PyData.str)
theorem dps_rows {K : PySem.W.Frag} {H : Hp} : ∀ {vs : List V} {l : List JRow}, TupsAt H JRow.vs vs l → DpAll K H vs (rowsD l)
  | _, _, .nil => .nil
  | _, _, .cons h t => .cons (.tup (SqT.of h) (dps_str _)) (dps_rows t)
theorem canLay_rows : ∀ l : List JRow, (∀ r ∈ l, r.good) → PyData.canLayAll0 (rowsD l) = true
  | [], _ => by simp [rowsD, PyData.canLayAll0]
  | r :: l, h => by
    have t := canLay_rows l fun b hb => h b (List.mem_cons_of_mem _ hb)
    have t2 := canLay_strs r fun s hs => ((h r List.mem_cons_self).2.2 s hs).1
    unfold rowsD at t ⊢
    rw [List.map_cons]
    simp [PyData.canLayAll0, PyData.canLay0, t, t2]
theorem depth_rows : ∀ l : List JRow, PyData.depthAll (rowsD l) ≤ 1
  | [] => by simp [rowsD, PyData.depthAll]
  | r :: l => by
    have t := depth_rows l
    have t2 := depth_strs r
    unfold rowsD at t ⊢
    rw [List.map_cons]
    simp only [PyData.depthAll, PyData.depth, t2]
    omega
theorem shaped_rows (l : List JRow) (h : ∀ r ∈ l, r.good) : SeqAt.shaped (.list (rowsD l)) = true := by
  have a := canLay_rows l h
  have b := depth_rows l
  unfold SeqAt.shaped
  rw [show PyData.canLay0 (.list (rowsD l)) = PyData.canLayAll0 (rowsD l) by simp [PyData.canLay0], a, Bool.true_and]
  refine decide_eq_true ?_
  simp only [PyData.depth]
  omega
/-- two lists of the same good rows -/
def spAlike (K : PySem.W.Frag) : Sp := fun vs H Q _ => ∃ (p u : Addr) (xs ys : List V) (l : List JRow), vs = [.ref p, .ref u] ∧ H p = some (.lst xs) ∧ H u = some (.lst ys) ∧ TupsAt H JRow.vs xs l ∧ TupsAt H JRow.vs ys l ∧ l.length ≤ 30000 ∧ (∀ r ∈ l, r.good) ∧ RV (.bl true) H Q
theorem sv_alike {K : PySem.W.Frag} {H : Hp} {p u : Addr} {xs ys : List V} {l : List JRow} (hp : H p = some (.lst xs)) (hu : H u = some (.lst ys)) (tx : TupsAt H JRow.vs xs l) (ty : TupsAt H JRow.vs ys l) (n : l.length ≤ 30000) (g : ∀ r ∈ l, r.good) : SpV (spAlike K) [.ref p, .ref u] H (.bl true) :=
  fun H1 Q E e q => ⟨p, u, xs, ys, l, rfl, e.lst hp, e.lst hu, tx.mono e, ty.mono e, n, g, q⟩
/-- a new list of so many rows -/
def JRows (n : Nat) (v : V) (H : Hp) : Prop := ∃ (p : Addr) (vs : List V) (l : List JRow), v = .ref p ∧ H p = some (.lst vs) ∧ TupsAt H JRow.vs vs l ∧ l.length ≤ n ∧ ∀ r ∈ l, r.ok
def spRowsBy (K : PySem.W.Frag) : Sp := fun vs H Q _ => ∃ (a : Addr) (ns : List Int), vs = [.ref a] ∧ SqL K H a (ns.map V.int) ∧ RR_ (JRows 400) H Q

/-! ### names and wishes, asked of any thing -/
/-- what is asked by is_name, is_wish: a text, or a thing that is none -/
def spKind (K : PySem.W.Frag) (P : Addr) (f : Str → Bool) : Sp := fun vs H Q _ => ∃ v, vs = [v] ∧ GxR.TabG H P ∧ ((∃ z, v = .str z ∧ z.length ≤ 100000 ∧ RV (.bl (f z)) H Q) ∨ (NoStr K v H ∧ RV (.bl false) H Q))
theorem sv_kindS {K : PySem.W.Frag} {P : Addr} {f : Str → Bool} {H : Hp} {z : Str} (t : GxR.TabG H P) (n : z.length ≤ 100000) : SpV (spKind K P f) [.str z] H (.bl (f z)) := fun H1 Q E g q => ⟨_, rfl, g.tab t, .inl ⟨z, rfl, n, q⟩⟩
theorem sv_kindN {K : PySem.W.Frag} {P : Addr} {f : Str → Bool} {H : Hp} {v : V} (t : GxR.TabG H P) (n : NoStr K v H) : SpV (spKind K P f) [v] H (.bl false) := fun H1 Q E g q => ⟨_, rfl, g.tab t, .inr ⟨n.mono g, q⟩⟩

/-! ### what is a row -/
theorem in_words (z : Str) (l : List Str) : inV (.str z) (l.map V.str) = decide (z ∈ l) := by
  unfold inV
  rw [Bool.eq_iff_iff, List.any_eq_true, decide_eq_true_eq]
  have e : ∀ a b : Str, eqV (.str a) (.str b) = decide (V.str b = V.str a) := fun a b => by
    rw [dec_str]
    exact Bool.beq_comm ..
  constructor
  · rintro ⟨u, hu, h⟩
    obtain ⟨s, hs, rfl⟩ := List.mem_map.mp hu
    rw [e] at h
    have := V.str.inj (of_decide_eq_true h)
    rw [this]
    exact hs
  · intro h
    exact ⟨.str z, List.mem_map.mpr ⟨z, h, rfl⟩, by rw [e]; exact decide_eq_true rfl⟩
theorem flat_words : ∀ l : List Str, (l.map V.str).all flatV = true
  | [] => rfl
  | _ :: l => by rw [List.map_cons, List.all_cons, flat_words l]; rfl
/-- a call whose second argument is a new tuple -/
theorem v_callU {σ : L2.St} {H : Hp} {t1 t2 : TE} {sp : Sp} {E : XK} {x z : V} {xs : List V} (a : Vl t1 σ H x) (d : Tu t2 σ H xs) (k : ∀ p H1, Gr H H1 → H1 p = some (.tup xs) → SpV sp [x, .ref p] H1 z) : Vl (tCall sp [] E (tCons t1 (tCons t2 tNil))) σ H z :=
  fun H1 Q g q => a H1 _ g fun H2 g2 => d H2 _ (g.trans g2) fun p H3 _ g3 e => k p H3 ((g.trans g2).trans g3) e H3 Q _ (.refl _) fun H4 g4 => q H4 ((g2.trans g3).trans g4)
/-- a text of some length, or no text -/
def Thing (K : PySem.W.Frag) (v : V) (H : Hp) : Prop := (∃ z, v = .str z ∧ z.length ≤ 100000) ∨ (NoStr K v H ∧ ∀ z, v ≠ .str z)
theorem Thing.mono {K : PySem.W.Frag} {v : V} {H H' : Hp} (g : Gr H H') (h : Thing K v H) : Thing K v H' := h.imp id fun ⟨a, b⟩ => ⟨a.mono g, b⟩
def nameV : V → Bool
  | .str z => nameB z
  | _ => false
def wishV : V → Bool
  | .str z => decide (z = rd) || decide (z = wr)
  | _ => false
def wordV (l : List Str) : V → Bool
  | .str z => decide (z ∈ l)
  | _ => false
def rowV : List V → Bool
  | [w, n, x] => wordV ["came", "begins"] w && (nameV n && wishV x)
  | [w, n] => wordV ["left", "asked", "eased"] w && nameV n
  | _ => false
theorem wishV_B (z : Str) : wishV (.str z) = wishB z := by
  rw [wish_is]
  show (decide (z = rd) || decide (z = wr)) = _
  have e : ∀ a b : Str, decide (a = b) = decide (V.str a = V.str b) := fun a b => decide_eq_decide.mpr ⟨congrArg V.str, V.str.inj⟩
  rw [e, e]
theorem no_of {v : V} (h : ∀ z, v ≠ .str z) : nameV v = false ∧ wishV v = false ∧ ∀ l, wordV l v = false := by
  cases v <;> first | exact absurd rfl (h _) | exact ⟨rfl, rfl, fun _ => rfl⟩
theorem rowV_ok {r : JRow} : rowV (JRow.vs r) = true ↔ r.ok := by
  unfold JRow.vs JRow.ok
  constructor
  · intro h
    match r, h with
    | [w, n, x], h =>
      simp only [List.map_cons, List.map_nil, rowV, Bool.and_eq_true, wordV, nameV, wishV, Bool.or_eq_true, decide_eq_true_eq, List.mem_cons, List.not_mem_nil, or_false] at h
      exact ⟨w, n, h.2.1, .inl ⟨h.1, x, h.2.2, rfl⟩⟩
    | [w, n], h =>
      simp only [List.map_cons, List.map_nil, rowV, Bool.and_eq_true, wordV, nameV, decide_eq_true_eq, List.mem_cons, List.not_mem_nil, or_false] at h
      exact ⟨w, n, h.2, .inr ⟨h.1, rfl⟩⟩
    | [], h => simp [rowV] at h
    | [_], h => simp [rowV] at h
    | _ :: _ :: _ :: _ :: _, h => simp [rowV] at h
  · rintro ⟨w, n, hn, ⟨hw, x, hx, rfl⟩ | ⟨hw, rfl⟩⟩
    · simp only [List.map_cons, List.map_nil, rowV, Bool.and_eq_true, wordV, nameV, wishV, Bool.or_eq_true, decide_eq_true_eq, List.mem_cons, List.not_mem_nil, or_false]
      exact ⟨hw, hn, hx⟩
    · simp only [List.map_cons, List.map_nil, rowV, Bool.and_eq_true, wordV, nameV, decide_eq_true_eq, List.mem_cons, List.not_mem_nil, or_false]
      exact ⟨hw, hn⟩
def spIsWord (K : PySem.W.Frag) : Sp := fun vs H Q _ => ∃ (v : V) (p : Addr) (l : List Str), vs = [v, .ref p] ∧ Thing K v H ∧ SqT K H p (l.map V.str) ∧ RV (.bl (wordV l v)) H Q
theorem sv_isword {K : PySem.W.Frag} {H : Hp} {v : V} {p : Addr} {l : List Str} (h : Thing K v H) (s : SqT K H p (l.map V.str)) : SpV (spIsWord K) [v, .ref p] H (.bl (wordV l v)) := fun H1 Q E g q => ⟨v, p, l, rfl, h.mono g, g.st s, q⟩
theorem sv_name {K : PySem.W.Frag} {P : Addr} {H : Hp} {v : V} (t : GxR.TabG H P) (h : Thing K v H) : SpV (spKind K P nameB) [v] H (.bl (nameV v)) := by
  rcases h with ⟨z, rfl, hz⟩ | ⟨n, no⟩
  · exact sv_kindS t hz
  · rw [(no_of no).1]
    exact sv_kindN t n
theorem sv_wishv {K : PySem.W.Frag} {P : Addr} {H : Hp} {v : V} (t : GxR.TabG H P) (h : Thing K v H) : SpV (spKind K P wishB) [v] H (.bl (wishV v)) := by
  rcases h with ⟨z, rfl, hz⟩ | ⟨n, no⟩
  · rw [wishV_B]
    exact sv_kindS t hz
  · rw [(no_of no).2.1]
    exact sv_kindN t n
/-- a thing of a known kind that is no tuple -/
def NoTup (K : PySem.W.Frag) (v : V) (H : Hp) : Prop := ∃ n : String, TyX K H v (.type n) ∧ PySem.W.kitOne K (.type n) (.type "tuple") = some false
theorem NoTup.mono {K : PySem.W.Frag} {v : V} {H H' : Hp} (g : Gr H H') (h : NoTup K v H) : NoTup K v H' := let ⟨n, a, b⟩ := h; ⟨n, g.tyX a, b⟩
def spIsRow (K : PySem.W.Frag) (P : Addr) : Sp := fun vs H Q _ => ∃ v : V, vs = [v] ∧ GxR.TabG H P ∧ ((∃ p xs, v = .ref p ∧ H p = some (.tup xs) ∧ (∀ x ∈ xs, Thing K x H) ∧ RV (.bl (rowV xs)) H Q) ∨ (NoTup K v H ∧ RV (.bl false) H Q))
theorem sv_isrow {K : PySem.W.Frag} {P : Addr} {H : Hp} {p : Addr} {xs : List V} (t : GxR.TabG H P) (h : H p = some (.tup xs)) (th : ∀ x ∈ xs, Thing K x H) : SpV (spIsRow K P) [.ref p] H (.bl (rowV xs)) := fun H1 Q E g q => ⟨_, rfl, g.tab t, .inl ⟨p, xs, rfl, g.tup h, fun x hx => (th x hx).mono g, q⟩⟩
theorem sv_norow {K : PySem.W.Frag} {P : Addr} {H : Hp} {v : V} (t : GxR.TabG H P) (h : NoTup K v H) : SpV (spIsRow K P) [v] H (.bl false) := fun H1 Q E g q => ⟨v, rfl, g.tab t, .inr ⟨h.mono g, q⟩⟩

def topS (i : Nat) : Stmt := PySem.Challenge.pw_readwriteroom_k04_rooms_made.main.body.getD i (.Pass ⟨0, 0, 0, 0⟩)
abbrev sIsNumber : Stmt := topS 19
abbrev nmIsNumber : List Str := ["thing", "least"]
theorem start_IsNumber (v0 v1 : V) : L2.start nmIsNumber [v0, v1] = [some v0, some v1] := rfl
theorem scIsNumber : FnScope nmIsNumber ["thing", "least"] (defScope sIsNumber) := ⟨rfl, rfl, rfl, by decide +kernel, rfl, by decide +kernel, by decide +kernel⟩
abbrev sRoomInit : Stmt := inClass (topS 20) 0
abbrev nmRoomInit : List Str := ["self", "seats", "patience"]
theorem start_RoomInit (v0 v1 v2 : V) : L2.start nmRoomInit [v0, v1, v2] = [some v0, some v1, some v2] := rfl
theorem scRoomInit : FnScope nmRoomInit ["self", "seats", "patience"] (defScope sRoomInit) := ⟨rfl, rfl, rfl, by decide +kernel, rfl, by decide +kernel, by decide +kernel⟩
abbrev sReadersM : Stmt := inClass (topS 20) 5
abbrev nmReadersM : List Str := ["self"]
theorem start_ReadersM (v0 : V) : L2.start nmReadersM [v0] = [some v0] := rfl
theorem scReadersM : FnScope nmReadersM ["self"] (defScope sReadersM) := ⟨rfl, rfl, rfl, by decide +kernel, rfl, by decide +kernel, by decide +kernel⟩
abbrev sWriterM : Stmt := inClass (topS 20) 6
abbrev nmWriterM : List Str := ["self"]
theorem start_WriterM (v0 : V) : L2.start nmWriterM [v0] = [some v0] := rfl
theorem scWriterM : FnScope nmWriterM ["self"] (defScope sWriterM) := ⟨rfl, rfl, rfl, by decide +kernel, rfl, by decide +kernel, by decide +kernel⟩
abbrev sAskerM : Stmt := inClass (topS 20) 7
abbrev nmAskerM : List Str := ["self"]
theorem start_AskerM (v0 : V) : L2.start nmAskerM [v0] = [some v0] := rfl
theorem scAskerM : FnScope nmAskerM ["self"] (defScope sAskerM) := ⟨rfl, rfl, rfl, by decide +kernel, rfl, by decide +kernel, by decide +kernel⟩
abbrev sLineM : Stmt := inClass (topS 20) 8
abbrev nmLineM : List Str := ["self", "_", "name", "wish"]
theorem start_LineM (v0 : V) : L2.start nmLineM [v0] = [some v0, none, none, none] := rfl
theorem scLineM : FnScope nmLineM ["self"] (defScope sLineM) := ⟨rfl, rfl, rfl, by decide +kernel, rfl, by decide +kernel, by decide +kernel⟩
abbrev sJournalM : Stmt := inClass (topS 20) 10
abbrev nmJournalM : List Str := ["self"]
theorem start_JournalM (v0 : V) : L2.start nmJournalM [v0] = [some v0] := rfl
theorem scJournalM : FnScope nmJournalM ["self"] (defScope sJournalM) := ⟨rfl, rfl, rfl, by decide +kernel, rfl, by decide +kernel, by decide +kernel⟩
abbrev sCell : Stmt := topS 22
abbrev nmCell : List Str := ["_law_script", "_law_k"]
theorem start_Cell (v0 v1 : V) : L2.start nmCell [v0, v1] = [some v0, some v1] := rfl
theorem scCell : FnScope nmCell ["_law_script", "_law_k"] (defScope sCell) := ⟨rfl, rfl, rfl, by decide +kernel, rfl, by decide +kernel, by decide +kernel⟩
abbrev sWhole : Stmt := topS 23
abbrev nmWhole : List Str := ["_law_found"]
theorem start_Whole (v0 : V) : L2.start nmWhole [v0] = [some v0] := rfl
theorem scWhole : FnScope nmWhole ["_law_found"] (defScope sWhole) := ⟨rfl, rfl, rfl, by decide +kernel, rfl, by decide +kernel, by decide +kernel⟩
abbrev sNum : Stmt := topS 24
abbrev nmNum : List Str := ["_law_cell", "_law_least", "_law_way"]
theorem start_Num (v0 v1 : V) : L2.start nmNum [v0, v1] = [some v0, some v1, none] := rfl
theorem scNum : FnScope nmNum ["_law_cell", "_law_least"] (defScope sNum) := ⟨rfl, rfl, rfl, by decide +kernel, rfl, by decide +kernel, by decide +kernel⟩
abbrev sNoneBy : Stmt := topS 25
abbrev nmNoneBy : List Str := ["_law_cell", "_law_least", "_law_far"]
theorem start_NoneBy (v0 v1 : V) : L2.start nmNoneBy [v0, v1] = [some v0, some v1, none] := rfl
theorem scNoneBy : FnScope nmNoneBy ["_law_cell", "_law_least"] (defScope sNoneBy) := ⟨rfl, rfl, rfl, by decide +kernel, rfl, by decide +kernel, by decide +kernel⟩
abbrev sKinds : Stmt := topS 26
abbrev nmKinds : List Str := ["_law_e", "_law_found", "_law_marks", "_law_k"]
theorem start_Kinds (v0 : V) : L2.start nmKinds [v0] = [some v0, none, none, none] := rfl
theorem scKinds : FnScope nmKinds ["_law_e"] (defScope sKinds) := ⟨rfl, rfl, rfl, by decide +kernel, rfl, by decide +kernel, by decide +kernel⟩
abbrev sRefused : Stmt := topS 27
abbrev nmRefused : List Str := ["_law_seats", "_law_patience", "_law_e"]
theorem start_Refused (v0 v1 : V) : L2.start nmRefused [v0, v1] = [some v0, some v1, none] := rfl
theorem scRefused : FnScope nmRefused ["_law_seats", "_law_patience"] (defScope sRefused) := ⟨rfl, rfl, rfl, by decide +kernel, rfl, by decide +kernel, by decide +kernel⟩
abbrev sLaw : Stmt := topS 28
abbrev nmLaw : List Str := ["_law_script", "_law_seats", "_law_patience", "_law_room", "_law_lists", "_law_one"]
theorem start_Law (v0 : V) : L2.start nmLaw [v0] = [some v0, none, none, none, none, none] := rfl
theorem scLaw : FnScope nmLaw ["_law_script"] (defScope sLaw) := ⟨rfl, rfl, rfl, by decide +kernel, rfl, by decide +kernel, by decide +kernel⟩
/-- what is raised, with what each is one of; what is asked of it -/
def chains : List (Str × List Str) := [("BadNumber", ["BadNumber", "RoomError", "ValueError"])]
def askedOf : List Str := ["BadName", "BadWish", "Known", "Stranger", "BadNumber", "Outside", "Inside", "Reads", "Writes", "Asked", "BadText", "BadJournal", "ValueError"]
def kinds : List (Str × Str × Bool) := chains.flatMap fun p => askedOf.map fun y => (p.1, y, decide (y ∈ p.2))
def raised : List Str := ["BadNumber"]
def clsV (K : PySem.W.Frag) (y : Str) : Value := if y = "ValueError" then .type "ValueError" else .ref (He.ga K y)
def excB (K : PySem.W.Frag) (D : Addr) : Bool := decide (PySem.W.findIn K (.ref D) "__getattribute__" = some (some (.builtin "BaseException.__getattribute__"))) && (decide (PySem.W.findIn K (.ref D) "__getattr__" = some none) && (decide (PySem.W.subIn K (.ref D) (.type "BaseException") = some true) &&
  (PySem.W.hasDictIn K D && (decide (PySem.W.findIn K (.ref D) "__class__" = some (some (.builtin "object.__class__"))) && (decide (PySem.W.specialIn K (.builtin "object.__class__") "__get__" = some (some (.builtin "getset_descriptor.__get__"))) &&
  (decide (PySem.W.takesIn K (.builtin "object.__class__") = some true) && decide (PySem.W.mroIn K D (.type "object") = some true)))))))
theorem excB_ok {K : PySem.W.Frag} {D : Addr} (h : excB K D = true) : ExcC K D := by
  unfold excB at h
  simp only [Bool.and_eq_true, decide_eq_true_eq] at h
  exact ⟨h.1, h.2.1, h.2.2.1, h.2.2.2.1, h.2.2.2.2.1, h.2.2.2.2.2.1, h.2.2.2.2.2.2.1, h.2.2.2.2.2.2.2⟩
def exB (K : PySem.W.Frag) : Bool := (kinds.all fun r => decide (PySem.W.kitOne K (.ref (He.ga K r.1)) (clsV K r.2.1) = some r.2.2)) && raised.all fun x => excB K (He.ga K x)
theorem exB_kit {K : PySem.W.Frag} (h : exB K = true) {x y : Str} {b : Bool} (m : (x, y, b) ∈ kinds) : PySem.W.kitOne K (.ref (He.ga K x)) (clsV K y) = some b := of_decide_eq_true (List.all_eq_true.mp (Bool.and_eq_true_iff.mp h).1 _ m)
theorem exB_exc {K : PySem.W.Frag} (h : exB K = true) {x : Str} (m : x ∈ raised) : ExcC K (He.ga K x) := excB_ok (List.all_eq_true.mp (Bool.and_eq_true_iff.mp h).2 _ m)
structure Top (K : PySem.W.Frag) (mg : Str → Option Value) where
  f_IsNumber : Addr
  fd_IsNumber : FuncData
  F_IsNumber : Fun K "is_number" "is_number" sIsNumber f_IsNumber fd_IsNumber
  B_IsNumber : Binds K fd_IsNumber ["thing", "least"] []
  g_IsNumber : mg "is_number" = some (.ref f_IsNumber)
  f_RoomInit : Addr
  fd_RoomInit : FuncData
  F_RoomInit : Fun K "__init__" "Room.__init__" sRoomInit f_RoomInit fd_RoomInit
  B_RoomInit : Binds K fd_RoomInit ["self", "seats", "patience"] []
  K_Room : Mk K (He.ga K "Room") f_RoomInit
  f_ReadersM : Addr
  fd_ReadersM : FuncData
  F_ReadersM : Fun K "readers" "Room.readers" sReadersM f_ReadersM fd_ReadersM
  B_ReadersM : Binds K fd_ReadersM ["self"] []
  M_ReadersM : Meth K (He.ga K "Room") "readers" f_ReadersM
  f_WriterM : Addr
  fd_WriterM : FuncData
  F_WriterM : Fun K "writer" "Room.writer" sWriterM f_WriterM fd_WriterM
  B_WriterM : Binds K fd_WriterM ["self"] []
  M_WriterM : Meth K (He.ga K "Room") "writer" f_WriterM
  f_AskerM : Addr
  fd_AskerM : FuncData
  F_AskerM : Fun K "asker" "Room.asker" sAskerM f_AskerM fd_AskerM
  B_AskerM : Binds K fd_AskerM ["self"] []
  M_AskerM : Meth K (He.ga K "Room") "asker" f_AskerM
  f_LineM : Addr
  fd_LineM : FuncData
  F_LineM : Fun K "line" "Room.line" sLineM f_LineM fd_LineM
  B_LineM : Binds K fd_LineM ["self"] []
  M_LineM : Meth K (He.ga K "Room") "line" f_LineM
  f_JournalM : Addr
  fd_JournalM : FuncData
  F_JournalM : Fun K "journal" "Room.journal" sJournalM f_JournalM fd_JournalM
  B_JournalM : Binds K fd_JournalM ["self"] []
  M_JournalM : Meth K (He.ga K "Room") "journal" f_JournalM
  f_Cell : Addr
  fd_Cell : FuncData
  F_Cell : Fun K "_law_cell_at" "_law_cell_at" sCell f_Cell fd_Cell
  B_Cell : Binds K fd_Cell ["_law_script", "_law_k"] []
  g_Cell : mg "_law_cell_at" = some (.ref f_Cell)
  f_Whole : Addr
  fd_Whole : FuncData
  F_Whole : Fun K "_law_whole" "_law_whole" sWhole f_Whole fd_Whole
  B_Whole : Binds K fd_Whole ["_law_found"] []
  g_Whole : mg "_law_whole" = some (.ref f_Whole)
  f_Num : Addr
  fd_Num : FuncData
  F_Num : Fun K "_law_number_by" "_law_number_by" sNum f_Num fd_Num
  B_Num : Binds K fd_Num ["_law_cell", "_law_least"] []
  g_Num : mg "_law_number_by" = some (.ref f_Num)
  f_NoneBy : Addr
  fd_NoneBy : FuncData
  F_NoneBy : Fun K "_law_none_by" "_law_none_by" sNoneBy f_NoneBy fd_NoneBy
  B_NoneBy : Binds K fd_NoneBy ["_law_cell", "_law_least"] []
  g_NoneBy : mg "_law_none_by" = some (.ref f_NoneBy)
  f_Kinds : Addr
  fd_Kinds : FuncData
  F_Kinds : Fun K "_law_kinds" "_law_kinds" sKinds f_Kinds fd_Kinds
  B_Kinds : Binds K fd_Kinds ["_law_e"] []
  g_Kinds : mg "_law_kinds" = some (.ref f_Kinds)
  f_Refused : Addr
  fd_Refused : FuncData
  F_Refused : Fun K "_law_refused" "_law_refused" sRefused f_Refused fd_Refused
  B_Refused : Binds K fd_Refused ["_law_seats", "_law_patience"] []
  g_Refused : mg "_law_refused" = some (.ref f_Refused)
  f_Law : Addr
  fd_Law : FuncData
  F_Law : Fun K "law" "law" sLaw f_Law fd_Law
  B_Law : Binds K fd_Law ["_law_script"] []
  g_Law : mg "law" = some (.ref f_Law)
  gc_Room : mg "Room" = some (.ref (He.ga K "Room"))
  cl_Room : Cls K (He.ga K "Room")
  n_Room_seats : NoAttr K (He.ga K "Room") "seats"
  n_Room_patience : NoAttr K (He.ga K "Room") "patience"
  n_Room__readers : NoAttr K (He.ga K "Room") "_readers"
  n_Room__writer : NoAttr K (He.ga K "Room") "_writer"
  n_Room__asker : NoAttr K (He.ga K "Room") "_asker"
  n_Room__line : NoAttr K (He.ga K "Room") "_line"
  n_Room__rows : NoAttr K (He.ga K "Room") "_rows"
  gc_BadNumber : mg "BadNumber" = some (.ref (He.ga K "BadNumber"))
  gc_BadName : mg "BadName" = some (.ref (He.ga K "BadName"))
  gc_BadWish : mg "BadWish" = some (.ref (He.ga K "BadWish"))
  gc_Known : mg "Known" = some (.ref (He.ga K "Known"))
  gc_Stranger : mg "Stranger" = some (.ref (He.ga K "Stranger"))
  gc_Outside : mg "Outside" = some (.ref (He.ga K "Outside"))
  gc_Inside : mg "Inside" = some (.ref (He.ga K "Inside"))
  gc_Reads : mg "Reads" = some (.ref (He.ga K "Reads"))
  gc_Writes : mg "Writes" = some (.ref (He.ga K "Writes"))
  gc_Asked : mg "Asked" = some (.ref (He.ga K "Asked"))
  gc_BadText : mg "BadText" = some (.ref (He.ga K "BadText"))
  gc_BadJournal : mg "BadJournal" = some (.ref (He.ga K "BadJournal"))
  gc_RoomError : mg "RoomError" = some (.ref (He.ga K "RoomError"))
  xx_BadNumber : PySem.W.excIn K (He.ga K "BadNumber") [.type "ValueError", .type "Exception", .type "BaseException", .type "object"] "ValueError.__new__" = true ∧ PySem.W.keepIn K (.ref (He.ga K "BadNumber")) = true ∧ PySem.W.subIn K (.ref (He.ga K "BadNumber")) (.type "BaseException") = some true ∧ PySem.W.typeIn K (.ref (He.ga K "BadNumber")) = some (.type "type")
  e_BadNumber_BadNumber : PySem.W.exmOne K (.ref (He.ga K "BadNumber")) (.ref (He.ga K "BadNumber")) = some true
  e_BadNumber_RoomError : PySem.W.exmOne K (.ref (He.ga K "BadNumber")) (.ref (He.ga K "RoomError")) = some true
  m_ValueError : mg "ValueError" = none
  m_bool : mg "bool" = none
  m_int : mg "int" = none
  m_isinstance : mg "isinstance" = none
  m_len : mg "len" = none
  m_list : mg "list" = none
  m_range : mg "range" = none
  t_LEAST_PATIENCE : Tok
  c_LEAST_PATIENCE : mg "LEAST_PATIENCE" = some (.int 0 t_LEAST_PATIENCE)
  t_LEAST_SEATS : Tok
  c_LEAST_SEATS : mg "LEAST_SEATS" = some (.int 1 t_LEAST_SEATS)
  t_MOST : Tok
  c_MOST : mg "MOST" = some (.int 1000000000 t_MOST)
  ex : exB K = true
def dIsNumber : He.DefD := ⟨("is_number", none), "is_number", "is_number", defArgs sIsNumber, defBody sIsNumber, defScope sIsNumber, [], []⟩
def dRoomInit : He.DefD := ⟨("Room", some "__init__"), "__init__", "Room.__init__", defArgs sRoomInit, defBody sRoomInit, defScope sRoomInit, [], []⟩
def dReadersM : He.DefD := ⟨("Room", some "readers"), "readers", "Room.readers", defArgs sReadersM, defBody sReadersM, defScope sReadersM, [], []⟩
def dWriterM : He.DefD := ⟨("Room", some "writer"), "writer", "Room.writer", defArgs sWriterM, defBody sWriterM, defScope sWriterM, [], []⟩
def dAskerM : He.DefD := ⟨("Room", some "asker"), "asker", "Room.asker", defArgs sAskerM, defBody sAskerM, defScope sAskerM, [], []⟩
def dLineM : He.DefD := ⟨("Room", some "line"), "line", "Room.line", defArgs sLineM, defBody sLineM, defScope sLineM, [], []⟩
def dJournalM : He.DefD := ⟨("Room", some "journal"), "journal", "Room.journal", defArgs sJournalM, defBody sJournalM, defScope sJournalM, [], []⟩
def dCell : He.DefD := ⟨("_law_cell_at", none), "_law_cell_at", "_law_cell_at", defArgs sCell, defBody sCell, defScope sCell, [], []⟩
def dWhole : He.DefD := ⟨("_law_whole", none), "_law_whole", "_law_whole", defArgs sWhole, defBody sWhole, defScope sWhole, [], []⟩
def dNum : He.DefD := ⟨("_law_number_by", none), "_law_number_by", "_law_number_by", defArgs sNum, defBody sNum, defScope sNum, [], []⟩
def dNoneBy : He.DefD := ⟨("_law_none_by", none), "_law_none_by", "_law_none_by", defArgs sNoneBy, defBody sNoneBy, defScope sNoneBy, [], []⟩
def dKinds : He.DefD := ⟨("_law_kinds", none), "_law_kinds", "_law_kinds", defArgs sKinds, defBody sKinds, defScope sKinds, [], []⟩
def dRefused : He.DefD := ⟨("_law_refused", none), "_law_refused", "_law_refused", defArgs sRefused, defBody sRefused, defScope sRefused, [], []⟩
def dLaw : He.DefD := ⟨("law", none), "law", "law", defArgs sLaw, defBody sLaw, defScope sLaw, [], []⟩
def fns : List He.DefD := [dIsNumber, dRoomInit, dReadersM, dWriterM, dAskerM, dLineM, dJournalM, dCell, dWhole, dNum, dNoneBy, dKinds, dRefused, dLaw]
def fas : List He.Fa := ([.glo "is_number", .mkr "Room", .meth "Room" "readers", .meth "Room" "writer", .meth "Room" "asker", .meth "Room" "line", .meth "Room" "journal", .glo "_law_cell_at", .glo "_law_whole", .glo "_law_number_by", .glo "_law_none_by", .glo "_law_kinds", .glo "_law_refused", .glo "law", .glo "Room", .cls "Room", .noat "Room" "seats", .noat "Room" "patience", .noat "Room" "_readers", .noat "Room" "_writer", .noat "Room" "_asker", .noat "Room" "_line", .noat "Room" "_rows", .glo "BadNumber", .glo "BadName", .glo "BadWish", .glo "Known", .glo "Stranger"] : List He.Fa) ++ ([.glo "Outside", .glo "Inside", .glo "Reads", .glo "Writes", .glo "Asked", .glo "BadText", .glo "BadJournal", .glo "RoomError", .exc "BadNumber", .exm "BadNumber" "BadNumber" true, .exm "BadNumber" "RoomError" true, .free "ValueError", .free "bool", .free "int", .free "isinstance", .free "len", .free "list", .free "range", .int "LEAST_PATIENCE" 0, .int "LEAST_SEATS" 1, .int "MOST" 1000000000] : List He.Fa)
def tfs : List He.Defn := []
abbrev Rw : PySem.W.OpenRow := PySem.W.OpenLaw.row PySem.Challenge.rw_readwriteroom_k04_rooms_made
abbrev hk : PySem.W.Hook := He.hookX 6 fas fns [] tfs exB
def ob (s : PySem.W.SharedT) : He.AlX := He.obsX 6 fas fns [] tfs exB (HandSHeadRun.getT s)
theorem ob_is (s : PySem.W.SharedT) : ob s = hk.obs s.abs := He.obsX_eq (HandSHeadRun.getT_eq s)
def loose : List PySem.Str := ["_wall", "RoomError", "BadName", "BadWish", "BadNumber", "Known", "Stranger", "Outside", "Inside", "Reads", "Writes", "Asked", "BadText", "BadJournal", "LEAST_SEATS", "LEAST_PATIENCE", "MOST", "is_number", "Room", "_law_cell_at", "_law_whole", "_law_number_by", "_law_none_by", "_law_kinds", "_law_refused"]
set_option maxHeartbeats 0 in
theorem run (w : World) : HandSHeadRun.RunEq Rw (PySem.W.view Rw.prog [28]) hk ob 30000 loose w := by
  intro os
  kernel_rfl
theorem fun_of {K : PySem.W.Frag} {x z : Str} {st : Stmt} {f : Addr} {fd : FuncData} (F : L2.FunD K x z (defArgs st) (defBody st) (defScope st) [] [] f fd) : Fun K x z st f fd := by
  obtain ⟨oc, od, dV, kV, doc, pm, an, cdv, ct, osl, e, lk, hcd, hD, _⟩ := F.ex
  rcases hD with ⟨_, rfl⟩ | ⟨n, _⟩
  · exact ⟨⟨oc, od, kV, doc, pm, an, cdv, ct, osl, e, lk, hcd⟩, F.kp⟩
  · exact absurd rfl n
theorem code_is {K : PySem.W.Frag} {x z : Str} {st : Stmt} {p : He.Defn} {fd : FuncData} (F : Fun K x z st (He.fAd K p) fd) : fd.code = .ref (He.codeOf K p) := by
  obtain ⟨oc, od, kV, doc, pm, an, cdv, ct, osl, rfl, lk, hcd⟩ := F.ex
  obtain ⟨c, rfl⟩ := He.codeIn_ref hcd
  rw [He.codeOf_eq lk rfl]
theorem tab_is {base : Heap} {mg : Str → Option Value} {p : Addr × Addr} (h : LamX.TabB base mg p.1 p.2) : GxR.TabB base mg p.1 p.2 := ⟨h.code, h.bm, h.gP⟩
theorem facts {P : Program} {w : World} {K : PySem.W.Frag} {h : Heap} {mg : Str → Option Value} {fa : Addr} (X : K.In h) (G : h.Ns mainGlobals mg) (hfa : mg "law" = some (.ref fa)) (c : He.SaysX fas fns [] tfs exB w h K) :
    ∃ (T : Top K mg), T.f_Law = fa ∧ (∀ (s : Shared) (v : Value), BindsTo s T.fd_Law ⟨[v], []⟩ [("_law_script", v)]) := by
  obtain ⟨fd_IsNumber, D0⟩ := c.t.d.def_ 0 (d := dIsNumber) rfl
  have F_IsNumber : Fun K "is_number" "is_number" sIsNumber (He.fAd K ("is_number", none)) fd_IsNumber := fun_of D0
  have b_IsNumber := F_IsNumber.binds (ps := ["thing", "least"]) fun _ _ _ _ _ _ us hl => match us, hl with | [_, _], _ => rfl
  obtain ⟨fd_RoomInit, D1⟩ := c.t.d.def_ 1 (d := dRoomInit) rfl
  have F_RoomInit : Fun K "__init__" "Room.__init__" sRoomInit (He.fAd K ("Room", some "__init__")) fd_RoomInit := fun_of D1
  have b_RoomInit := F_RoomInit.binds (ps := ["self", "seats", "patience"]) fun _ _ _ _ _ _ us hl => match us, hl with | [_, _, _], _ => rfl
  obtain ⟨fd_ReadersM, D2⟩ := c.t.d.def_ 2 (d := dReadersM) rfl
  have F_ReadersM : Fun K "readers" "Room.readers" sReadersM (He.fAd K ("Room", some "readers")) fd_ReadersM := fun_of D2
  have b_ReadersM := F_ReadersM.binds (ps := ["self"]) fun _ _ _ _ _ _ us hl => match us, hl with | [_], _ => rfl
  obtain ⟨fd_WriterM, D3⟩ := c.t.d.def_ 3 (d := dWriterM) rfl
  have F_WriterM : Fun K "writer" "Room.writer" sWriterM (He.fAd K ("Room", some "writer")) fd_WriterM := fun_of D3
  have b_WriterM := F_WriterM.binds (ps := ["self"]) fun _ _ _ _ _ _ us hl => match us, hl with | [_], _ => rfl
  obtain ⟨fd_AskerM, D4⟩ := c.t.d.def_ 4 (d := dAskerM) rfl
  have F_AskerM : Fun K "asker" "Room.asker" sAskerM (He.fAd K ("Room", some "asker")) fd_AskerM := fun_of D4
  have b_AskerM := F_AskerM.binds (ps := ["self"]) fun _ _ _ _ _ _ us hl => match us, hl with | [_], _ => rfl
  obtain ⟨fd_LineM, D5⟩ := c.t.d.def_ 5 (d := dLineM) rfl
  have F_LineM : Fun K "line" "Room.line" sLineM (He.fAd K ("Room", some "line")) fd_LineM := fun_of D5
  have b_LineM := F_LineM.binds (ps := ["self"]) fun _ _ _ _ _ _ us hl => match us, hl with | [_], _ => rfl
  obtain ⟨fd_JournalM, D6⟩ := c.t.d.def_ 6 (d := dJournalM) rfl
  have F_JournalM : Fun K "journal" "Room.journal" sJournalM (He.fAd K ("Room", some "journal")) fd_JournalM := fun_of D6
  have b_JournalM := F_JournalM.binds (ps := ["self"]) fun _ _ _ _ _ _ us hl => match us, hl with | [_], _ => rfl
  obtain ⟨fd_Cell, D7⟩ := c.t.d.def_ 7 (d := dCell) rfl
  have F_Cell : Fun K "_law_cell_at" "_law_cell_at" sCell (He.fAd K ("_law_cell_at", none)) fd_Cell := fun_of D7
  have b_Cell := F_Cell.binds (ps := ["_law_script", "_law_k"]) fun _ _ _ _ _ _ us hl => match us, hl with | [_, _], _ => rfl
  obtain ⟨fd_Whole, D8⟩ := c.t.d.def_ 8 (d := dWhole) rfl
  have F_Whole : Fun K "_law_whole" "_law_whole" sWhole (He.fAd K ("_law_whole", none)) fd_Whole := fun_of D8
  have b_Whole := F_Whole.binds (ps := ["_law_found"]) fun _ _ _ _ _ _ us hl => match us, hl with | [_], _ => rfl
  obtain ⟨fd_Num, D9⟩ := c.t.d.def_ 9 (d := dNum) rfl
  have F_Num : Fun K "_law_number_by" "_law_number_by" sNum (He.fAd K ("_law_number_by", none)) fd_Num := fun_of D9
  have b_Num := F_Num.binds (ps := ["_law_cell", "_law_least"]) fun _ _ _ _ _ _ us hl => match us, hl with | [_, _], _ => rfl
  obtain ⟨fd_NoneBy, D10⟩ := c.t.d.def_ 10 (d := dNoneBy) rfl
  have F_NoneBy : Fun K "_law_none_by" "_law_none_by" sNoneBy (He.fAd K ("_law_none_by", none)) fd_NoneBy := fun_of D10
  have b_NoneBy := F_NoneBy.binds (ps := ["_law_cell", "_law_least"]) fun _ _ _ _ _ _ us hl => match us, hl with | [_, _], _ => rfl
  obtain ⟨fd_Kinds, D11⟩ := c.t.d.def_ 11 (d := dKinds) rfl
  have F_Kinds : Fun K "_law_kinds" "_law_kinds" sKinds (He.fAd K ("_law_kinds", none)) fd_Kinds := fun_of D11
  have b_Kinds := F_Kinds.binds (ps := ["_law_e"]) fun _ _ _ _ _ _ us hl => match us, hl with | [_], _ => rfl
  obtain ⟨fd_Refused, D12⟩ := c.t.d.def_ 12 (d := dRefused) rfl
  have F_Refused : Fun K "_law_refused" "_law_refused" sRefused (He.fAd K ("_law_refused", none)) fd_Refused := fun_of D12
  have b_Refused := F_Refused.binds (ps := ["_law_seats", "_law_patience"]) fun _ _ _ _ _ _ us hl => match us, hl with | [_, _], _ => rfl
  obtain ⟨fd_Law, D13⟩ := c.t.d.def_ 13 (d := dLaw) rfl
  have F_Law : Fun K "law" "law" sLaw (He.fAd K ("law", none)) fd_Law := fun_of D13
  have b_Law := F_Law.binds (ps := ["_law_script"]) fun _ _ _ _ _ _ us hl => match us, hl with | [_], _ => rfl
  obtain ⟨t_LEAST_PATIENCE, y_LEAST_PATIENCE⟩ := He.int_ok X G (c.t.d.fact 46 (f := .int "LEAST_PATIENCE" 0) rfl)
  obtain ⟨t_LEAST_SEATS, y_LEAST_SEATS⟩ := He.int_ok X G (c.t.d.fact 47 (f := .int "LEAST_SEATS" 1) rfl)
  obtain ⟨t_MOST, y_MOST⟩ := He.int_ok X G (c.t.d.fact 48 (f := .int "MOST" 1000000000) rfl)
  have e := hfa.symm.trans (He.glo_ok X G (c.t.d.fact 13 (f := .glo "law") rfl))
  have b := FunD.bindsA (ps := ["_law_script"]) D13 fun _ _ _ _ _ _ us hl => match us, hl with | [_], _ => rfl
  exact ⟨⟨_, fd_IsNumber, F_IsNumber, b_IsNumber, He.glo_ok X G (c.t.d.fact 0 (f := .glo "is_number") rfl), _, fd_RoomInit, F_RoomInit, b_RoomInit, He.mkr_ok (c.t.d.fact 1 (f := .mkr "Room") rfl), _, fd_ReadersM, F_ReadersM, b_ReadersM, He.meth_ok (c.t.d.fact 2 (f := .meth "Room" "readers") rfl), _, fd_WriterM, F_WriterM, b_WriterM, He.meth_ok (c.t.d.fact 3 (f := .meth "Room" "writer") rfl), _, fd_AskerM, F_AskerM, b_AskerM, He.meth_ok (c.t.d.fact 4 (f := .meth "Room" "asker") rfl), _, fd_LineM, F_LineM, b_LineM, He.meth_ok (c.t.d.fact 5 (f := .meth "Room" "line") rfl), _, fd_JournalM, F_JournalM, b_JournalM, He.meth_ok (c.t.d.fact 6 (f := .meth "Room" "journal") rfl), _, fd_Cell, F_Cell, b_Cell, He.glo_ok X G (c.t.d.fact 7 (f := .glo "_law_cell_at") rfl), _, fd_Whole, F_Whole, b_Whole, He.glo_ok X G (c.t.d.fact 8 (f := .glo "_law_whole") rfl), _, fd_Num, F_Num, b_Num, He.glo_ok X G (c.t.d.fact 9 (f := .glo "_law_number_by") rfl), _, fd_NoneBy, F_NoneBy, b_NoneBy, He.glo_ok X G (c.t.d.fact 10 (f := .glo "_law_none_by") rfl), _, fd_Kinds, F_Kinds, b_Kinds, He.glo_ok X G (c.t.d.fact 11 (f := .glo "_law_kinds") rfl), _, fd_Refused, F_Refused, b_Refused, He.glo_ok X G (c.t.d.fact 12 (f := .glo "_law_refused") rfl), _, fd_Law, F_Law, b_Law, He.glo_ok X G (c.t.d.fact 13 (f := .glo "law") rfl), He.glo_ok X G (c.t.d.fact 14 (f := .glo "Room") rfl), He.cls_ok (c.t.d.fact 15 (f := .cls "Room") rfl), He.noat_ok (c.t.d.fact 16 (f := .noat "Room" "seats") rfl), He.noat_ok (c.t.d.fact 17 (f := .noat "Room" "patience") rfl), He.noat_ok (c.t.d.fact 18 (f := .noat "Room" "_readers") rfl), He.noat_ok (c.t.d.fact 19 (f := .noat "Room" "_writer") rfl), He.noat_ok (c.t.d.fact 20 (f := .noat "Room" "_asker") rfl), He.noat_ok (c.t.d.fact 21 (f := .noat "Room" "_line") rfl), He.noat_ok (c.t.d.fact 22 (f := .noat "Room" "_rows") rfl), He.glo_ok X G (c.t.d.fact 23 (f := .glo "BadNumber") rfl), He.glo_ok X G (c.t.d.fact 24 (f := .glo "BadName") rfl), He.glo_ok X G (c.t.d.fact 25 (f := .glo "BadWish") rfl), He.glo_ok X G (c.t.d.fact 26 (f := .glo "Known") rfl), He.glo_ok X G (c.t.d.fact 27 (f := .glo "Stranger") rfl), He.glo_ok X G (c.t.d.fact 28 (f := .glo "Outside") rfl), He.glo_ok X G (c.t.d.fact 29 (f := .glo "Inside") rfl), He.glo_ok X G (c.t.d.fact 30 (f := .glo "Reads") rfl), He.glo_ok X G (c.t.d.fact 31 (f := .glo "Writes") rfl), He.glo_ok X G (c.t.d.fact 32 (f := .glo "Asked") rfl), He.glo_ok X G (c.t.d.fact 33 (f := .glo "BadText") rfl), He.glo_ok X G (c.t.d.fact 34 (f := .glo "BadJournal") rfl), He.glo_ok X G (c.t.d.fact 35 (f := .glo "RoomError") rfl), He.exc_ok (c.t.d.fact 36 (f := .exc "BadNumber") rfl), He.exm_ok (c.t.d.fact 37 (f := .exm "BadNumber" "BadNumber" true) rfl), He.exm_ok (c.t.d.fact 38 (f := .exm "BadNumber" "RoomError" true) rfl), He.free_ok X G (c.t.d.fact 39 (f := .free "ValueError") rfl), He.free_ok X G (c.t.d.fact 40 (f := .free "bool") rfl), He.free_ok X G (c.t.d.fact 41 (f := .free "int") rfl), He.free_ok X G (c.t.d.fact 42 (f := .free "isinstance") rfl), He.free_ok X G (c.t.d.fact 43 (f := .free "len") rfl), He.free_ok X G (c.t.d.fact 44 (f := .free "list") rfl), He.free_ok X G (c.t.d.fact 45 (f := .free "range") rfl), t_LEAST_PATIENCE, y_LEAST_PATIENCE, t_LEAST_SEATS, y_LEAST_SEATS, t_MOST, y_MOST, c.more⟩, (Value.ref.inj (Option.some.inj e)).symm, fun s v => b s [v] rfl⟩

/-! ### deeds that the law draws -/
/-- a number of this script: some number in its bounds -/
def spBnd (K : PySem.W.Frag) (least : Int) (f : List Int → Int) : Sp := fun vs H Q _ => ∃ (a : Addr) (ns : List Int), vs = [.ref a] ∧ SqL K H a (ns.map V.int) ∧ RV (.int (f ns)) H Q
theorem sv_bnd {K : PySem.W.Frag} {least : Int} {f : List Int → Int} {H : Hp} {a : Addr} {ns : List Int} (h : SqL K H a (ns.map V.int)) : SpV (spBnd K least f) [.ref a] H (.int (f ns)) := fun H1 Q E g q => ⟨a, ns, rfl, g.sl h, q⟩
def seatsOf (ns : List Int) : Int :=
  if ((cellAt ns 4).fmod 8 = 1 ∨ (cellAt ns 4).fmod 8 = 3) ∧ (cellAt ns 0).fmod 2 = 1 then 1 + ((cellAt ns 0).fdiv 2).fmod 80 else numBy (cellAt ns 0) 1
def patienceOf (ns : List Int) : Int :=
  if (cellAt ns 4).fmod 8 = 2 ∧ (cellAt ns 1).fmod 2 = 1 then ((cellAt ns 1).fdiv 2).fmod 120 else numBy (cellAt ns 1) 0
theorem seatsOf_in (ns : List Int) : 1 ≤ seatsOf ns ∧ seatsOf ns ≤ 10 ^ 9 := by
  have b := fmod_in ((cellAt ns 0).fdiv 2) (m := 80) (by decide)
  have n := numBy_in (cellAt ns 0) 1 (.inr rfl)
  unfold seatsOf
  split <;> omega
theorem patienceOf_in (ns : List Int) : 0 ≤ patienceOf ns ∧ patienceOf ns ≤ 10 ^ 9 := by
  have b := fmod_in ((cellAt ns 1).fdiv 2) (m := 120) (by decide)
  have n := numBy_in (cellAt ns 1) 0 (.inl rfl)
  unfold patienceOf
  split <;> omega
/-- a deed: its word, a name, a wish -/
structure Deed where
  word : Str
  who : Str
  wish : Str
def Deed.vs (d : Deed) : List V := [.str d.word, .str d.who, .str d.wish]
abbrev wCame : Str := "came"
abbrev wLeft : Str := "left"
abbrev wAsked : Str := "asked"
abbrev wEased : Str := "eased"
def Deed.good (d : Deed) : Prop := (d.word = wCame ∨ d.word = wLeft ∨ d.word = wAsked ∨ d.word = wEased) ∧ nameB d.who = true ∧ (d.wish = rd ∨ d.wish = wr)
/-- a new list of good deeds -/
def Deeds (H0 : Hp) (v : V) (H : Hp) : Prop := ∃ (p : Addr) (vs : List V) (ds : List Deed), v = .ref p ∧ H0 p = none ∧ H p = some (.lst vs) ∧ TupsAt H Deed.vs vs ds ∧ ds.length ≤ 300 ∧ ∀ d ∈ ds, d.good
def spCrowd (K : PySem.W.Frag) : Sp := fun vs H Q _ => ∃ (a : Addr) (ns : List Int) (n : Nat), vs = [.ref a, .int (n : Int)] ∧ SqL K H a (ns.map V.int) ∧ 1 ≤ n ∧ n ≤ 12 ∧ RR_ (Deeds H) H Q
/-- a list of some names, none or more -/
def SomeNames (v : V) (H : Hp) : Prop := ∃ (p : Addr) (ss : List Str), v = .ref p ∧ H p = some (.lst (ss.map V.str)) ∧ 1 ≤ ss.length ∧ ss.length ≤ 80 ∧ ∀ s ∈ ss, nameB s = true
def spNames (K : PySem.W.Frag) : Sp := fun vs H Q _ => ∃ (a : Addr) (ns : List Int) (n : Nat), vs = [.ref a, .int (n : Int)] ∧ SqL K H a (ns.map V.int) ∧ 1 ≤ n ∧ n ≤ 12 ∧ RR_ SomeNames H Q
def spDeedBy (K : PySem.W.Frag) : Sp := fun vs H Q _ => ∃ (c : Int) (pp pi pw : Addr) (ps is_ ws : List Str), vs = [.int c, .ref pp, .ref pi, .ref pw] ∧ SqL K H pp (ps.map V.str) ∧ SqL K H pi (is_.map V.str) ∧ SqL K H pw (ws.map V.str) ∧ 1 ≤ ps.length ∧ ps.length ≤ 1000 ∧ is_.length ≤ 40000 ∧ ws.length ≤ 40000 ∧
  (∀ s ∈ ps, nameB s = true) ∧ (∀ s ∈ is_, nameB s = true) ∧ RR_ (fun v H1 => ∃ p d, v = .ref p ∧ H1 p = some (.tup (Deed.vs d)) ∧ d.good) H Q

/-- pairs of texts -/
def P2.vs (p : Str × Str) : List V := [.str p.1, .str p.2]
def spPairs : Sp := fun vs H Q _ => ∃ (p : Addr) (xs : List V) (l : List (Str × Str)), vs = [.ref p] ∧ H p = some (.lst xs) ∧ TupsAt H P2.vs xs l ∧ RV (.bl true) H Q
def spTexts : Sp := fun vs H Q _ => ∃ (p : Addr) (l : List Str), vs = [.ref p] ∧ H p = some (.lst (l.map V.str)) ∧ RV (.bl true) H Q
def spWhole : Sp := fun vs H Q _ => ∃ i : Int, vs = [.int i] ∧ RV (.bl true) H Q

/-! ### the plain lists of the law: who reads, who writes, who asked, who waits -/
structure QE where
  who : Str
  wish : Str
  often : Nat
def QE.vs (e : QE) : List V := [.str e.who, .str e.wish, .int e.often]
structure Now where
  queue : List QE
  reading : List Str
  alone : Option Str
  asked : Option Str
def optV : Option Str → V
  | none => .non
  | some s => .str s
theorem scal_opt (o : Option Str) (s : Str) : scal (optV o) (.str s) = true := by cases o <;> rfl
theorem optV_is (o : Option Str) (s : Str) : decide (optV o = .str s) = decide (o = some s) := by
  cases o with
  | none => rfl
  | some t =>
    refine decide_eq_decide.mpr ⟨fun h => ?_, fun h => ?_⟩
    · cases h
      rfl
    · cases h
      rfl
theorem optV_non (o : Option Str) : decide (optV o = .non) = decide (o = none) := by cases o <;> rfl
def nowD (q r a k : V) : List (Key × V) := [(.inr "queue", q), (.inr "reading", r), (.inr "alone", a), (.inr "asked", k)]
theorem keys_ne : (("queue" : Str) = "reading") = False ∧ (("queue" : Str) = "alone") = False ∧ (("queue" : Str) = "asked") = False ∧ (("reading" : Str) = "queue") = False ∧ (("reading" : Str) = "alone") = False ∧ (("reading" : Str) = "asked") = False ∧
    (("alone" : Str) = "queue") = False ∧ (("alone" : Str) = "reading") = False ∧ (("alone" : Str) = "asked") = False ∧ (("asked" : Str) = "queue") = False ∧ (("asked" : Str) = "reading") = False ∧ (("asked" : Str) = "alone") = False := by
  refine ⟨?_, ?_, ?_, ?_, ?_, ?_, ?_, ?_, ?_, ?_, ?_, ?_⟩ <;> exact eq_false (by decide +kernel)
section
variable {q r a k v : V}
theorem get_q : valV (nowD q r a k) (.inr "queue" : Key) = some q := by
  obtain ⟨h1, h2, h3, h4, h5, h6, h7, h8, h9, h10, h11, h12⟩ := keys_ne
  simp [valV, nowD]
theorem get_r : valV (nowD q r a k) (.inr "reading" : Key) = some r := by
  obtain ⟨h1, h2, h3, h4, h5, h6, h7, h8, h9, h10, h11, h12⟩ := keys_ne
  simp [valV, nowD, List.find?_cons, h1]
theorem get_a : valV (nowD q r a k) (.inr "alone" : Key) = some a := by
  obtain ⟨h1, h2, h3, h4, h5, h6, h7, h8, h9, h10, h11, h12⟩ := keys_ne
  simp [valV, nowD, List.find?_cons, h2, h5]
theorem get_k : valV (nowD q r a k) (.inr "asked" : Key) = some k := by
  obtain ⟨h1, h2, h3, h4, h5, h6, h7, h8, h9, h10, h11, h12⟩ := keys_ne
  simp [valV, nowD, List.find?_cons, h3, h6, h9]
theorem put_q : putK (nowD q r a k) (.inr "queue" : Key) v = nowD v r a k := by
  obtain ⟨h1, h2, h3, h4, h5, h6, h7, h8, h9, h10, h11, h12⟩ := keys_ne
  simp [putK, nowD, h4, h7, h10]
theorem put_r : putK (nowD q r a k) (.inr "reading" : Key) v = nowD q v a k := by
  obtain ⟨h1, h2, h3, h4, h5, h6, h7, h8, h9, h10, h11, h12⟩ := keys_ne
  simp [putK, nowD, h1, h8, h11]
theorem put_a : putK (nowD q r a k) (.inr "alone" : Key) v = nowD q r v k := by
  obtain ⟨h1, h2, h3, h4, h5, h6, h7, h8, h9, h10, h11, h12⟩ := keys_ne
  simp [putK, nowD, h2, h5, h12]
theorem put_k : putK (nowD q r a k) (.inr "asked" : Key) v = nowD q r a v := by
  obtain ⟨h1, h2, h3, h4, h5, h6, h7, h8, h9, h10, h11, h12⟩ := keys_ne
  simp [putK, nowD, h3, h6, h9]
end
/-- these plain lists stand at p -/
def NowAt (L : Addr → Prop) (H : Hp) (p : Addr) (s : Now) : Prop := ∃ (q r : Addr) (xs : List V), H p = some (.dK (nowD (.ref q) (.ref r) (optV s.alone) (optV s.asked))) ∧ H q = some (.lst xs) ∧ TupsAt H QE.vs xs s.queue ∧ H r = some (.lst (s.reading.map V.str)) ∧ ¬ L p ∧ ¬ L q ∧ ¬ L r
def noL : Addr → Prop := fun _ => False
theorem NowAt.any {L : Addr → Prop} {H : Hp} {p : Addr} {s : Now} (h : NowAt L H p s) : NowAt noL H p s := let ⟨q, r, xs, h1, h2, h3, h4, _, _, _⟩ := h; ⟨q, r, xs, h1, h2, h3, h4, id, id, id⟩
/-- all of L is taken -/
def Live (L : Addr → Prop) (H : Hp) : Prop := ∀ b, L b → H b ≠ none
theorem Live.new {L : Addr → Prop} {H H' : Hp} {x : Addr} (l : Live L H) (g : Gr H H') (h : H' x = none) : ¬ L x := fun z => l x z (g.free h)
theorem Live.mono {L : Addr → Prop} {H H' : Hp} (l : Live L H) (g : Gr H H') : Live L H' := fun b z w => l b z (g.free w)
theorem Gr.dK {H H' : Hp} {a : Addr} {kvs : List (Key × V)} (x : Gr H H') (h : H a = some (.dK kvs)) : H' a = some (.dK kvs) := x.at_ h fun _ e => by cases e
theorem NowAt.mono {L : Addr → Prop} {H H' : Hp} {p : Addr} {s : Now} (g : Gr H H') (h : NowAt L H p s) : NowAt L H' p s := let ⟨q, r, xs, h1, h2, h3, h4, l⟩ := h; ⟨q, r, xs, g.dK h1, g.lst h2, h3.mono g, g.lst h4, l⟩
section
variable {K : PySem.W.Frag} {σ : L2.St} {H H' : Hp} {t1 t2 t3 : TE} {c1 c2 : TT} {x y z v : V} {D : Ends} {u1 u2 : TS}
theorem v_dget {p : Addr} {kvs : List (Key × V)} {k : Str} (h : Vl t1 σ H (.ref p)) (hd : H p = some (.dK kvs)) (e : valV kvs (.inr k) = some v) : Vl (tDGet t1 (tC (.str k))) σ H v := fun H1 Q g q => h H1 _ g fun H2 g2 => ⟨p, v, rfl, e ▸ DGet.k (k := .inr k) ((g.trans g2).dK hd), q H2 g2⟩
theorem v_nowQ {p q r : Addr} {a k : V} (h : Vl t1 σ H (.ref p)) (hd : H p = some (.dK (nowD (.ref q) (.ref r) a k))) : Vl (tDGet t1 (tC (.str "queue"))) σ H (.ref q) := v_dget h hd get_q
theorem v_nowR {p : Addr} {q r a k : V} (h : Vl t1 σ H (.ref p)) (hd : H p = some (.dK (nowD q r a k))) : Vl (tDGet t1 (tC (.str "reading"))) σ H r := v_dget h hd get_r
theorem v_nowA {p : Addr} {q r a k : V} (h : Vl t1 σ H (.ref p)) (hd : H p = some (.dK (nowD q r a k))) : Vl (tDGet t1 (tC (.str "alone"))) σ H a := v_dget h hd get_a
theorem v_nowK {p : Addr} {q r a k : V} (h : Vl t1 σ H (.ref p)) (hd : H p = some (.dK (nowD q r a k))) : Vl (tDGet t1 (tC (.str "asked"))) σ H k := v_dget h hd get_k
theorem S_dputR {R : V → Hp → Prop} {p : Addr} {kvs : List (Key × V)} {k : Str} (hv : Vr t2 σ H R) (hp : Vl t1 σ H (.ref p)) (hd : H p = some (.dK kvs)) (n : kvs.length ≤ 1000) (mono : ∀ {v H1 H2}, Gr H1 H2 → R v H1 → R v H2)
    (q : ∀ v H1, Gr H H1 → R v H1 → D.nx σ (upd H1 p (.dK (putK kvs (.inr k) v)))) : sDPut t1 (tC (.str k)) t2 D σ H := hv H _ (.refl _) fun v H1 g1 hr => hp H1 _ g1 fun H2 g2 => ⟨p, _, rfl, DPut.k (k := .inr k) ((g1.trans g2).dK hd) (Nat.lt_of_le_of_lt n (by decide)), q v H2 (g1.trans g2) (mono g2 hr)⟩
theorem S_dput {p : Addr} {kvs : List (Key × V)} {k : Str} (hv : Vl t2 σ H v) (hp : Vl t1 σ H (.ref p)) (hd : H p = some (.dK kvs)) (n : kvs.length ≤ 1000) (q : ∀ H1, Gr H H1 → D.nx σ (upd H1 p (.dK (putK kvs (.inr k) v)))) : sDPut t1 (tC (.str k)) t2 D σ H :=
  S_dputR hv.toR hp hd n (fun _ h => h) fun w H1 g e => e ▸ q H1 g
theorem B_dput {p : Addr} {kvs : List (Key × V)} {k : Str} (hv : Vl t2 σ H v) (hp : Vl t1 σ H (.ref p)) (hd : H p = some (.dK kvs)) (n : kvs.length ≤ 1000) (q : ∀ H1, Gr H H1 → u1 D σ (upd H1 p (.dK (putK kvs (.inr k) v)))) : tSeq (sDPut t1 (tC (.str k)) t2) u1 D σ H := S_dput (D := { D with nx := u1 D }) hv hp hd n q
theorem B_dputR {R : V → Hp → Prop} {p : Addr} {kvs : List (Key × V)} {k : Str} (hv : Vr t2 σ H R) (hp : Vl t1 σ H (.ref p)) (hd : H p = some (.dK kvs)) (n : kvs.length ≤ 1000) (mono : ∀ {v H1 H2}, Gr H1 H2 → R v H1 → R v H2)
    (q : ∀ v H1, Gr H H1 → R v H1 → u1 D σ (upd H1 p (.dK (putK kvs (.inr k) v)))) : tSeq (sDPut t1 (tC (.str k)) t2) u1 D σ H := S_dputR (D := { D with nx := u1 D }) hv hp hd n mono q
theorem flat_strs : ∀ l : List Str, (l.map V.str).all flatV = true
  | [] => rfl
  | _ :: l => by rw [List.map_cons, List.all_cons, flat_strs l]; rfl
theorem in_strs (z : Str) (l : List Str) : inV (.str z) (l.map V.str) = decide (z ∈ l) := by
  unfold inV
  rw [Bool.eq_iff_iff, List.any_eq_true, decide_eq_true_eq]
  have e : ∀ a b : Str, eqV (.str a) (.str b) = decide (V.str b = V.str a) := fun a b => by
    rw [dec_str]
    exact Bool.beq_comm ..
  constructor
  · rintro ⟨u, hu, h⟩
    obtain ⟨s, hs, rfl⟩ := List.mem_map.mp hu
    rw [e] at h
    have := V.str.inj (of_decide_eq_true h)
    rw [this]
    exact hs
  · intro h
    exact ⟨.str z, List.mem_map.mpr ⟨z, h, rfl⟩, by rw [e]; exact decide_eq_true rfl⟩
end
/-! ### what the law says of them -/
def Now.known (s : Now) (w : Str) : Bool := decide (w ∈ s.reading) || (decide (s.alone = some w) || decide (w ∈ s.queue.map QE.who))
def Now.refused (s : Now) (d : Deed) : Bool :=
  if d.word = wCame then s.known d.who else
  if d.word = wLeft then !s.known d.who else
  if d.word = wAsked then !decide (d.who ∈ s.reading) || decide (s.asked ≠ none) else
  decide (s.alone = none) || decide (s.alone ≠ some d.who)
def Now.small (s : Now) : Prop := s.queue.length ≤ 10000 ∧ s.reading.length ≤ 10000
def spKnown : Sp := fun vs H Q _ => ∃ (p : Addr) (s : Now) (w : Str), vs = [.ref p, .str w] ∧ NowAt noL H p s ∧ s.small ∧ RV (.bl (s.known w)) H Q
theorem sv_known {H : Hp} {p : Addr} {s : Now} {w : Str} (h : NowAt noL H p s) (n : s.small) : SpV spKnown [.ref p, .str w] H (.bl (s.known w)) := fun H1 Q E g q => ⟨p, s, w, rfl, h.mono g, n, q⟩
def spRefused : Sp := fun vs H Q _ => ∃ (p pd : Addr) (s : Now) (d : Deed), vs = [.ref p, .ref pd] ∧ NowAt noL H p s ∧ s.small ∧ H pd = some (.tup d.vs) ∧ RV (.bl (s.refused d)) H Q
def Now.inside (s : Now) : List Str := match s.alone with
  | none => s.reading
  | some a => [a]
def spInside : Sp := fun vs H Q _ => ∃ (p : Addr) (s : Now), vs = [.ref p] ∧ NowAt noL H p s ∧ RR_ (fun v H1 => ∃ r, v = .ref r ∧ H1 r = some (.lst (s.inside.map V.str))) H Q
def Deed.row (d : Deed) : JRow := if d.word = wCame then [d.word, d.who, d.wish] else [d.word, d.who]
def NewTup (H : Hp) (ts : List V) (v : V) (H1 : Hp) : Prop := ∃ t, v = .ref t ∧ H t = none ∧ H1 t = some (.tup ts)
def spRowF : Sp := fun vs H Q _ => ∃ (pd : Addr) (d : Deed), vs = [.ref pd] ∧ H pd = some (.tup d.vs) ∧ RR_ (NewTup H d.row.vs) H Q
/-- who begins from this place -/
def Now.pair (s : Now) (i : Int) (a b : Str) : Prop := (i = -1 ∧ s.asked = some a ∧ b = wr) ∨ ∃ (m : Nat) (e : QE), i = m ∧ s.queue[m]? = some e ∧ a = e.who ∧ b = e.wish
def spPair : Sp := fun vs H Q _ => ∃ (p : Addr) (s : Now) (i : Int) (a b : Str), vs = [.ref p, .int i] ∧ NowAt noL H p s ∧ s.pair i a b ∧ RR_ (NewTup H [.str a, .str b]) H Q
def Now.none : Now := ⟨[], [], Option.none, Option.none⟩
def NewNow (L : Addr → Prop) (H : Hp) (s : Now) (v : V) (H1 : Hp) : Prop := ∃ p, v = .ref p ∧ H p = .none ∧ NowAt L H1 p s
def spFresh : Sp := fun vs H Q _ => ∃ L : Addr → Prop, vs = [] ∧ Live L H ∧ RR_ (NewNow L H Now.none) H Q
/-! ### what a deed does, who begins next -/
def Now.done (s : Now) (d : Deed) : Now :=
  if d.word = wCame then { s with queue := s.queue ++ [⟨d.who, d.wish, 0⟩] } else
  if d.word = wAsked then { s with asked := some d.who } else
  if d.word = wEased then { s with alone := .none, reading := [d.who] } else
  ⟨s.queue.filter (fun e => decide (e.who ≠ d.who)), s.reading.filter (fun x => decide (x ≠ d.who)), if s.alone = some d.who then .none else s.alone, if s.asked = some d.who then .none else s.asked⟩
def scan (pat : Int) : List QE → Nat → Option Nat
  | [], _ => .none
  | e :: l, k => if e.wish = rd then some k else if pat ≤ (e.often : Int) then .none else scan pat l (k + 1)
def Now.next (s : Now) (seats pat : Int) : Option Int :=
  match s.asked with
  | some a => if s.reading = [a] then some (-1) else .none
  | .none => match s.queue with
    | [] => .none
    | e :: _ =>
      if s.alone ≠ .none then .none else
      if e.wish = wr ∧ s.reading = [] then some 0 else
      if seats ≤ (s.reading.length : Int) then .none else
      (scan pat s.queue 0).map fun k => (k : Int)
def QE.bump (e : QE) : QE := ⟨e.who, e.wish, e.often + 1⟩
def Now.began (s : Now) (i : Int) : Now :=
  if i < 0 then { s with alone := s.asked, asked := .none, reading := [] } else
  match s.queue[i.toNat]? with
  | .none => s
  | some e =>
    let q := (s.queue.take i.toNat).map QE.bump ++ s.queue.drop (i.toNat + 1)
    if e.wish = rd then { s with queue := q, reading := s.reading ++ [e.who] } else { s with queue := q, alone := some e.who }
def optI : Option Int → V
  | .none => .non
  | some i => .int i
def Now.good (s : Now) : Prop := s.small ∧ (∀ e ∈ s.queue, nameB e.who = true ∧ (e.wish = rd ∨ e.wish = wr)) ∧ (∀ x ∈ s.reading, nameB x = true) ∧ (∀ x, s.alone = some x → nameB x = true) ∧ ∀ x, s.asked = some x → nameB x = true
def spDone : Sp := fun vs H Q _ => ∃ (L : Addr → Prop) (p pd : Addr) (s : Now) (d : Deed), vs = [.ref p, .ref pd] ∧ Live L H ∧ NowAt L H p s ∧ s.small ∧ H pd = some (.tup d.vs) ∧ d.good ∧ RR_ (NewNow L H (s.done d)) H Q
def spBegan : Sp := fun vs H Q _ => ∃ (L : Addr → Prop) (p : Addr) (s : Now) (i : Int), vs = [.ref p, .int i] ∧ Live L H ∧ NowAt L H p s ∧ s.small ∧ (i = -1 ∨ ∃ m : Nat, i = m ∧ m < s.queue.length) ∧ RR_ (NewNow L H (s.began i)) H Q
def spNext : Sp := fun vs H Q _ => ∃ (p : Addr) (s : Now) (seats pat : Int), vs = [.ref p, .int seats, .int pat] ∧ NowAt noL H p s ∧ s.good ∧ RV (optI (s.next seats pat)) H Q
def qsD (l : List QE) : List PyData := l.map fun e => .tuple [.str e.who, .str e.wish, .int e.often]
theorem dps_qs {K : PySem.W.Frag} {H : Hp} : ∀ {vs : List V} {l : List QE}, TupsAt H QE.vs vs l → DpAll K H vs (qsD l)
  | _, _, .nil => .nil
  | _, _, .cons h t => .cons (.tup (SqT.of h) (.cons (.str _) (.cons (.str _) (.cons (.int _) .nil)))) (dps_qs t)
theorem wish_asc {w : Str} (h : w = rd ∨ w = wr) : Asc w := (word_asc (w := w) (by rcases h with rfl | rfl <;> decide)).1
theorem canLay_qs : ∀ l : List QE, (∀ e ∈ l, nameB e.who = true ∧ (e.wish = rd ∨ e.wish = wr)) → PyData.canLayAll0 (qsD l) = true
  | [], _ => by simp [qsD, PyData.canLayAll0]
  | e :: l, h => by
    have t := canLay_qs l fun b hb => h b (List.mem_cons_of_mem _ hb)
    have a1 := (nameB_is (h e List.mem_cons_self).1).2.2.asc.ok
    have a2 := (wish_asc (h e List.mem_cons_self).2).ok
    unfold qsD at t ⊢
    rw [List.map_cons]
    simp [PyData.canLayAll0, PyData.canLay0, t, a1, a2]
theorem depth_qs : ∀ l : List QE, PyData.depthAll (qsD l) ≤ 1
  | [] => by simp [qsD, PyData.depthAll]
  | e :: l => by
    have t := depth_qs l
    unfold qsD at t ⊢
    rw [List.map_cons]
    simp only [PyData.depthAll, PyData.depth]
    omega
theorem shaped_qs (l : List QE) (h : ∀ e ∈ l, nameB e.who = true ∧ (e.wish = rd ∨ e.wish = wr)) : SeqAt.shaped (.list (qsD l)) = true := by
  have a := canLay_qs l h
  have b := depth_qs l
  unfold SeqAt.shaped
  rw [show PyData.canLay0 (.list (qsD l)) = PyData.canLayAll0 (qsD l) by simp [PyData.canLay0], a, Bool.true_and]
  refine decide_eq_true ?_
  simp only [PyData.depth]
  omega
theorem eqv_strs : ∀ l m : List Str, PyData.eqvAll (l.map PyData.str) (m.map PyData.str) = decide (l = m)
  | [], [] => by simp [PyData.eqvAll]
  | [], _ :: _ => by simp [PyData.eqvAll]
  | _ :: _, [] => by simp [PyData.eqvAll]
  | a :: l, b :: m => by
    have t := eqv_strs l m
    rw [List.map_cons, List.map_cons]
    simp only [PyData.eqvAll, PyData.eqv, t]
    rw [Bool.eq_iff_iff]
    simp
theorem eqv_strL (l m : List Str) : PyData.eqv (.list (l.map PyData.str)) (.list (m.map PyData.str)) = decide (l = m) := by
  rw [PyData.eqv]
  exact eqv_strs l m
section
variable {K : PySem.W.Frag} {σ : L2.St} {H H' : Hp} {t1 t2 t3 : TE} {c1 c2 : TT} {x y z v : V} {D : Ends} {u1 u2 : TS}
/-- dict(d) -/
theorem r_dict {p : Addr} {kvs : List (Key × V)} (h : Vl t1 σ H (.ref p)) (hd : H p = some (.dK kvs)) :
    Vr (tCB (fun xs H Q => ∃ (a : Addr) (kvs : List (Key × V)), xs = [.ref a] ∧ Rd H a (.dK kvs) ∧ ∀ p, H p = none → Q (.ref p) (upd H p (.dK kvs))) (tCons t1 tNil)) σ H (fun v H1 => ∃ n, v = .ref n ∧ H n = none ∧ H1 n = some (.dK kvs)) :=
  fun H1 Q g q => h H1 _ g fun H2 g2 => ⟨p, kvs, rfl, .inl ((g.trans g2).dK hd), fun n hn => q _ _ (g2.trans (.new hn)) ⟨n, rfl, (g.trans g2).free hn, upd_same⟩⟩
/-- xs + [(..)] -/
theorem r_catU {p : Addr} {xs ts : List V} (h : Vl t1 σ H (.ref p)) (hp : H p = some (.lst xs)) (h2 : Tu t2 σ H ts) (n : xs.length ≤ 50000) :
    Vr (tOp rCat t1 (tLst (tCons t2 tNil))) σ H (fun v H1 => ∃ l t, v = .ref l ∧ H l = none ∧ H1 l = some (.lst (xs ++ [.ref t])) ∧ H1 t = some (.tup ts)) :=
  fun H1 Q g q => h H1 _ g fun H2 g2 => h2 H2 _ (g.trans g2) fun t H3 ht g3 e3 => ⟨small (show 1 ≤ 100000 by decide), fun l hl => ⟨p, l, xs, [.ref t], rfl, rfl, (upd_ne (ne_of_none (((g.trans g2).trans g3).lst hp) hl)).trans (((g.trans g2).trans g3).lst hp), upd_same, small (show xs.length + 1 ≤ 100000 by omega), fun l2 hl2 =>
    q _ _ ((g2.trans g3).trans ((Gr.new hl).trans (.new hl2))) ⟨l2, t, rfl, ((g.trans g2).trans g3).free ((Gr.new hl).free hl2), upd_same, ((Gr.new hl).trans (.new hl2)).tup e3⟩⟩⟩
/-- xs + ys, both known -/
theorem r_cat {p : Addr} {xs ys : List V} {R : List V → Hp → Prop} (h : Vl t1 σ H (.ref p)) (hp : H p = some (.lst xs)) (h2 : Ls t2 σ H ys) (n : xs.length + ys.length ≤ 100000) :
    Vr (tOp rCat t1 t2) σ H (fun v H1 => ∃ l, v = .ref l ∧ H l = none ∧ H1 l = some (.lst (xs ++ ys))) :=
  fun H1 Q g q => h H1 _ g fun H2 g2 => h2 H2 _ (g.trans g2) fun b H3 hb g3 e3 => ⟨p, b, xs, ys, rfl, rfl, ((g.trans g2).trans g3).lst hp, e3, small n, fun l hl =>
    q _ _ ((g2.trans g3).trans (.new hl)) ⟨l, rfl, ((g.trans g2).trans g3).free hl, upd_same⟩⟩
theorem Ls.toN {xs : List V} (h : Ls t1 σ H xs) : Vr t1 σ H (fun v H1 => ∃ l, v = .ref l ∧ H l = none ∧ H1 l = some (.lst xs)) := fun H1 Q g q => h H1 Q g fun p H2 hp g2 e => q _ H2 g2 ⟨p, rfl, g.free hp, e⟩
end
/-- what a comprehension that keeps some items leaves: filter -/
theorem kept {α : Type} {f : α → List V} {H : Hp} {xs : List V} {l : List α} (t : TupsAt H f xs l) (p : α → Bool) (g : Nat → Bool) (val : Nat → V) (hg : ∀ m e, l[m]? = some e → g m = p e) (hv : ∀ m u, xs[m]? = some u → val m = u) : TupsAt H f (out l.length g val) (l.filter p) := by
  have key : ∀ n, n ≤ l.length → TupsAt H f (out n g val) ((l.take n).filter p) := by
    intro n
    induction n with
    | zero => exact fun _ => .nil
    | succ n ih =>
      intro hn
      obtain ⟨pt, hpt, ht⟩ := t.get n (List.getElem?_eq_getElem (show n < l.length by omega))
      rw [out_succ, List.take_succ, List.getElem?_eq_getElem (show n < l.length by omega), Option.toList_some, List.filter_append, hg n _ (List.getElem?_eq_getElem (show n < l.length by omega)), hv n _ hpt, List.filter_cons]
      cases p l[n]
      · exact (ih (by omega)).app .nil
      · exact (ih (by omega)).app (.cons ht .nil)
  have := key l.length (Nat.le_refl _)
  rw [List.take_length] at this
  exact this
section
variable {K : PySem.W.Frag} {σ : L2.St} {H H' : Hp} {t1 t2 t3 : TE}
/-- a comprehension that makes a tuple of each tuple of a list -/
theorem r_cmpT {α β : Type} {f : α → List V} {g : β → List V} {F : α → β} {xs : List V} {l : List α} {j : Nat} {ws : List Nat} (h : Ls t2 σ H xs) (tx : TupsAt H f xs l) (hz : xs.length ≤ 40000) (hw : ∀ x, wipe ((wipe σ ws).set j (some x)) ws = wipe σ ws)
    (he : ∀ (p : Addr) (a : α) H1, Gr H H1 → H1 p = some (.tup (f a)) → Tu t1 ((wipe σ ws).set j (some (.ref p))) H1 (g (F a))) :
    Vr (tLc (iList K t2) (gName j) tYes t1 ws) σ H (fun v H1 => ∃ la ya, v = .ref la ∧ H la = none ∧ H1 la = some (.lst ya) ∧ TupsAt H1 g ya (l.map F)) := fun H0 Q gr q => h H0 _ gr fun a H1 ha g1 hx => ⟨a, rfl, ⟨xs, SqL.of hx⟩, fun p hp =>
  lc_list (xs := xs) (fun m H' => H1 p = none ∧ Gr H1 H' ∧ ∃ ya, H' p = some (.lst ya) ∧ TupsAt H' g ya ((l.take m).map F)) ⟨hp, .new hp, [], upd_same, .nil⟩ (fun _ H' _ w => SqL.of (w.2.1.lst hx)) (fun m x H' hm ⟨w1, w2, ya, w3, w4⟩ => by
    have hm' : m < l.length := by
      have := (List.getElem?_eq_some_iff.mp hm).1
      have := tx.length
      omega
    obtain ⟨pt, hpt, ht⟩ := tx.get m (List.getElem?_eq_getElem hm')
    rw [hm] at hpt
    obtain rfl := Option.some.inj hpt
    have gg := (gr.trans g1).trans w2
    have ly := w4.length
    rw [List.length_map, List.length_take] at ly
    have lxx := tx.length
    refine ⟨hw _, s_yes H' _ (.refl _) fun H3 g3 => iteT (he pt l[m] H3 (gg.trans g3) ((gg.trans g3).tup ht) H3 _ (.refl _) fun t H4 _ g4 e4 => ⟨ya, g4.lst (g3.lst w3), small' (by omega), w1, ((w2.trans g3).trans g4).chg w1, ya ++ [.ref t], upd_same, ?_⟩)⟩
    have hp4 := g4.lst (g3.lst w3)
    rw [List.take_succ, List.getElem?_eq_getElem hm', Option.toList_some, List.map_append]
    exact ((w4.mono (g3.trans g4)).chg fun ts z => by rw [hp4] at z; cases z).snoc ((upd_ne fun z => by rw [z, hp4] at e4; cases e4).trans e4)) fun H' ⟨w1, w2, ya, w3, w4⟩ => q _ H' (g1.trans w2) ⟨p, ya, rfl, (gr.trans g1).free w1, w3, by
      rw [List.take_of_length_le (by rw [tx.length]; exact Nat.le_refl _)] at w4
      exact w4⟩⟩
end
section
variable {K : PySem.W.Frag} {σ : L2.St} {H H' : Hp} {t1 t2 t3 : TE} {a1 : TA}
/-- the turns of a comprehension that makes a tuple each -/
def CmpU {β : Type} (H : Hp) (g : β → List V) (F : Nat → β) (p : Addr) (m : Nat) (H' : Hp) : Prop := H p = none ∧ Gr H H' ∧ ∃ ya, H' p = some (.lst ya) ∧ TupsAt H' g ya ((List.range m).map F)
theorem CmpU.turn {β : Type} {g : β → List V} {F : Nat → β} {p : Addr} {m : Nat} {σ2 : L2.St} (w : CmpU H g F p m H') (hm : m < 50000) (he : ∀ H1, Gr H H1 → Tu t1 σ2 H1 (g (F m))) :
    tYes σ2 H' fun b H3 => if b = true then t1 σ2 H3 fun y H4 => ∃ acc, H4 p = some (.lst acc) ∧ acc.length < sizeLine ∧ CmpU H g F p (m + 1) (upd H4 p (.lst (acc ++ [y]))) else CmpU H g F p (m + 1) H3 := by
  obtain ⟨w1, w2, ya, w3, w4⟩ := w
  have ly := w4.length
  rw [List.length_map, List.length_range] at ly
  refine s_yes H' _ (.refl _) fun H3 g3 => iteT (he H3 (w2.trans g3) H3 _ (.refl _) fun t H4 _ g4 e4 => ⟨ya, g4.lst (g3.lst w3), small' (by omega), w1, ((w2.trans g3).trans g4).chg w1, ya ++ [.ref t], upd_same, ?_⟩)
  have hp4 := g4.lst (g3.lst w3)
  rw [List.range_succ, List.map_append]
  exact ((w4.mono (g3.trans g4)).chg fun ts z => by rw [hp4] at z; cases z).snoc ((upd_ne fun z => by rw [z, hp4] at e4; cases e4).trans e4)
theorem r_cmpI {β : Type} {g : β → List V} (F : Nat → β) {n : Int} {j : Nat} {ws : List Nat} (h : Ag a1 σ H [.int n]) (hn : 0 ≤ n ∧ n ≤ 40000) (hw : ∀ x, wipe ((wipe σ ws).set j (some x)) ws = wipe σ ws)
    (he : ∀ (m : Nat) H1, Gr H H1 → (m : Int) < n → Tu t1 ((wipe σ ws).set j (some (.int (m : Int)))) H1 (g (F m))) :
    Vr (tLc (iRng1 a1) (gName j) tYes t1 ws) σ H (fun v H1 => ∃ la ya, v = .ref la ∧ H la = none ∧ H1 la = some (.lst ya) ∧ TupsAt H1 g ya ((List.range n.toNat).map F)) := fun H0 Q gr q => h H0 _ gr fun H1 g1 => ⟨n, rfl, by omega, by omega, fun p hp =>
  lc_range (lo := 0) (n := n.toNat) (CmpU H1 g F p) ⟨hp, .new hp, [], upd_same, .nil⟩ (fun m H' hm w => by
    have e : ∀ H2, Gr H1 H2 → Tu t1 ((wipe σ ws).set j (some (.int (0 + (m : Int))))) H2 (g (F m)) := fun H2 g2 => by
      rw [Int.zero_add]
      exact he m H2 ((gr.trans g1).trans g2) (by omega)
    exact ⟨hw _, w.turn (by omega) e⟩) fun H' ⟨w1, w2, ya, w3, w4⟩ => q _ H' (g1.trans w2) ⟨p, ya, rfl, (gr.trans g1).free w1, w3, w4⟩⟩
theorem r_cmpX {β : Type} {g : β → List V} (F : Nat → β) {a : Addr} {xs : List V} {j : Nat} {ws : List Nat} (h : Vl t2 σ H (.ref a)) (s : SqL K H a xs) (hz : xs.length ≤ 40000) (hw : ∀ x, wipe ((wipe σ ws).set j (some x)) ws = wipe σ ws)
    (he : ∀ (m : Nat) (x : V) H1, Gr H H1 → xs[m]? = some x → Tu t1 ((wipe σ ws).set j (some x)) H1 (g (F m))) :
    Vr (tLc (iList K t2) (gName j) tYes t1 ws) σ H (fun v H1 => ∃ la ya, v = .ref la ∧ H la = none ∧ H1 la = some (.lst ya) ∧ TupsAt H1 g ya ((List.range xs.length).map F)) := fun H0 Q gr q => h H0 _ gr fun H1 g1 => ⟨a, rfl, ⟨xs, (gr.trans g1).sl s⟩, fun p hp =>
  lc_list (xs := xs) (CmpU H1 g F p) ⟨hp, .new hp, [], upd_same, .nil⟩ (fun _ H' _ w => ((gr.trans g1).trans w.2.1).sl s) (fun m x H' hm w => ⟨hw x, w.turn (by have := (List.getElem?_eq_some_iff.mp hm).1; omega) fun H2 g2 => he m x H2 ((gr.trans g1).trans g2) hm⟩)
    fun H' ⟨w1, w2, ya, w3, w4⟩ => q _ H' (g1.trans w2) ⟨p, ya, rfl, (gr.trans g1).free w1, w3, w4⟩⟩
/-- [(..), (..)] -/
theorem r_lst2 {ts us : List V} (h : Tu t1 σ H ts) (h2 : Tu t2 σ H us) : Vr (tLst (tCons t1 (tCons t2 tNil))) σ H (fun v H1 => ∃ l a b, v = .ref l ∧ H l = none ∧ H1 l = some (.lst [.ref a, .ref b]) ∧ H1 a = some (.tup ts) ∧ H1 b = some (.tup us)) := fun H1 Q g q =>
  h H1 _ g fun a H2 _ g2 e2 => h2 H2 _ (g.trans g2) fun b H3 _ g3 e3 => ⟨small (show 2 ≤ 100000 by decide), fun l hl => q _ _ ((g2.trans g3).trans (.new hl)) ⟨l, a, b, rfl, ((g.trans g2).trans g3).free hl, upd_same, (Gr.new hl).tup (g3.tup e2), (Gr.new hl).tup e3⟩⟩
end
/-- the k-th deed -/
def spDeeds (K : PySem.W.Frag) : Sp := fun vs H Q _ => ∃ (a pn pd pp : Addr) (k : Nat) (ns : List Int) (s : Now) (ys : List V) (ds : List Deed) (ps : List Str), vs = [.ref a, .ref pn, .ref pd, .ref pp, .int k] ∧ SqL K H a (ns.map V.int) ∧ NowAt noL H pn s ∧ s.good ∧ H pd = some (.lst ys) ∧ TupsAt H Deed.vs ys ds ∧ (∀ d ∈ ds, d.good) ∧
  H pp = some (.lst (ps.map V.str)) ∧ 1 ≤ ps.length ∧ ps.length ≤ 1000 ∧ (∀ x ∈ ps, nameB x = true) ∧ (ds.length ≤ k → 6 + k - ds.length < ns.length) ∧ RR_ (fun v H1 => ∃ p d, v = .ref p ∧ H1 p = some (.tup (Deed.vs d)) ∧ d.good) H Q

/-! ### which class an exception is of -/
def kindNames : List Str := ["BadName", "BadWish", "Known", "Stranger", "Outside", "Inside", "Reads", "Writes", "Asked", "BadText", "BadJournal", "BadNumber"]
def isK (x y : Str) : Bool := kinds.any fun r => decide (r.1 = x) && (decide (r.2.1 = y) && r.2.2)
def kindsOf (x : Str) : List Int := ((List.range 12).filter fun k => isK x (kindNames.getD k "")).map fun k : Nat => (k : Int)
theorem kit_of {K : PySem.W.Frag} (h : exB K = true) {x y : Str} (hx : x ∈ raised) (hy : y ∈ kindNames) : PySem.W.kitOne K (.ref (He.ga K x)) (.ref (He.ga K y)) = some (isK x y) := by
  have m : ∀ x ∈ raised, ∀ y ∈ kindNames, (x, y, isK x y) ∈ kinds ∧ y ≠ "ValueError" := by decide +kernel
  have k := exB_kit h (m x hx y hy).1
  unfold clsV at k
  rw [if_neg (m x hx y hy).2] at k
  exact k
theorem v_isP {K : PySem.W.Frag} {σ : L2.St} {H : Hp} {t1 : TE} {a : Addr} {x y : Str} (ex : exB K = true) (hx : x ∈ raised) (hy : y ∈ kindNames) (h : Vl t1 σ H (.ref a)) : Vl (tCB (RX.rIsP K a (.ref (He.ga K x)) none) (tCons t1 (tCons (tC (.ref (He.ga K y))) tNil))) σ H (.bl (isK x y)) :=
  v_blt (g_cons h (g_cons v_con g_nil)) fun H1 _ _ q => ⟨He.ga K x, .ref (He.ga K y), .ref (He.ga K y), isK x y, rfl, rfl, exB_exc ex hx, rfl, fun _ e => e, kit_of ex hx hy, q H1 (.refl _)⟩
def spKinds (K : PySem.W.Frag) (a : Addr) (c : Value) (d : Option Addr) : Sp := fun vs H Q _ => ∃ x, vs = [.ref a] ∧ x ∈ raised ∧ c = .ref (He.ga K x) ∧ d = none ∧ RL ((kindsOf x).map V.int) H Q

section
--CUT
/-! ### exceptions raised while one is handled: what their context is -/
namespace RY
open PySem PySem.Spec PyProof.Rows L2
def Cy (y : Addr) (o : Obj) : Prop := ∀ vs : Array Value, o.data = .fields vs → vs[2]? = some (.ref y)
theorem set_ne {vs : Array Value} {i j : Nat} {v : Value} (h : i ≠ j) : (vs.setIfInBounds i v)[j]? = vs[j]? := by simp [Array.getElem?_setIfInBounds, h]
theorem Cy.steady {y : Addr} : PXN.Steady1 (Cy y) := fun o v h => by
  obtain ⟨c, d, dt, sl⟩ := o
  cases dt with
  | fields vs0 =>
    intro vs e
    rw [← Data.fields.inj (show Data.fields (vs0.setIfInBounds 1 v) = Data.fields vs from e), set_ne (by decide)]
    exact h vs0 rfl
  | _ => intro vs e; exact nomatch (show _ = Data.fields vs from e)
def Zy (y : Addr) (cls : Value) (d : Option Addr) (o : Obj) : Prop := Zc cls d o ∧ Cy y o
theorem Zy.steady {y : Addr} {cls : Value} {d : Option Addr} : PXN.Steady1 (Zy y cls d) := fun o v h => ⟨⟨PXN.steady_cls o v h.1.1, PXN.steady_dict o v h.1.2⟩, Cy.steady o v h.2⟩
theorem traced_more {h B : Heap} {a : Addr} {Z Z' : Obj → Prop} {fl : Value} (m : ∀ oe, h.get? a = some oe → Z oe → Z' oe) (x : HandSPX.TracedZ h B a Z fl) : HandSPX.TracedZ h B a Z' fl :=
  let ⟨oe, vs, T, oT, ts, he, hz, r⟩ := x; ⟨oe, vs, T, oT, ts, he, m oe he hz, r⟩
theorem sky_more {B h : Heap} {l : List Env} {a L : Addr} {Z Z' : Obj → Prop} (m : ∀ oe, h.get? a = some oe → Z oe → Z' oe) (x : Sky B l a Z L h) : Sky B l a Z' L h := by
  rcases x with ⟨a1, a2, a3, oe, vs, he, hz, r⟩ | ⟨a1, a2, a3, t⟩ | ⟨a1, a2, a3, t⟩
  · exact .inl ⟨a1, a2, a3, oe, vs, he, m oe he hz, r⟩
  · exact .inr (.inl ⟨a1, a2, a3, traced_more m t⟩)
  · exact .inr (.inr ⟨a1, a2, a3, traced_more m t⟩)
/-- the exception's context is what stands at y -/
def Has (y : Addr) (u : Value) (s' : Shared) : Prop := ∃ a oe, u = .ref a ∧ s'.heap.get? a = some oe ∧ Cy y oe
def Air (y : Addr) (X : Cx) (W : WX) (u : Value) (s' : Shared) : Prop := L2.XE X W u s' ∧ Has y u s'
def Tk (y : Addr) (X : Cx) (W : WX) : Prop := ∀ u s', Air y X W u s' → X.xe u s'
def CXy (y : Addr) (P : Program) (w : World) : CXT := fun outer H s E u s' => L2.CX P w outer H s E u s' ∧ Has y u s'
section
variable {X : Cx} {y : Addr} {W : WX} {E : XK} {s' : Shared}
theorem passAt (tk : Tk y X W) (σ : L2.St) : PassesAt (CXy y X.prog X.w) X σ (WE W σ) := fun _ _ _ e s' I c => tk e s' ⟨L2.XE.of_call I (fun _ _ _ h => h) c.1, c.2⟩
theorem tkN {X : Cx} : Tk y X fun _ _ _ _ => False := by
  rintro _ _ ⟨⟨_, _, _, _, _, _, _, _, _, _, _, _, _, _, _, _, z⟩, _⟩
  exact z.elim
theorem leave (hs : X.stack = X.env :: X.outer) (hf : X.env.frame = some X.env.locals) (hex : X.ex = []) {E₁ : Value → Shared → Prop} {u : Value} (x : Air y X (fun cls d _ H => E cls d H) u s') :
    wpAny (model X.prog X.w) X.A (leaving X.env u) (fun _ s2 => CXy y X.prog X.w X.outer X.H_0 X.s_0 E u s2) E₁ s' := by
  obtain ⟨⟨a, B, sI, pins, σ, H, cls, d, rfl, I, nb, up, sky0, na, os, ag, wE⟩, a', ob, ea, hob, cob⟩ := x
  cases ea
  have sky : Sky B X.stack a (Zy y cls d) X.env.locals s'.heap := sky_more (fun oe he z => ⟨z, by rw [hob] at he; cases he; exact cob⟩) sky0
  have notSt : ∀ b o, X.s_0.heap.get? b = some o → b ∉ X.fs → b ∉ frs X.stack := fun b o hbo nf hm => (List.mem_cons.mp (I.stkSub b hm)).elim
    (fun z => absurd (Nat.lt_of_lt_of_le (z ▸ Heap.lt_size hbo) I.ok.above) (Nat.lt_irrefl _)) nf
  have noX : ∀ b, b ∉ X.ex := fun b => by rw [hex]; exact List.not_mem_nil
  have done : ∀ h2, HandSPX.FlyingZ B X.outer a (Zy y cls d) h2 → s'.heap.UpToSlots h2 → CXy y X.prog X.w X.outer X.H_0 X.s_0 E (.ref a) { s' with heap := h2 } := fun h2 fl up2 => by
    have hasY : Has y (.ref a) { s' with heap := h2 } := by
      obtain ⟨_, _, _, oe, _, _, _, _, he, hz, _⟩ := fl
      exact ⟨a, oe, rfl, he, hz.2⟩
    obtain ⟨f1, f2, f3, f4⟩ := fl
    have ub : UB X.fs X.H_0 H X.s_0.heap B h2 := {
      keep := fun b o hbo n nf => nb b o (I.base.keep b o hbo n nf (noX b)) (notSt b o hbo nf)
      slot := fun b o hbo hb => by
        obtain ⟨_, o0, g0, nfd⟩ := I.ok.funs.mem hb
        cases hbo.symm.trans g0
        obtain ⟨sl1, g1⟩ := I.base.slot b o hbo (I.ok.frf b hb) hb (noX b)
        obtain ⟨sl2, g2⟩ := up b _ g1 nfd
        obtain ⟨sl3, g3⟩ := up2 b _ g2 nfd
        exact ⟨sl3, g3⟩
      free := fun b o hbo n => I.base.free b o hbo n (noX b)
      there := fun b o hbo nf => by
        obtain ⟨o2, g2⟩ := I.base.there b o hbo (noX b)
        exact ⟨o2, nb b o2 g2 (notSt b o hbo nf)⟩
      tups := I.base.tups
      frzs := I.base.frzs
      tbls := I.base.tbls }
    exact ⟨⟨a, B, H, cls, d, rfl, ⟨f1, f2, f3, traced_more (fun _ _ z => z.1) f4⟩, I.inGround nb, ub, na, os.trans I.os, ag, wE⟩, hasY⟩
  have frs2 : X.A.frames = some (X.env :: X.outer) := I.ok.frames.trans (congrArg some hs)
  rw [hs] at sky
  rcases sky with ⟨q1, q2, q3, oe, vs, he, hz, hd, h1⟩ | q | q
  · exact PXN.leaving_firstZ Zy.steady frs2 q3 hf he q1 q2 hd h1 hz done
  · exact PXN.leaves_onZ Zy.steady frs2 hf q done
  · exact HandSPX.leaves_heldZ hf q done
/-- what a def lets out -/
theorem tk_of (hs : X.stack = X.env :: X.outer) (hf : X.env.frame = some X.env.locals) (hex : X.ex = []) {E₁ : Value → Shared → Prop}
    (hx : X.xe = fun e s1 => wpAny (model X.prog X.w) X.A (leaving X.env e) (fun _ s2 => CXy y X.prog X.w X.outer X.H_0 X.s_0 E e s2) E₁ s1) : Tk y X (fun cls d _ H => E cls d H) := fun u s1 x => by
  rw [hx]; exact leave hs hf hex x
theorem raiseY {z : Addr × Obj} {e : Expr} {t : L2.St → Hp → XK → Prop} {pos : Pos} (hz : L2H.Hot1 X.A z) (hp : z ∈ X.pn) (tk : Tk z.1 X W) (he : L2N.PMk X e t) : PS X (.Raise (some e) none pos) (fun _ σ H => t σ H fun cls d H' => W cls d σ H') := ⟨fun pins s σ H D I h => by
  obtain ⟨hh, v0, e0, c0⟩ := hz
  show wpAny _ _ (standAt pos >>= fun _ => raiseStmt X.env (some (eval e X.env >>= fun v => standAt pos >>= fun _ => pure v)) none) _ _ _
  refine wpAny_bind (wpAny_standAt (HotX.raise_made_hot (x1 := z.1) (wpAny_bind (wpAny_mono (he pins s σ H _ I h) (fun u s1 hu => wpAny_bind (wpAny_standAt (wpAny_pure ?_))) fun _ _ x => x))))
  obtain ⟨a, oe, vs, sI, H', cls, d, rfl, J, k, hne, ha, zn, hd, h1, na, os, ag, r, q⟩ := hu
  have stands := (J.pin z (List.mem_append_left _ hp)).1
  have zne : z.1 ≠ a := fun w => by rw [w, hne] at stands; cases stands
  have sz : 2 < vs.size := (Array.getElem?_eq_some_iff.mp (zn.2.2 vs hd)).1
  have isub := r (model X.prog X.w) s1.heap (J.kIn.keeps k)
  have up := Heap.get?_update_self (Obj.mapFields (·.setIfInBounds 2 (.ref z.1))) ha (Obj.isFreed_of_fields (Obj.data_mapFields hd _))
  have hd2 := Obj.data_mapFields hd (·.setIfInBounds 2 (.ref z.1))
  refine ⟨a, oe, vs, cls, rfl, ha, zn.1, hd, h1, sz, zne, ⟨hh, z.2, v0, k _ _ stands, e0, c0⟩, isub.1, isub.2, tk _ _ ⟨L2.XE.new J (fun b o hbo => ?_) hne up ⟨(Obj.cls_mapFields ..).trans zn.1, (HandSPX.dict_mapFields ..).trans zn.2.1⟩ hd2 ((set_ne (by decide)).trans h1) na os ag q,
    a, _, rfl, up, fun vs' ev => ?_⟩⟩
  · exact (Heap.get?_update_other _ _ (fun w : a = b => by rw [← w, hne] at hbo; cases hbo)).trans (k b o hbo)
  · rw [hd2] at ev
    cases ev
    simp [Array.getElem?_setIfInBounds, sz]⟩
end
/-! ### defs called while the exception at y is handled -/
structure FnY (y : Addr × Obj) (P : Program) (w : World) (K : PySem.W.Frag) (mg : Str → Option Value) (base : Heap) (CX : CXT) (k : Nat) (f : Addr) (fd : FuncData) (ps : List Str) (sp : Sp) : Prop where
  len : ∀ vs H Q E, sp vs H Q E → vs.length = ps.length
  run : ∀ (A : Around) (outer : List Env) (s : Shared) (H : Hp) (args : Args) (us : List Value) (vs : List V) (Q : VK) (E : XK), L2H.RoomH k A → L2H.Hot1 A y → L2H.PinOk outer H s y → Env0 P w K mg base A outer s H →
    BindsTo s fd args (ps.zip us) → Vals vs us → sp vs H Q E → codeAny (model P w) A (.call (.ref f) args) (CR CX outer P w H s Q E) s
section
variable {P : Program} {w : World} {K : PySem.W.Frag} {mg : Str → Option Value} {base : Heap} {x qual : Str} {st : Stmt} {f : Addr} {fd : FuncData} {N ps : List Str} {k : Nat} {sp : Sp} {y : Addr × Obj}
theorem okY {CX : CXT} (F : Fun K x qual st f fd) (S : FnScope N ps (defScope st)) (len : ∀ vs H Q E, sp vs H Q E → vs.length = ps.length)
    (h : ∀ (cdv : Value) (A : Around) (outer : List Env) (s : Shared) (H : Hp) (vs : List V) (Q : VK) (E : XK), L2H.Hot1 A y → L2H.RoomH k (A.deeper (envOfC qual (defScope st) s.heap.objs.size f cdv)) → sp vs H Q E →
      ∃ t, PSs (L2H.cxH CX P w K mg base N qual (defScope st) f cdv A outer s H E y) (defBody st) t ∧ t ⟨fun _ H' => Q .non H', Q, fun _ _ => False, fun _ _ => False⟩ (start N vs) H) : FnY y P w K mg base CX (k + 1) f fd ps sp := by
  obtain ⟨_, _, _, _, _, _, cdv, _, _, rfl, lk, hcd⟩ := F.ex
  refine ⟨len, fun A outer s H args us vs Q E hr hot hpin e0 hb r hsp => ?_⟩
  have hin : K.In s.heap := e0.mod.kin.keeps fun b o hbo => (e0.bs b o hbo).1
  refine codeAny_call_function hr.depth (hin _ _ lk) rfl S.co S.gen rfl (PySem.W.codeRec_of hin hcd) (hb _ _ _ _ (wpAny_newFunctionEnv_cells S.kind (fun y hy => ?_) fun env he s1 c => ?_))
  · rcases S.par y.1 (List.of_mem_zip (show (y.1, y.2) ∈ _ from hy)).1 with q | q
    · exact .inl q
    · exact .inr ⟨q, PySem.W.cellsFrom_some _ _ _ (.inl q)⟩
  subst he
  obtain ⟨t, ht, hq⟩ := h cdv A outer s H vs Q E hot (hr.deeper _) hsp
  have I := L2H.inv_startH (CX := CX) (E := E) S hpin e0 (len _ _ _ _ hsp) r c
  have nl : s.heap.NoLimit := e0.mod.nolimit.keeps fun b o hbo => (e0.bs b o hbo).1
  refine ⟨nl.keeps c.toInCall.keep, codeAny_func (wpAny_mono (ht.run [] s1 _ H _ I hq) (fun fl s' hs => ?_) fun _ _ hs => hs)⟩
  cases fl with
  | ret u => exact let ⟨v, _, H', J, rv, q⟩ := hs; ⟨v, H', J.os, J.bare, J.base, J.hok, rv, q⟩
  | next => exact let ⟨_, H', J, q⟩ := hs; ⟨.non, H', J.os, J.bare, J.base, J.hok, rfl, q⟩
  | brk => exact let ⟨_, _, _, q⟩ := hs; q.elim
  | cont => exact let ⟨_, _, _, q⟩ := hs; q.elim
end
section
variable {X : Cx} {CX : CXT} {k : Nat} {f C : Addr} {fd : FuncData} {ps : List Str} {sp : Sp} {E : L2.St → XK} {x : Str} {p pos : Pos} {e : Expr} {es : List Expr} {t : TA} {y : Addr × Obj}
theorem room_make {A : Around} (r : L2H.RoomH (k + 1) A) (C : Addr) (us : List Value) : L2H.RoomH k (A.under (.builtin "type.__call__" ⟨.ref C :: us, []⟩)) := by
  obtain ⟨d, u⟩ := r
  constructor
  · rw [make_depth]; omega
  · rw [make_units]; omega
theorem run_makeY {pins : List (Addr × Obj)} {σ : L2.St} {H : Hp} {s : Shared} {Q : VK} {us : List Value} {vs : List V} {F' : XK} (M : Mk X.K C f) (F : FnY y X.prog X.w X.K X.mg X.base CX k f fd ps sp) (hr : L2H.RoomH (k + 1) X.A) (hz : L2H.Hot1 X.A y) (hp : y ∈ X.pn) (hb : Binds X.K fd ps [])
    (hx : PassesAt CX X σ F') (I : Inv X pins σ H s) (r : Vals vs us)
    (h : ∀ a dx, H a = none → H dx = none → dx ≠ a → sp (.ref a :: vs) (upd (upd H dx (.own a)) a (.ins C dx [])) (fun v H2 => v = .non ∧ Q (.ref a) H2) F') :
    wpAny (model X.prog X.w) X.A (call (.ref C) us) (EP X pins σ Q) X.xe s := by
  have q := h (s.heap.objs.size + 1) s.heap.objs.size (I.hok.fresh (Nat.le_succ _)) (I.hok.fresh (Nat.le_refl _)) (Nat.ne_of_lt (Nat.lt_succ_self _))
  have J := Inv.made (C := C) I
  have r2 : Vals (V.ref (s.heap.objs.size + 1) :: vs) (Value.ref (s.heap.objs.size + 1) :: us) := .cons rfl r
  have b := hb _ (Value.ref (s.heap.objs.size + 1) :: us) J.kIn (by rw [List.append_nil]; exact r2.length.symm.trans (F.len _ _ _ _ q))
  rw [List.append_nil] at b
  have pj := J.pin y (List.mem_append_left _ hp)
  refine wpAny_call (make_map (f := f) I.kIn M.makes M.init (beq_iff_eq.mp M.fn) (codeAny_mono (F.run _ X.stack _ _ ⟨Value.ref (s.heap.objs.size + 1) :: us, []⟩ _ _ _ F' (room_make hr C us) ⟨hz.1, hz.2⟩
    ⟨pj.1, pj.2.1, fun hm => (List.mem_cons.mp (J.stkSub _ hm)).elim pj.2.2.1 pj.2.2.2.1, pj.2.2.2.2⟩ (J.env0.make C us []) b r2 q) fun r s' hq => ?_))
  cases r with
  | error e => exact hx pins _ _ e s' J hq
  | ok fl =>
    cases fl with
    | ret u =>
      obtain ⟨v, H', I3, rv, rfl, q3⟩ := J.after hq
      exact ⟨rv, ⟨V.ref (s.heap.objs.size + 1), H', I3, rfl, q3⟩⟩
    | next => exact hq.elim
    | brk => exact hq.elim
    | cont => exact hq.elim
theorem pe_makeY (M : Mk X.K C f) (F : FnY y X.prog X.w X.K X.mg X.base CX k f fd ps sp) (hr : L2H.RoomH (k + 1) X.A) (hz : L2H.Hot1 X.A y) (hp : y ∈ X.pn) (hg : Gl X x) (hm : X.mg x = some (.ref C)) (hb : Binds X.K fd ps []) (hx : ∀ σ, PassesAt CX X σ (E σ)) (ha : PA X (e :: es) t)
    (hdb : (x == ("__debug__" : Str)) = false := by decide) (he : starEach (e :: es) X.env = (false, eval e X.env) :: starEach es X.env := by rfl) (hpl : (backTo pos (starEach es X.env)).any (·.1) = false := by rfl) : PE X (.Call (.Name x p) (e :: es) [] pos) (RX.tMakeA C sp E t) := ⟨fun pins s σ H Q I h => by
  refine wpAny_Call_Name_kw (ld_glob I hg hm (PySem.W.callWith_K (h₀ := X.base) I.ok.mod.kin M.kp (thn (ha.run pos pins s σ H _ I h) fun us s1 hus => ?_) he hpl) hdb)
  obtain ⟨vs, H1, I1, r, q⟩ := hus
  exact ⟨I1.kIn, run_makeY M F hr hz hp hb (hx σ) I1 r q⟩⟩
end
end RY

--CUT
/-! ### try .. except x as n within an except suite; what runs while the second exception is handled -/
namespace RY
open PySem PySem.Spec PyProof.Rows L2
/-- the exception's class is the clause's -/
def wYs (K : PySem.W.Frag) (c : Value) (i : Nat) (ts : Addr → Value → Option Addr → TS) (D : Ends) : WX := fun cls d σ H => PySem.W.exmOne K cls c = some true ∧
  ∀ a, H a = none → ts a cls d { nx := fun σ1 H1 => D.nx (σ1.set i none) H1, rt := D.rt, bk := fun σ1 H1 => D.bk (σ1.set i none) H1, ct := fun σ1 H1 => D.ct (σ1.set i none) H1 } (σ.set i (some (.ref a))) H
section
variable {X : Cx} {x n : Str} {c : Value} {i : Nat} {body suite : List Stmt} {b₀ : Stmt} {np pos pos' : Pos} {tb : WX → TS} {ts : Addr → Value → Option Addr → TS} {z : Addr × Obj}
theorem try_asY {K : PySem.W.Frag} (hK : X.K = K) (hs : X.stack = X.env :: X.outer) (hf : X.env.frame = some X.env.locals) (hN : X.N.Nodup) (hi : X.N[i]? = some n) (hln : X.env.kindOf n = some .local) (hc : L2.Names X x c) (hp : z ∈ X.pn)
    (hb : ∀ (W : WX) (pn : List (Addr × Obj)) (xe : Value → Shared → Prop), z ∈ pn → Tk z.1 (X.tr pn xe) W → PassesOwn (model X.prog X.w) X.A X.env xe → PSs (X.tr pn xe) body (tb W))
    (hsu : ∀ (a : Addr) (oe : Obj) (cls : Value) (d : Option Addr) (pn : List (Addr × Obj)), Zy z.1 cls d oe → (∃ vs, oe.data = .fields vs) → z.1 ≠ a → z ∈ pn → PSs (X.suite a ((a, oe) :: pn)) (b₀ :: suite) (ts a cls d)) :
    PS X (.Try body [.ExceptHandler (some (.Name x np)) (some n) (b₀ :: suite) pos'] [] [] pos) (fun D σ H => tb (wYs K c i ts D) D σ H) := ⟨fun pins s σ H D I h => by
  subst hK
  have okX := I.ok
  have frs2 : X.A.frames = some (X.env :: X.outer) := I.ok.frames.trans (congrArg some hs)
  refine wpAny_Try_except (wpAny_mono ((hb (wYs X.K c i ts D) (X.pn ++ pins) (fun e s1 => wpAny (model X.prog X.w) X.A (noteFrame e X.env) (fun _ s2 => wpAny (model X.prog X.w) X.A (setFlight e none) (fun _ s3 =>
    wpAny (model X.prog X.w) X.A (handleBy e X.env [.ExceptHandler (some (.Name x np)) (some n) (b₀ :: suite) pos']) (SP X pins D) X.xe s3) X.xe s2) X.xe s1) (List.mem_append_left _ hp) (fun u s' xx => ?_) PassesOwn.looking).run [] s σ H D (I.toTry _) h) (fun f s1 hsp => ?_) (fun _ _ he => he))
  · obtain ⟨⟨a, B, sI, pins', σ', H', cls, d, rfl, J', nb, up, sky0, na, os, ag, hex, hyes⟩, a', ob, ea, hob, cob⟩ := xx
    cases ea
    have J : Inv X pins σ' H' sI := J'.ofTry okX
    have sky : Sky B (X.env :: X.outer) a (Zy z.1 cls d) X.env.locals s'.heap := hs ▸ sky_more (fun oe he zc => ⟨zc, by rw [hob] at he; cases he; exact cob⟩) sky0
    have PZ := J.pin z (List.mem_append_left _ hp)
    refine L2N.Sky.land Zy.steady frs2 hf sky fun h3 fl3 up3 => ?_
    have inB : B.get? z.1 = some z.2 := nb _ _ PZ.1 fun hm => (List.mem_cons.mp (J.stkSub _ hm)).elim PZ.2.2.1 PZ.2.2.2.1
    have zna : z.1 ≠ a := fun w => by rw [w, fl3.2.1] at inB; cases inB
    have J3 : Inv X pins σ' H' { s' with heap := h3 } := J.landed nb fl3.1 (up.trans up3) os ag
    obtain ⟨oe3, vs3, he3, hz3, hd3⟩ := fl3.there
    have nfr : a ∉ frs (X.env :: X.outer) := fun hm => by
      obtain ⟨_, o2, g2, nfd⟩ := fl3.2.2.1.mem hm
      cases he3.symm.trans g2
      exact nfd _ hd3
    have nL : a ≠ X.env.locals := fun w => nfr (List.mem_filterMap.mpr ⟨X.env, .head _, hf.trans (congrArg some w.symm)⟩)
    have nF : a ∉ X.fs := fun hm => nfr (by
      obtain ⟨ev, me, q⟩ := List.mem_filterMap.mp hm
      exact List.mem_filterMap.mpr ⟨ev, .tail _ me, q⟩)
    have S3 := J3.suite he3 hd3 na nL nF
    have isC : PySem.W.Looks (model X.prog X.w) h3 (typeOf (.ref a)) cls := fun A Q E s k q => wpAny_typeOf_ref (k _ _ he3) (by rw [hz3.1.1]; exact q)
    refine wpAny_handleBy_cons (codeAny_handlers_test ?_) (fun q => nomatch q)
    have named : ∀ {Q E : Value → Shared → Prop}, Q c { s' with heap := h3 } → wpAny (model X.prog X.w) (X.A.mark (some (.ref a))) (eval (.Name x np) X.env) Q E { s' with heap := h3 } := fun {Q E} q => by
      rcases hc with ⟨hg, hdbg, hm | ⟨hm, hv, hnn⟩⟩
      · exact ld_glob (X := X.suite a ((a, oe3) :: (X.pn ++ pins))) S3 hg hm q hdbg
      · exact ld_blt (X := X.suite a ((a, oe3) :: (X.pn ++ pins))) S3 hg hm hv q hnn hdbg
    refine named ((PySem.W.exm_one (M := model X.prog X.w) J3.kIn isC hex).here (codeAny_handlers_suite_as (HandSPX.lands_againZ fl3 fun h4 fl4 up4 => ?_)))
    have J4 : Inv X pins σ' H' { s' with heap := h4 } := J.landed nb fl4.1 ((up.trans up3).trans up4) os ag
    obtain ⟨oe4, vs4, he4, hz4, hd4⟩ := fl4.there
    refine store_ok (X := X.suite a ((a, oe4) :: (X.pn ++ pins))) (v := .ref a) (J4.suite he4 hd4 na nL nF) hN hi (.inl hln) rfl (fun s5 S5 => ?_) (.inr hln)
    refine wpAny_mono ((hsu a oe4 cls d (X.pn ++ pins) hz4 ⟨_, hd4⟩ zna (List.mem_append_left _ hp)).run [] s5 _ H' _ S5 (hyes a na)) (fun f s6 hsp => ?_) (fun _ _ w => w.elim)
    have goes : ∀ {σ6 : L2.St} {H6 : Hp} {Q : Shared → Prop}, Inv (X.suite a ((a, oe4) :: (X.pn ++ pins))) [] σ6 H6 s6 → (∀ s7, Inv X pins (σ6.set i none) H6 s7 → Q s7) →
      wpAny (model X.prog X.w) X.A (bindName X.env n .none >>= fun _ => unbindBehindTheSuite X.env n pos') (fun _ s7 => Q s7) X.xe s6 := fun S6 hq => gone_ok (S6.unsuite okX) hN hi hln hq
    cases f with
    | next => exact let ⟨_, _, S6, q6⟩ := hsp; goes S6 fun s7 J7 => ⟨_, _, J7, q6⟩
    | brk => exact let ⟨_, _, S6, q6⟩ := hsp; goes S6 fun s7 J7 => ⟨_, _, J7, q6⟩
    | cont => exact let ⟨_, _, S6, q6⟩ := hsp; goes S6 fun s7 J7 => ⟨_, _, J7, q6⟩
    | ret u => exact let ⟨_, _, _, S6, r6, q6⟩ := hsp; goes S6 fun s7 J7 => ⟨_, _, _, J7, r6, q6⟩
  · cases f with
    | next => exact let ⟨_, _, J2, q⟩ := hsp; wpAny_execs_nil ⟨_, _, J2.ofTry okX, q⟩
    | brk => exact let ⟨_, _, J2, q⟩ := hsp; ⟨_, _, J2.ofTry okX, q⟩
    | cont => exact let ⟨_, _, J2, q⟩ := hsp; ⟨_, _, J2.ofTry okX, q⟩
    | ret u => exact let ⟨_, _, _, J2, r, q⟩ := hsp; ⟨_, _, _, J2.ofTry okX, r, q⟩⟩
end
/-! ### a chain of two -/
/-- p is handled, q is its context, q has none -/
structure Hot2 (A : Around) (p q : Addr × Obj) : Prop where
  hd : A.handled = some (.ref p.1)
  fp : ∃ vs : Array Value, p.2.data = .fields vs ∧ vs[2]? = some (.ref q.1)
  fq : ∃ vs : Array Value, q.2.data = .fields vs ∧ vs[2]? = some .none
  ne : q.1 ≠ p.1
/-- the same of a heap -/
structure Two (A : Around) (x1 x0 : Addr) (h : Heap) : Prop where
  hd : A.handled = some (.ref x1)
  f1 : ∃ (o : Obj) (vs : Array Value), h.get? x1 = some o ∧ o.data = .fields vs ∧ vs[2]? = some (.ref x0)
  f0 : ∃ (o : Obj) (vs : Array Value), h.get? x0 = some o ∧ o.data = .fields vs ∧ vs[2]? = some .none
  ne : x0 ≠ x1
def HotD (X : Cx) : Prop := ∃ p q : Addr × Obj, Hot2 X.A p q ∧ p ∈ X.pn ∧ q ∈ X.pn
theorem HotD.two {X : Cx} {pins : List (Addr × Obj)} {σ : L2.St} {H : Hp} {s : Shared} (c : HotD X) (I : Inv X pins σ H s) : ∃ x1 x0, Two X.A x1 x0 s.heap := by
  obtain ⟨p, q, ⟨hd, ⟨v1, e1, c1⟩, ⟨v0, e0, c0⟩, ne⟩, hp, hq⟩ := c
  exact ⟨p.1, q.1, hd, ⟨p.2, v1, (I.pin p (List.mem_append_left _ hp)).1, e1, c1⟩, ⟨q.2, v0, (I.pin q (List.mem_append_left _ hq)).1, e0, c0⟩, ne⟩
section
variable {prog : Program} {w : World} {A : Around} {E : Value → Shared → Prop} {s : Shared}
theorem beqN {a : Addr} : (Value.ref a == Value.none) = false := by simp
theorem beqR {a b : Addr} (h : a ≠ b) : (Value.ref a == Value.ref b) = false := by simp [h]
theorem unchain2 {x1 x0 a : Addr} {Q : Value → Shared → Prop} (t : Two A x1 x0 s.heap) (n0 : x0 ≠ a) (q : Q .none s) :
    wpAny (model prog w) A (holding [Value.ref a] (runValue (.builtin "proto.unchain" ⟨[.ref a, .ref x1, .ref x1, .bool false], []⟩))) Q E s := by
  obtain ⟨_, ⟨o1, v1, g1, d1, c1⟩, ⟨o0, v0, g0, d0, c0⟩, ne⟩ := t
  refine wpAny_holding (wpAny_runValue (codeAny_builtin HotX.entry_unchain ?_))
  show wpAny _ _ (field (.ref x1) 2 >>= _) _ _ s
  refine wpAny_bind (wpAny_field g1 d1 c1 ?_)
  rw [if_neg (by rw [beqN]; decide), if_neg (by rw [beqR n0]; decide), if_neg (by rw [beqR ne]; decide)]
  refine wpAny_bind (wpAny_pure (wpAny_pure ⟨Code.quiet_builtin _ (by decide +kernel), codeAny_builtin HotX.entry_unchain ?_⟩))
  show wpAny _ _ (field (.ref x0) 2 >>= _) _ _ s
  refine wpAny_bind (wpAny_field g0 d0 c0 ?_)
  rw [if_pos (show (Value.none == Value.none) = true from rfl)]
  first
  | exact wpAny_bind (wpAny_pure (wpAny_pure q))
  | exact wpAny_pure q
theorem raiseNew2 {α : Type} {a x1 x0 : Addr} {oe : Obj} {vs : Array Value} {Q : α → Shared → Prop} (t : Two A x1 x0 s.heap) (n1 : x1 ≠ a) (n0 : x0 ≠ a) (ha : s.heap.get? a = some oe) (da : oe.data = .fields vs) (hi : 2 < vs.size)
    (hE : E (.ref a) { s with heap := s.heap.update a (Obj.mapFields (·.setIfInBounds 2 (.ref x1))) }) : wpAny (model prog w) A (raiseNew (.ref a) : Sem α) Q E s := by
  unfold raiseNew
  refine wpAny_bind (wpAny_handled ?_)
  rw [t.hd]
  have hb : (Value.ref x1 != Value.ref a) = true := HotX.ref_bne n1
  first
  | (show wpAny _ _ (if (Value.ref x1 != Value.ref a) = true then _ else _) _ _ _
     rw [if_pos hb]
     first
     | exact wpAny_bind (unchain2 t n0 (wpAny_bind (HotX.chained ha da hi (wpAny_throw hE))))
     | exact wpAny_bind (wpAny_bind (unchain2 t n0 (HotX.chained ha da hi (wpAny_throw hE)))))
  | (refine wpAny_bind ?_
     show wpAny _ _ (if (Value.ref x1 != Value.ref a) = true then _ else _) _ _ _
     rw [if_pos hb]
     exact wpAny_bind (unchain2 t n0 (HotX.chained ha da hi (wpAny_throw hE))))
theorem range_end2 {it x1 x0 : Addr} {x left step : Int} {Q : Option Value → Shared → Prop} (t : Two A x1 x0 s.heap) (hit : IsRangeIter s.heap it x left step) (hleft : left ≤ 0)
    (hQ : ∀ h', (∀ b o, s.heap.get? b = some o → h'.get? b = some o) → Q none { s with heap := h' }) : wpAny (model prog w) A (pyNext (.ref it)) Q E s := by
  have isR : s.TypeIs (.ref it) "range_iterator" := ⟨_, hit, rfl⟩
  have two := t
  obtain ⟨hd, ⟨o1, v1, g1, d1, c1⟩, ⟨o0, v0, g0, d0, c0⟩, ne⟩ := t
  unfold pyNext
  refine wpAny_bind (wpAny_attempt (wpAny_callSpecial?_slot (name := Str.ofString "__next__") isR F.slot_range_iterator_next (wpAny_call_entry F.slot_range_iterator_next isR F.entry_range_iterator_next ?_ (F.args_range_iterator_next_1 _))))
  show wpAny _ _ (field (.ref it) 0 >>= _) _ _ s; refine wpAny_bind (wpAny_field hit rfl (x := rawInt x) rfl ?_)
  show wpAny _ _ (field (.ref it) 1 >>= _) _ _ s; refine wpAny_bind (wpAny_field hit rfl (x := rawInt left) rfl ?_)
  show wpAny _ _ (field (.ref it) 2 >>= _) _ _ s; refine wpAny_bind (wpAny_field hit rfl (x := rawInt step) rfl ?_)
  show wpAny _ _ (if left ≤ 0 then _ else _) _ _ s
  rw [if_pos hleft]
  refine wpAny_bind (wpAny_rule (wpAny_bind ?_))
  show wpAny _ _ (newExc (.type "StopIteration") [] >>= _) _ _ _; refine wpAny_bind ?_
  simp only [newExc, newTuple]
  refine wpAny_bind (wpAny_newObj_type ?_ (by size_fits))
  refine wpAny_bind (m := firstArgMember _ _) (wpAny_of_eq (a := Value.none) (by first | rfl | (simp only [firstArgMember]; rfl)) ?_); refine wpAny_newObj_type ?_ (by size_fits)
  have k1 := Heap.get?_push_of_some { cls := .type "StopIteration", dict := none, data := .fields #[.ref s.heap.objs.size, .none, .none, .none, .bool false, .none] } (Heap.get?_push_of_some { cls := .type "tuple", data := .seq ([] : List Value).toArray } g1)
  refine raiseNew2 (x1 := x1) (x0 := x0) ⟨hd, ⟨o1, v1, Heap.get?_push_of_some _ (Heap.get?_push_of_some _ g1), d1, c1⟩, ⟨o0, v0, Heap.get?_push_of_some _ (Heap.get?_push_of_some _ g0), d0, c0⟩, ne⟩ (Nat.ne_of_lt (Heap.lt_size (Heap.get?_push_of_some _ g1)))
    (Nat.ne_of_lt (Heap.lt_size (Heap.get?_push_of_some _ g0))) (Heap.get?_push_size _ rfl) rfl (by first | (simp; done) | (simp; omega) | (simp only [Array.size_append]; simp; omega)) ?_
  refine wpAny_bind (wpAny_isInstance (T := "StopIteration") (b := true) ⟨_, Heap.get?_update_self _ (Heap.get?_push_size _ rfl) rfl, rfl⟩ isSubtype_stop (wpAny_pure (hQ _ fun b o e => ?_)))
  exact (Heap.get?_update_other _ _ (Nat.ne_of_gt (Heap.lt_size (Heap.get?_push_of_some _ e)))).trans (Heap.get?_push_of_some _ (Heap.get?_push_of_some _ e))
end
section
variable {X : Cx} {tg a : Expr} {body : List Stmt} {ta : TA} {g : TG} {tb : TS} {p pos pos' : Pos}
theorem for2 (hp : PassesOwn (model X.prog X.w) X.A X.env X.xe) (hc : HotD X) (hr : Gl X "range") (hm : X.mg "range" = none) (ha : PA X [a] ta) (hg : PG X tg g) (hb : PSs X body tb)
    (hs : ∀ x, foldedSetIterable (.Call (.Name "range" p) [a] [] pos) X.env x = pure x := by intro _; rfl) (hst : starEach [a] X.env = [(false, eval a X.env)] := by rfl) : PS X (.For tg (.Call (.Name "range" p) [a] [] pos) body [] pos') (tFor (iRng1 ta) g tb) := ⟨fun pins s σ H D I h => by
  refine wpAny_For (Call_ (ld_blt I hr hm boot_range (PyProof.Rows.callWith_type1 (thn (ha.run pos pins s σ H _ I h) fun us s1 hus => ?_) hst rfl))) hs
  obtain ⟨vs, H1, I1, r1, j, rfl, b1, b2, W, ⟨m0, w0⟩, turn⟩ := hus
  obtain ⟨u0, rv, rfl⟩ : ∃ u0, RelV (.int j) u0 ∧ us = [u0] := by
    cases r1 with
    | cons r2 r3 => cases r3; exact ⟨_, r2, rfl⟩
  obtain ⟨tok, rfl⟩ := (show ∃ t, u0 = Value.int j t from rv)
  refine call_range_1 ?_
  refine wpAny_pyIter_range (IsRange.new ..) (small_one (by omega) (by omega) b1 b2) ?_
  have I2 := I1.kept (h' := s1.heap.push { cls := .type "range", data := .fields #[.int 0 s1.toks, .int j tok, .int 1 (s1.toks + 1)] }) (t' := s1.toks + 1 + 1) fun b o e => Heap.get?_push_of_some _ e
  generalize s1.heap.push { cls := .type "range", data := .fields #[.int 0 s1.toks, .int j tok, .int 1 (s1.toks + 1)] } = hp2 at I2 ⊢
  have f2 : FpOk X pins H1 hp2.objs.size := I2.fpOk (Nat.le_refl _) (I2.hok.fresh (Nat.le_refl _))
  have I3 := I2.kept (h' := hp2.push { cls := .type "range_iterator", data := .fields #[rawInt 0, rawInt (Builtin.Range.rangeSize 0 j 1), rawInt 1] }) (t' := s1.toks + 1 + 1) fun b o e => Heap.get?_push_of_some _ e
  have at0 : IsRangeIter (hp2.push { cls := .type "range_iterator", data := .fields #[rawInt 0, rawInt (Builtin.Range.rangeSize 0 j 1), rawInt 1] }) hp2.objs.size (((0 : Nat) : Int)) ((j.toNat : Int) - ((0 : Nat) : Int)) 1 := by
    have e : (j.toNat : Int) - ((0 : Nat) : Int) = Builtin.Range.rangeSize 0 j 1 := by rw [rangeSize_one]; split <;> omega
    rw [e]
    exact Heap.get?_push_size _ rfl
  generalize hp2.push { cls := .type "range_iterator", data := .fields #[rawInt 0, rawInt (Builtin.Range.rangeSize 0 j 1), rawInt 1] } = hp3 at I3 at0 ⊢
  generalize hp2.objs.size = it at f2 at0 ⊢
  have pinIt : ∀ {h : Heap} {i : Nat}, IsRangeIter h it (i : Int) ((j.toNat : Int) - (i : Int)) 1 → ∀ b ∈ [it], ∃ o, h.get? b = some o ∧ ∀ v, o.data ≠ .cell v := fun st b hb => by
    cases List.mem_singleton.mp hb
    exact ⟨_, st, fun v w => nomatch (show Data.fields _ = Data.cell v from w)⟩
  refine codeAny_forLoop_any (fun m s' => ∃ (i : Nat) (σ' : L2.St) (H' : Hp), Inv X pins σ' H' s' ∧ IsRangeIter s'.heap it (i : Int) ((j.toNat : Int) - (i : Int)) 1 ∧ H' it = none ∧ W i m σ' H') ?_ m0 ⟨0, σ, H1, I3, at0, f2.1, w0⟩
  rintro m s3 ⟨i, σ3, H3, J3, st3, n3, w3⟩
  obtain ⟨_, g1, g2, g3, g4, g5⟩ := f2
  rcases turn i m σ3 H3 w3 with ⟨stop, qn⟩ | ⟨go, N, hN, step⟩
  · obtain ⟨x1, x0, two⟩ := hc.two J3
    exact wpAny_passesOwn hp (range_end2 two st3 (by have : j.toNat ≤ i := stop; omega) fun h' kk => wpAny_execs_nil ⟨σ3, H3, J3.turned (t' := s3.toks) (fun b o _ e => kk b o e) n3 g1 g3 g4 g5, qn⟩)
  · have lt : i < j.toNat := go
    refine wpAny_passesOwn hp (wpAny_pyNext_range_item st3 (by omega) fun h' st' sb => ?_)
    have J4 : Inv X pins σ3 H3 { s3 with heap := h', toks := s3.toks + 1 } := J3.turned (fun b o hb e => (sb.2 b hb).trans e) n3 g1 g3 g4 g5
    have st4 : IsRangeIter h' it (((i + 1 : Nat) : Int)) ((j.toNat : Int) - ((i + 1 : Nat) : Int)) 1 := by
      have e1 : (i : Int) + 1 = ((i + 1 : Nat) : Int) := by omega
      have e2 : (j.toNat : Int) - (i : Int) - 1 = (j.toNat : Int) - ((i + 1 : Nat) : Int) := by omega
      rw [← e2, ← e1]
      exact st'
    refine wpAny_passesOwn hp (go_of (n := "range_iterator") st4 rfl rfl (by decide) ?_)
    have J5 := J4.pinned (fp := [it]) (fun b hb => by cases List.mem_singleton.mp hb; exact ⟨n3, g1, g2, g3, g4, g5⟩) (pinIt st4)
    refine wpAny_passesOwn hp (thn (hg.run _ _ σ3 H3 (.int (0 + (i : Int))) _ _ J5 ⟨s3.toks, by rw [Int.zero_add]⟩ (step _ H3 ⟨rfl, rfl⟩)) fun _ s6 ⟨σ6, H6, J6, q6⟩ => ?_)
    refine wpAny_passesOwn hp (thn (hb.run _ s6 σ6 H6 _ J6 q6) fun fl s7 q7 => ?_)
    have again : ∀ {σ7 : L2.St} {H7 : Hp}, Inv X (pins ++ pinsAt [it] h') σ7 H7 s7 → N σ7 H7 → ∃ m', m' < m ∧ ∃ (i' : Nat) (σ' : L2.St) (H' : Hp), Inv X pins σ' H' s7 ∧ IsRangeIter s7.heap it (i' : Int) ((j.toNat : Int) - (i' : Int)) 1 ∧ H' it = none ∧ W i' m' σ' H' := fun {σ7 H7} J7 n7 => by
      obtain ⟨m', lm, w7⟩ := hN σ7 H7 n7
      have pn := J7.pin _ (List.mem_append_right _ (List.mem_append_right _ (mem_pinsAt (List.mem_singleton.mpr rfl) st4)))
      exact ⟨m', lm, i + 1, σ7, H7, J7.unpinned, pn.1, pn.2.1, w7⟩
    cases fl with
    | next => exact let ⟨_, _, J7, n7⟩ := q7; again J7 n7
    | cont => exact let ⟨_, _, J7, n7⟩ := q7; again J7 n7
    | brk => exact let ⟨σ7, H7, J7, q⟩ := q7; ⟨σ7, H7, J7.unpinned, q⟩
    | ret v => exact let ⟨x7, σ7, H7, J7, r7, q⟩ := q7; ⟨x7, σ7, H7, J7.unpinned, r7, q⟩⟩
end
end RY

--CUT
/-! ### a def that is handed the second exception -/
namespace RY
open PySem PySem.Spec PyProof.Rows L2
structure FnE2 (P : Program) (w : World) (K : PySem.W.Frag) (mg : Str → Option Value) (base : Heap) (CX : CXT) (k : Nat) (f : Addr) (fd : FuncData) (ps : List Str) (sp : Addr → Value → Option Addr → Sp) : Prop where
  len : ∀ a c d vs H Q E, sp a c d vs H Q E → vs.length = ps.length
  run : ∀ (A : Around) (outer : List Env) (s : Shared) (H : Hp) (args : Args) (us : List Value) (vs : List V) (Q : VK) (E : XK) (z y : Addr × Obj) (c : Value) (d : Option Addr), L2H.RoomH k A → Hot2 A z y → L2H.PinOk outer H s z → L2H.PinOk outer H s y → Zc c d z.2 → Env0 P w K mg base A outer s H →
    BindsTo s fd args (ps.zip us) → Vals vs us → sp z.1 c d vs H Q E → codeAny (model P w) A (.call (.ref f) args) (CR CX outer P w H s Q E) s
/-- the context of such a def's body -/
abbrev cxD (CX : CXT) (P : Program) (w : World) (K : PySem.W.Frag) (mg : Str → Option Value) (base : Heap) (N : List Str) (qual : Str) (scope : Scope) (f : Addr) (cd : Value) (A : Around) (outer : List Env) (s : Shared) (H : Hp) (E : XK) (z y : Addr × Obj) : Cx :=
  (L2H.cxH CX P w K mg base N qual scope f cd A outer s H E z).tr [z, y] (cxOf CX P w K mg base N qual scope f cd A outer s H E).xe
section
variable {P : Program} {w : World} {K : PySem.W.Frag} {mg : Str → Option Value} {base : Heap} {x qual : Str} {st : Stmt} {f : Addr} {fd : FuncData} {N ps : List Str} {k : Nat} {sp : Addr → Value → Option Addr → Sp}
theorem okD {CX : CXT} (F : Fun K x qual st f fd) (S : FnScope N ps (defScope st)) (len : ∀ a c d vs H Q E, sp a c d vs H Q E → vs.length = ps.length)
    (h : ∀ (cdv : Value) (A : Around) (outer : List Env) (s : Shared) (H : Hp) (vs : List V) (Q : VK) (E : XK) (z y : Addr × Obj) (c : Value) (d : Option Addr), Hot2 A z y → Zc c d z.2 → L2H.RoomH k (A.deeper (envOfC qual (defScope st) s.heap.objs.size f cdv)) → sp z.1 c d vs H Q E →
      ∃ t, PSs (cxD CX P w K mg base N qual (defScope st) f cdv A outer s H E z y) (defBody st) t ∧ t ⟨fun _ H' => Q .non H', Q, fun _ _ => False, fun _ _ => False⟩ (start N vs) H) : FnE2 P w K mg base CX (k + 1) f fd ps sp := by
  obtain ⟨_, _, _, _, _, _, cdv, _, _, rfl, lk, hcd⟩ := F.ex
  refine ⟨len, fun A outer s H args us vs Q E z y cc dd hr hot pz py hc e0 hb r hsp => ?_⟩
  have hin : K.In s.heap := e0.mod.kin.keeps fun b o hbo => (e0.bs b o hbo).1
  refine codeAny_call_function hr.depth (hin _ _ lk) rfl S.co S.gen rfl (PySem.W.codeRec_of hin hcd) (hb _ _ _ _ (wpAny_newFunctionEnv_cells S.kind (fun y hy => ?_) fun env he s1 c => ?_))
  · rcases S.par y.1 (List.of_mem_zip (show (y.1, y.2) ∈ _ from hy)).1 with q | q
    · exact .inl q
    · exact .inr ⟨q, PySem.W.cellsFrom_some _ _ _ (.inl q)⟩
  subst he
  obtain ⟨t, ht, hq⟩ := h cdv A outer s H vs Q E z y cc dd hot hc (hr.deeper _) hsp
  have I0 := L2H.inv_startH (CX := CX) (E := E) S pz e0 (len _ _ _ _ _ _ _ hsp) r c
  obtain ⟨h1, tk1, rfl, kept⟩ := c.done
  have I : Inv (cxD CX P w K mg base N qual (defScope st) f cdv A outer s H E z y) [] (start N vs) H { s with heap := h1, toks := tk1 } := Inv.toTry (pins := [y]) (X := L2H.cxH CX P w K mg base N qual (defScope st) f cdv A outer s H E z)
    ⟨I0.ok, I0.os, I0.bare, I0.base, I0.loc, I0.cell, I0.free, I0.freeC, fun q hq => (by
      rcases List.mem_append.mp hq with hq | hq
      · exact I0.pin q (List.mem_append_left _ hq)
      · cases List.mem_singleton.mp hq
        exact ⟨kept _ _ py.get, py.free, Nat.ne_of_lt (Heap.lt_size py.get), py.nofs, py.nocell⟩), I0.hok, I0.len⟩ _
  have nl : s.heap.NoLimit := e0.mod.nolimit.keeps fun b o hbo => (e0.bs b o hbo).1
  refine ⟨nl.keeps c.toInCall.keep, codeAny_func (wpAny_mono (ht.run [] _ _ H _ I hq) (fun fl s' hs => ?_) fun _ _ hs => hs)⟩
  cases fl with
  | ret u => exact let ⟨v, _, H', J, rv, q⟩ := hs; ⟨v, H', J.os, J.bare, J.base, J.hok, rv, q⟩
  | next => exact let ⟨_, H', J, q⟩ := hs; ⟨.non, H', J.os, J.bare, J.base, J.hok, rfl, q⟩
  | brk => exact let ⟨_, _, _, q⟩ := hs; q.elim
  | cont => exact let ⟨_, _, _, q⟩ := hs; q.elim
end
section
variable {X : Cx} {CX : CXT} {k : Nat} {f : Addr} {fd : FuncData} {ps : List Str} {sp : Addr → Value → Option Addr → Sp} {E : L2.St → XK} {x : Str} {p pos : Pos} {e : Expr} {es : List Expr} {t : TA} {a : Addr} {oe : Obj} {y : Addr × Obj} {c : Value} {d : Option Addr}
theorem pinOk {pins : List (Addr × Obj)} {σ : L2.St} {H : Hp} {s : Shared} {z : Addr × Obj} (I : Inv X pins σ H s) (h : z ∈ X.pn) : L2H.PinOk X.stack H s z :=
  let q := I.pin z (List.mem_append_left _ h); ⟨q.1, q.2.1, fun hm => (List.mem_cons.mp (I.stkSub _ hm)).elim q.2.2.1 q.2.2.2.1, q.2.2.2.2⟩
theorem pe_callD (F : FnE2 X.prog X.w X.K X.mg X.base CX k f fd ps sp) (hr : L2H.RoomH k X.A) (hz : Hot2 X.A (a, oe) y) (hp : (a, oe) ∈ X.pn) (hy : y ∈ X.pn) (hc : Zc c d oe) (hg : Gl X x) (hm : X.mg x = some (.ref f)) (hk : PySem.W.keepIn X.K (.ref f) = true) (hb : Binds X.K fd ps [])
    (hx : ∀ σ, PassesAt CX X σ (E σ)) (ha : PA X (e :: es) t) (hdb : (x == ("__debug__" : Str)) = false := by decide) (he : starEach (e :: es) X.env = (false, eval e X.env) :: starEach es X.env := by rfl) (hpl : (backTo pos (starEach es X.env)).any (·.1) = false := by rfl) :
    PE X (.Call (.Name x p) (e :: es) [] pos) (RX.tCallE a c d sp E t) := ⟨fun pins s σ H Q I h => by
  refine wpAny_Call_Name_kw (ld_glob I hg hm (PySem.W.callWith_K (h₀ := X.base) I.ok.mod.kin hk (thn (ha.run pos pins s σ H _ I h) fun us s1 hus => ?_) he hpl) hdb)
  obtain ⟨vs, H1, J, r, q⟩ := hus
  have b := hb s1 us J.kIn (by rw [List.append_nil]; exact r.length.symm.trans (F.len _ _ _ _ _ _ _ q))
  rw [List.append_nil] at b
  refine ⟨J.kIn, wpAny_call (codeAny_mono (F.run X.A X.stack s1 H1 ⟨us, []⟩ us vs Q (E σ) (a, oe) y c d hr hz (pinOk J hp) (pinOk J hy) hc J.env0 b r q) fun r s' hq => ?_)⟩
  cases r with
  | error e => exact hx σ pins H1 s1 e s' J hq
  | ok fl =>
    cases fl with
    | ret u => exact J.after hq
    | next => exact hq.elim
    | brk => exact hq.elim
    | cont => exact hq.elim⟩
theorem deep {A A' : Around} {z y : Addr × Obj} (h : Hot2 A z y) (e : A'.handled = A.handled) : Hot2 A' z y := ⟨e.trans h.hd, h.fp, h.fq, h.ne⟩
theorem fields_of2 {A : Around} {z y : Addr × Obj} (h : Hot2 A z y) : ∃ vs, z.2.data = .fields vs := let ⟨vs, e, _⟩ := h.fp; ⟨vs, e⟩
theorem roomH2 {k : Nat} {A : Around} {h h' : Option Value} (r : Room k A) : L2H.RoomH k ((A.mark h).mark h') := ⟨r.dp, r.un⟩
/-- the second exception handled: its context is the first -/
theorem hot2_suite {a1 : Addr} {o1 : Obj} {cls1 cls : Value} {d1 d : Option Addr} {A : Around} (z1 : L2N.Zn cls1 d1 o1) (f1 : ∃ vs, o1.data = .fields vs) (z2 : Zy a1 cls d oe) (f2 : ∃ vs, oe.data = .fields vs) (ne : a1 ≠ a) : Hot2 (A.mark (some (.ref a))) (a, oe) (a1, o1) := by
  obtain ⟨v1, e1⟩ := f1
  obtain ⟨v2, e2⟩ := f2
  exact ⟨rfl, ⟨v2, e2, z2.2 v2 e2⟩, ⟨v1, e1, z1.2.2 v1 e1⟩, ne⟩
end
end RY

--CUT
/-! ### heaps that change in some places only -/
def Ch (L : Addr → Prop) (H H' : Hp) : Prop := ∀ b o, H b = some o → (¬ L b → H' b = some o ∨ ∃ ps qs, o = HO.tbl ps ∧ H' b = some (.tbl qs) ∧ (TriplesOk ps.toList → TriplesOk qs.toList)) ∧ H' b ≠ none
namespace Ch
variable {L : Addr → Prop} {H H' H1 H2 : Hp} {a p : Addr}
theorem of (g : Gr H H') : Ch L H H' := fun b o h => ⟨fun _ => g b o h, fun z => by rcases g b o h with h1 | ⟨_, _, _, h1, _⟩ <;> (rw [z] at h1; cases h1)⟩
theorem refl (H : Hp) : Ch L H H := of (.refl H)
theorem trans (x : Ch L H H1) (y : Ch L H1 H2) : Ch L H H2 := by
  intro b o h
  obtain ⟨x1, x2⟩ := x b o h
  cases e : H1 b with
  | none => exact absurd e x2
  | some u =>
    obtain ⟨y1, y2⟩ := y b u e
    refine ⟨fun n => ?_, y2⟩
    rcases x1 n with h1 | ⟨ps, qs, rfl, h1, t1⟩
    · rw [e] at h1
      cases h1
      exact y1 n
    · rw [e] at h1
      cases h1
      rcases y1 n with h2 | ⟨ps', qs', e2, h2, t2⟩
      · exact .inr ⟨ps, qs, rfl, h2, t1⟩
      · cases e2
        exact .inr ⟨ps, qs', rfl, h2, fun t => t2 (t1 t)⟩
theorem gr (x : Ch L H H1) (g : Gr H1 H2) : Ch L H H2 := x.trans (.of g)
theorem put {o : HO} (x : Ch L H H') (h : L p) : Ch L H (upd H' p o) := by
  intro b u hb
  obtain ⟨x1, x2⟩ := x b u hb
  by_cases e : b = p
  · subst e
    exact ⟨fun n => absurd h n, fun z => by rw [upd_same] at z; cases z⟩
  · rw [upd_ne e]
    exact ⟨x1, x2⟩
theorem free (x : Ch L H H') (h : H' p = none) : H p = none := by
  cases e : H p with
  | none => rfl
  | some o => exact absurd h (x p o e).2
theorem chg {o : HO} (x : Ch L H H') (h : H p = none) : Ch L H (upd H' p o) := by
  intro b u hb
  have n : b ≠ p := ne_of_none hb h
  rw [upd_ne n]
  exact x b u hb
theorem at_ {o : HO} (x : Ch L H H') (h : H a = some o) (nl : ¬ L a) (n : ∀ ps, o ≠ .tbl ps) : H' a = some o := by
  rcases (x a o h).1 nl with h1 | ⟨ps, _, e, _⟩
  · exact h1
  · exact absurd e (n ps)
theorem lst {xs : List V} (x : Ch L H H') (h : H a = some (.lst xs)) (nl : ¬ L a) : H' a = some (.lst xs) := x.at_ h nl fun _ e => by cases e
theorem tup {xs : List V} (x : Ch L H H') (h : H a = some (.tup xs)) (nl : ¬ L a) : H' a = some (.tup xs) := x.at_ h nl fun _ e => by cases e
theorem dK {xs : List (Key × V)} (x : Ch L H H') (h : H a = some (.dK xs)) (nl : ¬ L a) : H' a = some (.dK xs) := x.at_ h nl fun _ e => by cases e
theorem ins {C d : Addr} {fs : List (Str × V)} (x : Ch L H H') (h : H a = some (.ins C d fs)) (nl : ¬ L a) : H' a = some (.ins C d fs) := x.at_ h nl fun _ e => by cases e
theorem tab {P : Addr} (x : Ch L H H') (h : GxR.TabG H P) (nl : ¬ L P) : GxR.TabG H' P := by
  obtain ⟨ps, h, t⟩ := h
  rcases (x P _ h).1 nl with h1 | ⟨ps', qs, e, h1, t1⟩
  · exact ⟨ps, h1, t⟩
  · cases e
    exact ⟨qs, h1, t1 t⟩
theorem mono {L' : Addr → Prop} (x : Ch L H H') (h : ∀ b, L b → L' b ∨ H b = none) : Ch L' H H' := fun b o hb => ⟨fun n => (x b o hb).1 fun l => (h b l).elim n fun z => (by rw [z] at hb; cases hb), (x b o hb).2⟩
theorem toGr (x : Ch L H H') (h : ∀ b, L b → H b = none) : Gr H H' := fun b o hb => (x b o hb).1 fun l => by rw [h b l] at hb; cases hb
theorem rd {u : HO} (x : Ch L H H') (h : Rd H a u) (nl : ¬ L a) (n : ∀ ps, u ≠ .tbl ps) : Rd H' a u := by
  rcases h with h | ⟨o, h⟩
  · exact .inl (x.at_ h nl n)
  · exact .inr ⟨o, x.at_ h nl fun _ e => by cases e⟩
theorem sl {K : PySem.W.Frag} {xs : List V} (x : Ch L H H') (h : SqL K H a xs) (nl : ¬ L a) : SqL K H' a xs := by
  rcases h with h | h
  · exact .inl (x.rd h nl fun _ e => by cases e)
  · exact .inr h
end Ch
theorem TupsAt.ch {α : Type} {f : α → List V} {L : Addr → Prop} {H H' : Hp} (x : Ch L H H') (n : ∀ b, L b → ∀ ts, H b ≠ some (.tup ts)) : ∀ {vs : List V} {l : List α}, TupsAt H f vs l → TupsAt H' f vs l
  | _, _, .nil => .nil
  | _, _, .cons h t => .cons (x.tup h fun l => n _ l _ h) (TupsAt.ch x n t)
/-! ### the room -/
structure RAd where
  dx : Addr
  rd : Addr
  ln : Addr
  rw : Addr
def rfs (seats pat : Int) (a : RAd) (al ak : V) : List (Str × V) := [("seats", .int seats), ("patience", .int pat), ("_readers", .ref a.rd), ("_writer", al), ("_asker", ak), ("_line", .ref a.ln), ("_rows", .ref a.rw)]
theorem rfs_len {seats pat : Int} {a : RAd} {al ak : V} : (rfs seats pat a al ak).length = 7 := rfl
theorem rfs_alone {seats pat : Int} {a : RAd} {al ak v : V} : putF "_writer" v (rfs seats pat a al ak) = rfs seats pat a v ak := by
  have h1 : (("seats" : Str) = "_writer") = False := eq_false (by decide +kernel)
  have h2 : (("patience" : Str) = "_writer") = False := eq_false (by decide +kernel)
  have h3 : (("_readers" : Str) = "_writer") = False := eq_false (by decide +kernel)
  simp [putF, rfs, h1, h2, h3]
theorem rfs_asked {seats pat : Int} {a : RAd} {al ak v : V} : putF "_asker" v (rfs seats pat a al ak) = rfs seats pat a al v := by
  have h1 : (("seats" : Str) = "_asker") = False := eq_false (by decide +kernel)
  have h2 : (("patience" : Str) = "_asker") = False := eq_false (by decide +kernel)
  have h3 : (("_readers" : Str) = "_asker") = False := eq_false (by decide +kernel)
  have h4 : (("_writer" : Str) = "_asker") = False := eq_false (by decide +kernel)
  simp [putF, rfs, h1, h2, h3, h4]
def rdD (l : List Str) : List (Key × V) := l.map fun x => ((.inr x : Key), V.bl true)
theorem rdD_keys (l : List Str) : (rdD l).map (fun kv => kV kv.1) = l.map V.str := by
  unfold rdD
  rw [List.map_map]
  rfl
theorem rdD_get (l : List Str) (n : Str) : (valV (rdD l) (.inr n : Key)).isSome = decide (n ∈ l) := by
  induction l with
  | nil => rfl
  | cons x l ih =>
    by_cases e : x = n
    · subst e
      rw [show rdD (x :: l) = ((.inr x : Key), V.bl true) :: rdD l from rfl, valV_pos (p := ((.inr x : Key), V.bl true)) rfl]
      simp
    · rw [show rdD (x :: l) = ((.inr x : Key), V.bl true) :: rdD l from rfl, valV_neg (p := ((.inr x : Key), V.bl true)) (fun z => e (Sum.inr.inj z)), ih]
      simp [List.mem_cons, Ne.symm e]
theorem rdD_put (l : List Str) (n : Str) (h : n ∉ l) : putK (rdD l) (.inr n : Key) (.bl true) = rdD (l ++ [n]) := by
  unfold putK
  rw [if_neg]
  · unfold rdD
    rw [List.map_append]
    rfl
  · intro z
    obtain ⟨kv, hk, e⟩ := List.any_eq_true.mp z
    obtain ⟨x, hx, rfl⟩ := List.mem_map.mp hk
    have := Sum.inr.inj (of_decide_eq_true e)
    exact h (this ▸ hx)
theorem rdD_drop (l : List Str) (n : Str) : dropK (rdD l) (.inr n : Key) = rdD (l.filter fun x => decide (x ≠ n)) := by
  unfold dropK rdD
  rw [List.filter_map]
  congr 1
  refine List.filter_congr fun x _ => ?_
  exact decide_eq_decide.mpr ⟨fun z w => z (congrArg _ w), fun z w => z (Sum.inr.inj w)⟩
structure RoomAt (K : PySem.W.Frag) (P : Addr) (H : Hp) (p : Addr) (a : RAd) (seats pat : Int) (s : Now) (rows : List JRow) : Prop where
  ins : H p = some (.ins (He.ga K "Room") a.dx (rfs seats pat a (optV s.alone) (optV s.asked)))
  dict : H a.rd = some (.dK (rdD s.reading))
  line : ∃ xs, H a.ln = some (.lst xs) ∧ TupsAt H QE.vs xs s.queue
  book : ∃ ys, H a.rw = some (.lst ys) ∧ TupsAt H JRow.vs ys rows
  ne : a.ln ≠ a.rw
  tab : GxR.TabG H P
/-- the places that a room's deeds may change -/
def Fp (p : Addr) (a : RAd) (x : Addr) : Prop := x = p ∨ x = a.rd ∨ x = a.ln ∨ x = a.rw
namespace RoomAt
variable {K : PySem.W.Frag} {P p : Addr} {H H' : Hp} {a : RAd} {seats pat : Int} {s : Now} {rows : List JRow}
theorem mono (g : Gr H H') (r : RoomAt K P H p a seats pat s rows) : RoomAt K P H' p a seats pat s rows :=
  ⟨g.ins r.ins, g.dK r.dict, let ⟨xs, h, t⟩ := r.line; ⟨xs, g.lst h, t.mono g⟩, let ⟨ys, h, t⟩ := r.book; ⟨ys, g.lst h, t.mono g⟩, r.ne, g.tab r.tab⟩
theorem some_ (r : RoomAt K P H p a seats pat s rows) {b : Addr} (h : Fp p a b) : ∃ o, H b = some o ∧ (∀ ts, o ≠ .tup ts) ∧ ∀ ps, o ≠ .tbl ps := by
  obtain ⟨xs, hx, _⟩ := r.line
  obtain ⟨ys, hy, _⟩ := r.book
  rcases h with rfl | rfl | rfl | rfl
  · exact ⟨_, r.ins, fun _ e => (by cases e), fun _ e => (by cases e)⟩
  · exact ⟨_, r.dict, fun _ e => (by cases e), fun _ e => (by cases e)⟩
  · exact ⟨_, hx, fun _ e => (by cases e), fun _ e => (by cases e)⟩
  · exact ⟨_, hy, fun _ e => (by cases e), fun _ e => (by cases e)⟩
theorem out (r : RoomAt K P H p a seats pat s rows) {b : Addr} (h : H b = none) : ¬ Fp p a b := fun f => by
  obtain ⟨o, e, _⟩ := r.some_ f
  rw [h] at e
  cases e
theorem noTup (r : RoomAt K P H p a seats pat s rows) : ∀ b, Fp p a b → ∀ ts, H b ≠ some (.tup ts) := fun b h ts e => by
  obtain ⟨o, e2, n, _⟩ := r.some_ h
  rw [e2] at e
  exact n ts (Option.some.inj e)
theorem noTab (r : RoomAt K P H p a seats pat s rows) : ¬ Fp p a P := fun h => by
  obtain ⟨o, e2, _, n⟩ := r.some_ h
  obtain ⟨ps, e, _⟩ := r.tab
  rw [e2] at e
  exact n ps (Option.some.inj e)
theorem tup (r : RoomAt K P H p a seats pat s rows) (c : Ch (Fp p a) H H') {b : Addr} {ts : List V} (h : H b = some (.tup ts)) : H' b = some (.tup ts) := c.tup h fun f => r.noTup b f ts h
theorem rd_p (r : RoomAt K P H p a seats pat s rows) : a.rd ≠ p := fun z => by have := r.dict; rw [z, r.ins] at this; cases this
theorem ln_p (r : RoomAt K P H p a seats pat s rows) : a.ln ≠ p := fun z => by obtain ⟨xs, h, _⟩ := r.line; rw [z, r.ins] at h; cases h
theorem rw_p (r : RoomAt K P H p a seats pat s rows) : a.rw ≠ p := fun z => by obtain ⟨xs, h, _⟩ := r.book; rw [z, r.ins] at h; cases h
theorem rd_ln (r : RoomAt K P H p a seats pat s rows) : a.rd ≠ a.ln := fun z => by obtain ⟨xs, h, _⟩ := r.line; rw [← z, r.dict] at h; cases h
theorem rd_rw (r : RoomAt K P H p a seats pat s rows) : a.rd ≠ a.rw := fun z => by obtain ⟨xs, h, _⟩ := r.book; rw [← z, r.dict] at h; cases h
theorem tabU (r : RoomAt K P H p a seats pat s rows) {b : Addr} {o : HO} (h : Fp p a b) : GxR.TabG (upd H b o) P := by
  obtain ⟨ps, e, t⟩ := r.tab
  exact ⟨ps, (upd_ne fun z => r.noTab (by rw [z]; exact h)).trans e, t⟩
theorem tupsU (r : RoomAt K P H p a seats pat s rows) {b : Addr} {o : HO} (h : Fp p a b) {α : Type} {f : α → List V} {vs : List V} {l : List α} (t : TupsAt H f vs l) : TupsAt (upd H b o) f vs l := t.chg (r.noTup b h)
/-- the fields changed -/
theorem setI (r : RoomAt K P H p a seats pat s rows) (al ak : Option Str) : RoomAt K P (upd H p (.ins (He.ga K "Room") a.dx (rfs seats pat a (optV al) (optV ak)))) p a seats pat { s with alone := al, asked := ak } rows := by
  obtain ⟨xs, hx, tx⟩ := r.line
  obtain ⟨ys, hy, ty⟩ := r.book
  exact ⟨upd_same, (upd_ne r.rd_p).trans r.dict, ⟨xs, (upd_ne r.ln_p).trans hx, r.tupsU (.inl rfl) tx⟩, ⟨ys, (upd_ne r.rw_p).trans hy, r.tupsU (.inl rfl) ty⟩, r.ne, r.tabU (.inl rfl)⟩
/-- the readers changed -/
theorem setR (r : RoomAt K P H p a seats pat s rows) (l : List Str) : RoomAt K P (upd H a.rd (.dK (rdD l))) p a seats pat { s with reading := l } rows := by
  obtain ⟨xs, hx, tx⟩ := r.line
  obtain ⟨ys, hy, ty⟩ := r.book
  have f : Fp p a a.rd := .inr (.inl rfl)
  exact ⟨(upd_ne r.rd_p.symm).trans r.ins, upd_same, ⟨xs, (upd_ne r.rd_ln.symm).trans hx, r.tupsU f tx⟩, ⟨ys, (upd_ne r.rd_rw.symm).trans hy, r.tupsU f ty⟩, r.ne, r.tabU f⟩
/-- the line changed -/
theorem setL (r : RoomAt K P H p a seats pat s rows) {xs : List V} {l : List QE} (t : TupsAt H QE.vs xs l) : RoomAt K P (upd H a.ln (.lst xs)) p a seats pat { s with queue := l } rows := by
  obtain ⟨ys, hy, ty⟩ := r.book
  have f : Fp p a a.ln := .inr (.inr (.inl rfl))
  exact ⟨(upd_ne r.ln_p.symm).trans r.ins, (upd_ne r.rd_ln).trans r.dict, ⟨xs, upd_same, r.tupsU f t⟩, ⟨ys, (upd_ne r.ne.symm).trans hy, r.tupsU f ty⟩, r.ne, r.tabU f⟩
/-- the journal changed -/
theorem setB (r : RoomAt K P H p a seats pat s rows) {ys : List V} {l : List JRow} (t : TupsAt H JRow.vs ys l) : RoomAt K P (upd H a.rw (.lst ys)) p a seats pat s l := by
  obtain ⟨xs, hx, tx⟩ := r.line
  have f : Fp p a a.rw := .inr (.inr (.inr rfl))
  exact ⟨(upd_ne r.rw_p.symm).trans r.ins, (upd_ne r.rd_rw).trans r.dict, ⟨xs, (upd_ne r.ne).trans hx, r.tupsU f tx⟩, ⟨ys, upd_same, r.tupsU f t⟩, r.ne, r.tabU f⟩
end RoomAt

/-! ### who begins, one after another -/
theorem rdNe : ¬ rd = wr := by decide +kernel
theorem wrNe : ¬ wr = rd := by decide +kernel
def Now.pr (s : Now) (i : Int) : Str × Str := if i < 0 then (s.asked.getD "", wr) else match s.queue[i.toNat]? with
  | some e => (e.who, e.wish)
  | .none => ("", "")
inductive Settles (seats pat : Int) : Now → List (Str × Str) → Now → Prop
  | stop {s : Now} : s.next seats pat = .none → Settles seats pat s [] s
  | step {s s' : Now} {i : Int} {l : List (Str × Str)} : s.next seats pat = some i → Settles seats pat (s.began i) l s' → Settles seats pat s (s.pr i :: l) s'
theorem Settles.eq {seats pat : Int} {s s1 : Now} {l1 : List (Str × Str)} (h : Settles seats pat s l1 s1) : ∀ {s2 : Now} {l2 : List (Str × Str)}, Settles seats pat s l2 s2 → l1 = l2 ∧ s1 = s2 := by
  induction h with
  | stop e =>
    intro s2 l2 k
    cases k with
    | stop _ => exact ⟨rfl, rfl⟩
    | step e2 _ => rw [e] at e2; cases e2
  | step e _ ih =>
    intro s2 l2 k
    cases k with
    | stop e2 => rw [e] at e2; cases e2
    | step e2 k2 =>
      rw [e] at e2
      cases e2
      obtain ⟨a, b⟩ := ih k2
      exact ⟨by rw [a], b⟩
theorem Settles.rest {seats pat : Int} {s s' : Now} {l : List (Str × Str)} (h : Settles seats pat s l s') : s'.next seats pat = .none := by
  induction h with
  | stop e => exact e
  | step _ _ ih => exact ih
structure Now.ok (s : Now) : Prop where
  qn : ∀ e ∈ s.queue, nameB e.who = true ∧ (e.wish = rd ∨ e.wish = wr)
  rn : ∀ x ∈ s.reading, nameB x = true
  an : ∀ x, s.alone = some x → nameB x = true
  nd : (s.reading ++ s.queue.map QE.who).Nodup
  ad : ∀ x, s.alone = some x → s.reading = [] ∧ x ∉ s.queue.map QE.who
  ka : ∀ x, s.asked = some x → x ∈ s.reading
theorem scan_at {pat : Int} : ∀ {l : List QE} {k m : Nat}, scan pat l k = some m → ∃ j e, m = k + j ∧ l[j]? = some e ∧ e.wish = rd ∧ ∀ i u, i < j → l[i]? = some u → u.wish ≠ rd ∧ (u.often : Int) < pat
  | [], _, _, h => by cases h
  | e :: l, k, m, h => by
    unfold scan at h
    by_cases h1 : e.wish = rd
    · rw [if_pos h1] at h
      cases h
      exact ⟨0, e, rfl, rfl, h1, fun i u hi => absurd hi (Nat.not_lt_zero _)⟩
    · rw [if_neg h1] at h
      by_cases h2 : pat ≤ (e.often : Int)
      · rw [if_pos h2] at h
        cases h
      · rw [if_neg h2] at h
        obtain ⟨j, e', rfl, hj, hw, hb⟩ := scan_at h
        refine ⟨j + 1, e', by omega, hj, hw, fun i u hi hu => ?_⟩
        cases i with
        | zero =>
          cases hu
          exact ⟨h1, by omega⟩
        | succ i => exact hb i u (by omega) hu
/-- whom the next rule lets begin -/
theorem next_cases {s : Now} {seats pat i : Int} (h : s.next seats pat = some i) (hq : ∀ e ∈ s.queue, e.wish = rd ∨ e.wish = wr) : (i = -1 ∧ ∃ a, s.asked = some a ∧ s.reading = [a]) ∨
    ∃ (m : Nat) (e : QE), i = m ∧ s.queue[m]? = some e ∧ s.asked = none ∧ s.alone = none ∧ ((e.wish = rd ∧ (s.reading.length : Int) < seats) ∨ (e.wish = wr ∧ m = 0 ∧ s.reading = [])) ∧ (∀ j u, j < m → s.queue[j]? = some u → u.wish = wr ∧ (u.often : Int) < pat) ∧ (0 < m → s.reading ≠ []) := by
  unfold Now.next at h
  cases ha : s.asked with
  | some a =>
    rw [ha] at h
    by_cases h1 : s.reading = [a]
    · simp only [h1, if_true, Option.some.injEq] at h
      exact .inl ⟨h.symm, a, rfl, h1⟩
    · simp only [h1, if_false] at h
      cases h
  | none =>
    rw [ha] at h
    cases hl : s.queue with
    | nil => rw [hl] at h; cases h
    | cons e l =>
      rw [hl] at h
      dsimp only at h
      by_cases h1 : s.alone = none
      · rw [if_neg (fun z => z h1)] at h
        by_cases h2 : e.wish = wr ∧ s.reading = []
        · rw [if_pos h2] at h
          cases h
          exact .inr ⟨0, e, rfl, rfl, rfl, h1, .inr ⟨h2.1, rfl, h2.2⟩, fun j u hj => absurd hj (Nat.not_lt_zero _), fun z => absurd z (Nat.lt_irrefl _)⟩
        · rw [if_neg h2] at h
          by_cases h3 : seats ≤ (s.reading.length : Int)
          · rw [if_pos h3] at h
            cases h
          · rw [if_neg h3] at h
            cases hs : scan pat (e :: l) 0 with
            | none => rw [hs] at h; cases h
            | some m =>
              rw [hs] at h
              cases h
              obtain ⟨j, e', rfl, hj, hw, hb⟩ := scan_at hs
              rw [Nat.zero_add]
              refine .inr ⟨j, e', rfl, hj, rfl, h1, .inl ⟨hw, by omega⟩, fun i u hi hu => ?_, fun hp z => ?_⟩
              · obtain ⟨n1, n2⟩ := hb i u hi hu
                exact ⟨(hq u (hl ▸ List.mem_of_getElem? hu)).resolve_left n1, n2⟩
              · obtain ⟨n1, _⟩ := hb 0 e hp rfl
                exact h2 ⟨(hq e (hl ▸ List.mem_cons_self)).resolve_left n1, z⟩
      · rw [if_pos h1] at h
        cases h
theorem began_ask {s : Now} : s.began (-1) = { s with alone := s.asked, asked := .none, reading := [] } := rfl
theorem began_at {s : Now} {m : Nat} {e : QE} (h : s.queue[m]? = some e) : s.began (m : Int) = if e.wish = rd then { s with queue := (s.queue.take m).map QE.bump ++ s.queue.drop (m + 1), reading := s.reading ++ [e.who] } else { s with queue := (s.queue.take m).map QE.bump ++ s.queue.drop (m + 1), alone := some e.who } := by
  unfold Now.began
  rw [if_neg (by omega), Int.toNat_natCast, h]
theorem pr_ask {s : Now} {a : Str} (h : s.asked = some a) : s.pr (-1) = (a, wr) := by
  unfold Now.pr
  rw [if_pos (by decide), h]
  rfl
theorem pr_at {s : Now} {m : Nat} {e : QE} (h : s.queue[m]? = some e) : s.pr (m : Int) = (e.who, e.wish) := by
  unfold Now.pr
  rw [if_neg (by omega), Int.toNat_natCast, h]
theorem who_bump (l : List QE) : (l.map QE.bump).map QE.who = l.map QE.who := by
  rw [List.map_map]
  rfl
theorem who_cut (l : List QE) (m : Nat) : ((l.take m).map QE.bump ++ l.drop (m + 1)).map QE.who = (l.map QE.who).eraseIdx m := by
  rw [List.map_append, who_bump, List.eraseIdx_eq_take_drop_succ, List.map_take, List.map_drop]
theorem cut_mem {l : List QE} {m : Nat} {e : QE} (h : e ∈ (l.take m).map QE.bump ++ l.drop (m + 1)) : ∃ u ∈ l, e.who = u.who ∧ e.wish = u.wish := by
  rcases List.mem_append.mp h with z | z
  · obtain ⟨u, hu, rfl⟩ := List.mem_map.mp z
    exact ⟨u, List.mem_of_mem_take hu, rfl, rfl⟩
  · exact ⟨e, List.mem_of_mem_drop z, rfl, rfl⟩
/-- what begins keeps the room in order -/
theorem Now.ok.began {s : Now} {seats pat i : Int} (o : s.ok) (h : s.next seats pat = some i) : (s.began i).ok := by
  rcases next_cases h fun e he => (o.qn e he).2 with ⟨rfl, a, ha, hr⟩ | ⟨m, e, rfl, he, hk, hal, hw, _, _⟩
  · rw [began_ask]
    have nd := o.nd
    rw [hr] at nd
    have nd' := List.nodup_cons.mp nd
    refine ⟨o.qn, fun x hx => absurd hx List.not_mem_nil, fun x hx => ?_, nd'.2, fun x hx => ⟨rfl, ?_⟩, fun x hx => by cases hx⟩
    · exact o.rn x (o.ka x hx)
    · have hx' : s.asked = some x := hx
      rw [ha] at hx'
      cases hx'
      exact nd'.1
  · rw [began_at he]
    have hm := (List.getElem?_eq_some_iff.mp he).1
    have em := o.qn e (List.mem_of_getElem? he)
    have eg : (s.queue.map QE.who)[m]? = some e.who := by rw [List.getElem?_map, he]; rfl
    obtain ⟨hm', eg'⟩ := List.getElem?_eq_some_iff.mp eg
    have pm : (e.who :: (s.queue.map QE.who).eraseIdx m).Perm (s.queue.map QE.who) := by
      have e3 : s.queue.map QE.who = (s.queue.map QE.who).take m ++ e.who :: (s.queue.map QE.who).drop (m + 1) := by
        rw [← eg', ← List.drop_eq_getElem_cons hm', List.take_append_drop]
      rw [List.eraseIdx_eq_take_drop_succ]
      exact List.perm_middle.symm.trans (List.Perm.of_eq e3.symm)
    rcases hw with ⟨w, _⟩ | ⟨w, rfl, hr⟩
    · rw [if_pos w]
      refine ⟨fun u hu => ?_, fun x hx => ?_, fun x hx => ?_, ?_, fun x hx => ?_, fun x hx => ?_⟩
      · obtain ⟨v, hv, e1, e2⟩ := cut_mem hu
        rw [e1, e2]
        exact o.qn v hv
      · rcases List.mem_append.mp hx with z | z
        · exact o.rn x z
        · rw [List.mem_singleton.mp z]
          exact em.1
      · have hx' : s.alone = some x := hx
        rw [hal] at hx'
        cases hx'
      · show ((s.reading ++ [e.who]) ++ ((s.queue.take m).map QE.bump ++ s.queue.drop (m + 1)).map QE.who).Nodup
        rw [who_cut, List.append_assoc]
        exact (List.Perm.append_left s.reading pm).nodup_iff.mpr o.nd
      · have hx' : s.alone = some x := hx
        rw [hal] at hx'
        cases hx'
      · have hx' : s.asked = some x := hx
        rw [hk] at hx'
        cases hx'
    · rw [if_neg (fun z => wrNe (w.symm.trans z))]
      refine ⟨fun u hu => ?_, o.rn, fun x hx => ?_, ?_, fun x hx => ⟨hr, ?_⟩, fun x hx => ?_⟩
      · obtain ⟨v, hv, e1, e2⟩ := cut_mem hu
        rw [e1, e2]
        exact o.qn v hv
      · cases hx
        exact em.1
      · show (s.reading ++ ((s.queue.take 0).map QE.bump ++ s.queue.drop (0 + 1)).map QE.who).Nodup
        have nd := o.nd
        rw [who_cut, hr, List.nil_append]
        rw [hr, List.nil_append] at nd
        exact (List.nodup_cons.mp (pm.nodup_iff.mpr nd)).2
      · have hx' : some e.who = some x := hx
        cases hx'
        show e.who ∉ ((s.queue.take 0).map QE.bump ++ s.queue.drop (0 + 1)).map QE.who
        have nd := o.nd
        rw [hr, List.nil_append] at nd
        rw [who_cut]
        exact (List.nodup_cons.mp (pm.nodup_iff.mpr nd)).1
      · have hx' : s.asked = some x := hx
        rw [hk] at hx'
        cases hx'
/-- how many may yet begin -/
def optN {α : Type} : Option α → Nat
  | .none => 0
  | some _ => 1
def Now.left (s : Now) : Nat := s.queue.length + optN s.asked
theorem cut_length {l : List QE} {m : Nat} (h : m < l.length) : ((l.take m).map QE.bump ++ l.drop (m + 1)).length + 1 = l.length := by
  rw [List.length_append, List.length_map, List.length_take, List.length_drop]
  omega
theorem Now.began_left {s : Now} {seats pat i : Int} (o : s.ok) (h : s.next seats pat = some i) : (s.began i).left + 1 = s.left := by
  rcases next_cases h fun e he => (o.qn e he).2 with ⟨rfl, a, ha, hr⟩ | ⟨m, e, rfl, he, hk, hal, hw, _, _⟩
  · rw [began_ask]
    unfold Now.left
    rw [ha]
    rfl
  · rw [began_at he]
    have := cut_length (List.getElem?_eq_some_iff.mp he).1
    unfold Now.left
    split <;> (dsimp only; omega)
def Now.people (s : Now) : Nat := s.queue.length + s.reading.length + optN s.alone
theorem Now.began_people {s : Now} {seats pat i : Int} (o : s.ok) (h : s.next seats pat = some i) : (s.began i).people = s.people := by
  rcases next_cases h fun e he => (o.qn e he).2 with ⟨rfl, a, ha, hr⟩ | ⟨m, e, rfl, he, hk, hal, hw, _, _⟩
  · rw [began_ask]
    unfold Now.people
    have na : s.alone = Option.none := by
      cases z : s.alone with
      | none => rfl
      | some x => have := (o.ad x z).1; rw [hr] at this; cases this
    rw [ha, hr, na]
    rfl
  · rw [began_at he]
    have := cut_length (List.getElem?_eq_some_iff.mp he).1
    unfold Now.people
    split
    · dsimp only
      rw [List.length_append (as := s.reading), List.length_singleton]
      omega
    · dsimp only
      rw [hal]
      show _ + _ + 1 = _ + _ + 0
      omega
theorem Settles.keep {seats pat : Int} {s s' : Now} {l : List (Str × Str)} (h : Settles seats pat s l s') : s.ok → s'.ok ∧ s'.people = s.people ∧ s'.left + l.length = s.left := by
  induction h with
  | stop _ => exact fun o => ⟨o, rfl, rfl⟩
  | step e _ ih =>
    intro o
    obtain ⟨a, b, c⟩ := ih (o.began e)
    refine ⟨a, b.trans (Now.began_people o e), ?_⟩
    have := Now.began_left o e
    rw [List.length_cons]
    omega
theorem settles_ex {seats pat : Int} : ∀ (n : Nat) (s : Now), s.ok → s.left ≤ n → ∃ l s', Settles seats pat s l s'
  | n, s, o, hn => by
    cases e : s.next seats pat with
    | none => exact ⟨[], s, .stop e⟩
    | some i =>
      have l := Now.began_left o e
      cases n with
      | zero => omega
      | succ n =>
        obtain ⟨l', s', h⟩ := settles_ex n (s.began i) (o.began e) (by omega)
        exact ⟨_, _, .step e h⟩
/-- how much room a journal takes -/
structure Lim (n : Nat) (s : Now) (rows : List JRow) : Prop where
  book : rows.length + s.left ≤ 2 * n
  ppl : s.people ≤ n
/-! #### what deeds do -/
theorem done_came {s : Now} {z x : Str} : s.done ⟨wCame, z, x⟩ = { s with queue := s.queue ++ [⟨z, x, 0⟩] } := if_pos rfl
theorem done_asked {s : Now} {z x : Str} : s.done ⟨wAsked, z, x⟩ = { s with asked := some z } := by
  unfold Now.done
  rw [if_neg (show ¬ wAsked = wCame by decide +kernel), if_pos rfl]
theorem done_eased {s : Now} {z x : Str} : s.done ⟨wEased, z, x⟩ = { s with alone := Option.none, reading := [z] } := by
  unfold Now.done
  rw [if_neg (show ¬ wEased = wCame by decide +kernel), if_neg (show ¬ wEased = wAsked by decide +kernel), if_pos rfl]
theorem done_left {s : Now} {z x : Str} : s.done ⟨wLeft, z, x⟩ = ⟨s.queue.filter (fun e => decide (e.who ≠ z)), s.reading.filter (fun y => decide (y ≠ z)), if s.alone = some z then Option.none else s.alone, if s.asked = some z then Option.none else s.asked⟩ := by
  unfold Now.done
  rw [if_neg (show ¬ wLeft = wCame by decide +kernel), if_neg (show ¬ wLeft = wAsked by decide +kernel), if_neg (show ¬ wLeft = wEased by decide +kernel)]
theorem refused_came {s : Now} {z x : Str} : s.refused ⟨wCame, z, x⟩ = s.known z := if_pos rfl
theorem refused_left {s : Now} {z x : Str} : s.refused ⟨wLeft, z, x⟩ = !s.known z := by
  unfold Now.refused
  rw [if_neg (show ¬ wLeft = wCame by decide +kernel), if_pos rfl]
theorem refused_asked {s : Now} {z x : Str} : s.refused ⟨wAsked, z, x⟩ = (!decide (z ∈ s.reading) || decide (s.asked ≠ none)) := by
  unfold Now.refused
  rw [if_neg (show ¬ wAsked = wCame by decide +kernel), if_neg (show ¬ wAsked = wLeft by decide +kernel), if_pos rfl]
theorem refused_eased {s : Now} {z x : Str} : s.refused ⟨wEased, z, x⟩ = (decide (s.alone = none) || decide (s.alone ≠ some z)) := by
  unfold Now.refused
  rw [if_neg (show ¬ wEased = wCame by decide +kernel), if_neg (show ¬ wEased = wLeft by decide +kernel), if_neg (show ¬ wEased = wAsked by decide +kernel)]
theorem who_filter (l : List QE) (z : Str) : (l.filter fun e => decide (e.who ≠ z)).map QE.who = (l.map QE.who).filter fun y => decide (y ≠ z) := by
  rw [List.filter_map]
  rfl
theorem filter_out {l : List Str} {z : Str} (h : z ∉ l) : l.filter (fun y => decide (y ≠ z)) = l := List.filter_eq_self.mpr fun y hy => decide_eq_true fun e => h (e ▸ hy)
theorem filter_outQ {l : List QE} {z : Str} (h : z ∉ l.map QE.who) : l.filter (fun e => decide (e.who ≠ z)) = l := List.filter_eq_self.mpr fun y hy => decide_eq_true fun e => h (e ▸ List.mem_map.mpr ⟨y, hy, rfl⟩)
/-- the one of this name taken out of the line -/
theorem erase_filter : ∀ {l : List QE} {m : Nat} {e : QE}, (l.map QE.who).Nodup → l[m]? = some e → l.eraseIdx m = l.filter fun u => decide (u.who ≠ e.who)
  | [], _, _, _, h => by cases h
  | x :: l, 0, e, nd, h => by
    cases h
    have nd' := List.nodup_cons.mp nd
    rw [List.eraseIdx_cons_zero, List.filter_cons, if_neg (by simp)]
    exact (filter_outQ nd'.1).symm
  | x :: l, m + 1, e, nd, h => by
    have nd' := List.nodup_cons.mp nd
    have h' : l[m]? = some e := h
    rw [List.eraseIdx_cons_succ, List.filter_cons, if_pos (decide_eq_true (show x.who ≠ e.who from fun w => nd'.1 (by rw [w]; exact List.mem_map.mpr ⟨e, List.mem_of_getElem? h', rfl⟩))), erase_filter nd'.2 h']
theorem Now.ok.qnd {s : Now} (o : s.ok) : (s.queue.map QE.who).Nodup := (List.nodup_append.mp o.nd).2.1
theorem Now.ok.apart {s : Now} (o : s.ok) {z : Str} (h : z ∈ s.reading) : z ∉ s.queue.map QE.who := fun w => (List.nodup_append.mp o.nd).2.2 z h z w rfl
/-- a deed that is not refused keeps the room in order -/
theorem Now.ok.done {s : Now} (o : s.ok) {d : Deed} (g : d.good) (h : s.refused d = false) : (s.done d).ok := by
  obtain ⟨w, z, x⟩ := d
  obtain ⟨hw, hz, hx⟩ := g
  rcases hw with rfl | rfl | rfl | rfl
  · rw [refused_came] at h
    rw [done_came]
    unfold Now.known at h
    simp only [Bool.or_eq_false_iff, decide_eq_false_iff_not] at h
    obtain ⟨h1, h2, h3⟩ := h
    refine ⟨fun e he => ?_, o.rn, o.an, ?_, fun y hy => ⟨(o.ad y hy).1, ?_⟩, o.ka⟩
    · rcases List.mem_append.mp he with k | k
      · exact o.qn e k
      · rw [List.mem_singleton.mp k]
        exact ⟨hz, hx⟩
    · show (s.reading ++ (s.queue ++ ([⟨z, x, 0⟩] : List QE)).map QE.who).Nodup
      rw [List.map_append, ← List.append_assoc]
      refine List.nodup_append.mpr ⟨o.nd, by simp, fun a ha b hb => ?_⟩
      rw [show (([⟨z, x, 0⟩] : List QE).map QE.who) = [z] from rfl, List.mem_singleton] at hb
      rw [hb]
      rcases List.mem_append.mp ha with k | k
      · exact fun w => h1 (w ▸ k)
      · exact fun w => h3 (w ▸ k)
    · show y ∉ (s.queue ++ ([⟨z, x, 0⟩] : List QE)).map QE.who
      rw [List.map_append]
      intro k
      rcases List.mem_append.mp k with k | k
      · exact (o.ad y hy).2 k
      · rw [show (([⟨z, x, 0⟩] : List QE).map QE.who) = [z] from rfl, List.mem_singleton] at k
        exact h2 (k ▸ hy)
  · rw [done_left]
    refine ⟨fun e he => o.qn e ((List.mem_filter.mp he).1), fun y hy => o.rn y ((List.mem_filter.mp hy).1), fun y hy => ?_, ?_, fun y hy => ?_, fun y hy => ?_⟩
    · refine o.an y ?_
      by_cases k : s.alone = some z
      · have hy' : (if s.alone = some z then Option.none else s.alone) = some y := hy
        rw [if_pos k] at hy'
        cases hy'
      · have hy' : (if s.alone = some z then Option.none else s.alone) = some y := hy
        rw [if_neg k] at hy'
        exact hy'
    · show (s.reading.filter _ ++ (s.queue.filter _).map QE.who).Nodup
      rw [who_filter, ← List.filter_append]
      exact o.nd.filter _
    · have hy' : s.alone = some y := by
        by_cases k : s.alone = some z
        · have hy' : (if s.alone = some z then Option.none else s.alone) = some y := hy
          rw [if_pos k] at hy'
          cases hy'
        · have hy' : (if s.alone = some z then Option.none else s.alone) = some y := hy
          rw [if_neg k] at hy'
          exact hy'
      obtain ⟨a, b⟩ := o.ad y hy'
      refine ⟨?_, fun k => b ?_⟩
      · show s.reading.filter _ = []
        rw [a]
        rfl
      · have k' : y ∈ (s.queue.filter fun e => decide (e.who ≠ z)).map QE.who := k
        rw [who_filter] at k'
        exact (List.mem_filter.mp k').1
    · show y ∈ s.reading.filter _
      by_cases k : s.asked = some z
      · have hy' : (if s.asked = some z then Option.none else s.asked) = some y := hy
        rw [if_pos k] at hy'
        cases hy'
      · have hy' : (if s.asked = some z then Option.none else s.asked) = some y := hy
        rw [if_neg k] at hy'
        refine List.mem_filter.mpr ⟨o.ka y hy', decide_eq_true fun w => k ?_⟩
        rw [hy', w]
  · rw [refused_asked] at h
    rw [done_asked]
    simp only [Bool.or_eq_false_iff, Bool.not_eq_false', decide_eq_true_eq] at h
    refine ⟨o.qn, o.rn, o.an, o.nd, o.ad, fun y hy => ?_⟩
    cases hy
    exact h.1
  · rw [refused_eased] at h
    rw [done_eased]
    simp only [Bool.or_eq_false_iff, decide_eq_false_iff_not, Classical.not_not] at h
    obtain ⟨a, b⟩ := o.ad z h.2
    refine ⟨o.qn, fun y hy => ?_, (fun y hy => by cases hy), ?_, (fun y hy => by cases hy), fun y hy => ?_⟩
    · rw [List.mem_singleton.mp hy]
      exact hz
    · show ([z] ++ s.queue.map QE.who).Nodup
      exact List.nodup_cons.mpr ⟨b, o.qnd⟩
    · have := o.ka y hy
      rw [a] at this
      cases this
theorem optN_le {α : Type} (o : Option α) : optN o ≤ 1 := by cases o <;> first | exact Nat.zero_le _ | exact Nat.le_refl _
theorem Now.done_sizes {s : Now} (o : s.ok) {d : Deed} (g : d.good) (h : s.refused d = false) : (s.done d).people ≤ s.people + 1 ∧ (s.done d).left ≤ s.left + 1 := by
  obtain ⟨w, z, x⟩ := d
  obtain ⟨hw, hz, hx⟩ := g
  unfold Now.people Now.left
  rcases hw with rfl | rfl | rfl | rfl
  · rw [done_came]
    dsimp only
    rw [List.length_append, List.length_singleton]
    omega
  · rw [done_left]
    dsimp only
    have h1 := List.length_filter_le (fun e : QE => decide (e.who ≠ z)) s.queue
    have h2 := List.length_filter_le (fun y => decide (y ≠ z)) s.reading
    have h3 : optN (if s.alone = some z then Option.none else s.alone) ≤ optN s.alone := by
      split
      · exact Nat.zero_le _
      · exact Nat.le_refl _
    have h4 : optN (if s.asked = some z then Option.none else s.asked) ≤ optN s.asked := by
      split
      · exact Nat.zero_le _
      · exact Nat.le_refl _
    omega
  · rw [done_asked]
    dsimp only
    have := optN_le (some z)
    omega
  · rw [done_eased]
    dsimp only
    rw [refused_eased] at h
    simp only [Bool.or_eq_false_iff, decide_eq_false_iff_not, Classical.not_not] at h
    rw [h.2]
    show _ + 1 + 0 ≤ _ + 1 + 1 ∧ _
    omega
/-- behind a deed and all who begin -/
theorem Lim.next {n : Nat} {s s' : Now} {rows : List JRow} {d : Deed} {pr : List (Str × Str)} {seats pat : Int} {row : JRow} {f : Str × Str → JRow} (l : Lim n s rows) (o : s.ok) (g : d.good) (h : s.refused d = false) (k : Settles seats pat (s.done d) pr s') : s'.ok ∧ Lim (n + 1) s' (rows ++ row :: pr.map f) := by
  obtain ⟨a, b⟩ := Now.done_sizes o g h
  obtain ⟨c1, c2, c3⟩ := k.keep (o.done g h)
  refine ⟨c1, ?_, ?_⟩
  · rw [List.length_append, List.length_cons, List.length_map]
    have := l.book
    omega
  · have := l.ppl
    omega

/-! ### readings of objects, dicts, lists that change -/
section
variable {K : PySem.W.Frag} {σ : L2.St} {H H' : Hp} {t1 t2 t3 : TE} {a1 : TA} {c1 c2 : TT} {x y z v : V} {D : Ends} {u1 u2 u3 : TS} {p C dx : Addr} {fs : List (Str × V)} {f m : Str} {vs : List V} {sp : Sp} {ds : List V} {E : XK}
theorem v_at (h : Vl t1 σ H (.ref p)) (e : H p = some (.ins C dx fs)) (c : Cls K C) (n : NoAttr K C f) (l : fs.lookup f = some v) : Vl (tFld K t1 f) σ H v := fun H1 Q g q => h H1 _ g fun H2 g2 => ⟨p, C, dx, fs, v, rfl, (g.trans g2).ins e, c, n, l, q H2 g2⟩
theorem S_fld (hv : Vl t2 σ H v) (h : Vl t1 σ H (.ref p)) (e : H p = some (.ins C dx fs)) (c : Cls K C) (n : NoAttr K C f) (len : fs.length < 1000) (k : ∀ H1, Gr H H1 → D.nx σ (upd H1 p (.ins C dx (putF f v fs)))) : sFld K t1 t2 f D σ H :=
  hv H _ (.refl _) fun H1 g1 => h H1 _ g1 fun H2 g2 => ⟨p, C, dx, fs, rfl, (g1.trans g2).ins e, c, n, len, k H2 (g1.trans g2)⟩
theorem B_fld (hv : Vl t2 σ H v) (h : Vl t1 σ H (.ref p)) (e : H p = some (.ins C dx fs)) (c : Cls K C) (n : NoAttr K C f) (len : fs.length < 1000) (k : ∀ H1, Gr H H1 → u1 D σ (upd H1 p (.ins C dx (putF f v fs)))) : tSeq (sFld K t1 t2 f) u1 D σ H := S_fld (D := { D with nx := u1 D }) hv h e c n len k
theorem S_fldR {R : V → Hp → Prop} (hv : Vr t2 σ H R) (h : Vl t1 σ H (.ref p)) (e : H p = some (.ins C dx fs)) (c : Cls K C) (n : NoAttr K C f) (len : fs.length < 1000) (mono : ∀ {v H1 H2}, Gr H1 H2 → R v H1 → R v H2) (k : ∀ v H1, Gr H H1 → R v H1 → D.nx σ (upd H1 p (.ins C dx (putF f v fs)))) : sFld K t1 t2 f D σ H :=
  hv H _ (.refl _) fun v H1 g1 hr => h H1 _ g1 fun H2 g2 => ⟨p, C, dx, fs, rfl, (g1.trans g2).ins e, c, n, len, k v H2 (g1.trans g2) (mono g2 hr)⟩
theorem B_fldR {R : V → Hp → Prop} (hv : Vr t2 σ H R) (h : Vl t1 σ H (.ref p)) (e : H p = some (.ins C dx fs)) (c : Cls K C) (n : NoAttr K C f) (len : fs.length < 1000) (mono : ∀ {v H1 H2}, Gr H1 H2 → R v H1 → R v H2) (k : ∀ v H1, Gr H H1 → R v H1 → u1 D σ (upd H1 p (.ins C dx (putF f v fs)))) : tSeq (sFld K t1 t2 f) u1 D σ H := S_fldR (D := { D with nx := u1 D }) hv h e c n len mono k
theorem v_din {w : Str} {l : List Str} (h : Vl t1 σ H (.str w)) (h2 : Vl t2 σ H (.ref p)) (e : H p = some (.dK (rdD l))) : Vl (tDIn t1 t2) σ H (.bl (decide (w ∈ l))) := fun H1 Q g q => h H1 _ g fun H2 g2 => h2 H2 _ (g.trans g2) fun H3 g3 => ⟨p, _, rfl, DGet.k (k := .inr w) (((g.trans g2).trans g3).dK e), by
  rw [rdD_get]
  exact q H3 (g2.trans g3)⟩
theorem v_lenD {kvs : List (Key × V)} (h : Vl t1 σ H (.ref p)) (e : H p = some (.dK kvs)) : Vl (tCB (fun xs H Q => ∃ a kvs, xs = [V.ref a] ∧ H a = some (.dK kvs) ∧ Q (.int kvs.length) H) (tCons t1 tNil)) σ H (.int kvs.length) := v_blt (g_cons h g_nil) fun H1 _ g q => ⟨p, kvs, rfl, g.dK e, q H1 (.refl _)⟩
theorem l_listD {l : List Str} (h : Vl t1 σ H (.ref p)) (e : H p = some (.dK (rdD l))) : Ls (tCB (fun xs H Q => ∃ (a : Addr) (kvs : List (Key × V)), xs = [.ref a] ∧ Rd H a (.dK kvs) ∧ ∀ p, H p = none → Q (.ref p) (upd H p (.lst (kvs.map fun kv => kV kv.1)))) (tCons t1 tNil)) σ H (l.map V.str) :=
  l_blt (g_cons h g_nil) fun _ _ g q => ⟨p, _, rfl, .inl (g.dK e), fun q1 hq => q q1 _ hq (.new hq) (by rw [upd_same, rdD_keys])⟩
theorem S_ddel {w : Str} {l : List Str} (h : Vl t1 σ H (.ref p)) (h2 : Vl t2 σ H (.str w)) (e : H p = some (.dK (rdD l))) (hw : w ∈ l) (k : ∀ H1, Gr H H1 → D.nx σ (upd H1 p (.dK (rdD (l.filter fun x => decide (x ≠ w)))))) : sDDel t1 t2 D σ H := h H _ (.refl _) fun H1 g => h2 H1 _ g fun H2 g2 => ⟨p, _, .inr w, rfl, (g.trans g2).dK e, rfl, by rw [rdD_get]; exact decide_eq_true hw, by
  rw [rdD_drop]
  exact k H2 (g.trans g2)⟩
theorem B_ddel {w : Str} {l : List Str} (h : Vl t1 σ H (.ref p)) (h2 : Vl t2 σ H (.str w)) (e : H p = some (.dK (rdD l))) (hw : w ∈ l) (k : ∀ H1, Gr H H1 → u1 D σ (upd H1 p (.dK (rdD (l.filter fun x => decide (x ≠ w)))))) : tSeq (sDDel t1 t2) u1 D σ H := S_ddel (D := { D with nx := u1 D }) h h2 e hw k
theorem S_dadd {w : Str} {l : List Str} (hv : Vl t3 σ H (.bl true)) (h : Vl t1 σ H (.ref p)) (h2 : Vl t2 σ H (.str w)) (e : H p = some (.dK (rdD l))) (hw : w ∉ l) (n : l.length ≤ 10000) (k : ∀ H1, Gr H H1 → D.nx σ (upd H1 p (.dK (rdD (l ++ [w]))))) : sDPut t1 t2 t3 D σ H := hv H _ (.refl _) fun H1 g => h H1 _ g fun H2 g2 => h2 H2 _ (g.trans g2) fun H3 g3 => ⟨p, _, rfl, DPut.k (k := .inr w) (((g.trans g2).trans g3).dK e) (small' (by unfold rdD; rw [List.length_map]; omega)), by
  rw [rdD_put _ _ hw]
  exact k H3 ((g.trans g2).trans g3)⟩
theorem B_dadd {w : Str} {l : List Str} (hv : Vl t3 σ H (.bl true)) (h : Vl t1 σ H (.ref p)) (h2 : Vl t2 σ H (.str w)) (e : H p = some (.dK (rdD l))) (hw : w ∉ l) (n : l.length ≤ 10000) (k : ∀ H1, Gr H H1 → u1 D σ (upd H1 p (.dK (rdD (l ++ [w]))))) : tSeq (sDPut t1 t2 t3) u1 D σ H := S_dadd (D := { D with nx := u1 D }) hv h h2 e hw n k
theorem seq_at {i n : Nat} (h : i < n) : seqIndex? (i : Int) n = some i := by
  have h0 : ¬ (i : Int) < 0 := by omega
  unfold seqIndex?
  simp [h, h0]
theorem S_delL {xs : List V} {i : Nat} (h : Vl t1 σ H (.ref p)) (h2 : Vl t2 σ H (.int (i : Int))) (e : H p = some (.lst xs)) (hi : i < xs.length) (hs : i ≤ 100000) (k : ∀ H1, Gr H H1 → D.nx σ (upd H1 p (.lst (xs.eraseIdx i)))) : tDelL t1 t2 D σ H := h H _ (.refl _) fun H1 g => h2 H1 _ g fun H2 g2 => ⟨p, xs, i, i, rfl, rfl, (g.trans g2).lst e, by omega, by omega, seq_at hi, k H2 (g.trans g2)⟩
theorem tu_ret {xs : List V} (h : Tu t1 σ H xs) (k : ∀ t H1, H t = none → Gr H H1 → H1 t = some (.tup xs) → D.rt (.ref t) H1) : tRet t1 D σ H := h H _ (.refl _) k
/-- e.m(..), a promise of which nothing changes -/
theorem v_meth (h : Vl t1 σ H (.ref p)) (e : H p = some (.ins C dx fs)) (l : fs.lookup m = none) (a : Ag a1 σ H vs) (k : SpV sp (.ref p :: (vs ++ ds)) H z) : Vl (tMeth C m sp ds E t1 a1) σ H z := fun H1 _ g q => h H1 _ g fun H2 g2 => ⟨p, dx, fs, rfl, (g.trans g2).ins e, l, a H2 _ (g.trans g2) fun H3 g3 => k H3 _ _ ((g.trans g2).trans g3) fun H4 g4 => q H4 ((g2.trans g3).trans g4)⟩
theorem l_meth {xs : List V} (h : Vl t1 σ H (.ref p)) (e : H p = some (.ins C dx fs)) (l : fs.lookup m = none) (a : Ag a1 σ H vs) (k : SpL sp (.ref p :: (vs ++ ds)) H xs) : Ls (tMeth C m sp ds E t1 a1) σ H xs := fun H1 _ g q => h H1 _ g fun H2 g2 => ⟨p, dx, fs, rfl, (g.trans g2).ins e, l, a H2 _ (g.trans g2) fun H3 g3 => k H3 _ _ ((g.trans g2).trans g3) fun b H4 hb g4 h4 => q b H4 ((g2.trans g3).free hb) ((g2.trans g3).trans g4) h4⟩
theorem r_meth {R : V → Hp → Prop} (h : Vl t1 σ H (.ref p)) (e : H p = some (.ins C dx fs)) (l : fs.lookup m = none) (a : Ag a1 σ H vs) (k : SpR sp (.ref p :: (vs ++ ds)) H R) : Vr (tMeth C m sp ds E t1 a1) σ H R := fun H1 _ g q => h H1 _ g fun H2 g2 => ⟨p, dx, fs, rfl, (g.trans g2).ins e, l, a H2 _ (g.trans g2) fun H3 g3 => k H3 _ _ ((g.trans g2).trans g3) fun v H4 g4 h4 => q v H4 ((g2.trans g3).trans g4) h4⟩
/-- e.m(..), by the promise itself -/
theorem meth {Q : VK} (h : Vl t1 σ H (.ref p)) (e : H p = some (.ins C dx fs)) (l : fs.lookup m = none) (a : Ag a1 σ H vs) (k : ∀ H1, Gr H H1 → sp (.ref p :: (vs ++ ds)) H1 Q E) : tMeth C m sp ds E t1 a1 σ H Q := h H _ (.refl _) fun H2 g2 => ⟨p, dx, fs, rfl, g2.ins e, l, a H2 _ g2 fun H3 g3 => k H3 (g2.trans g3)⟩
theorem B_meth (h : Vl t1 σ H (.ref p)) (e : H p = some (.ins C dx fs)) (l : fs.lookup m = none) (a : Ag a1 σ H vs) (k : ∀ H1, Gr H H1 → sp (.ref p :: (vs ++ ds)) H1 (fun _ H2 => u1 D σ H2) E) : tSeq (tDrop (tMeth C m sp ds E t1 a1)) u1 D σ H := meth h e l a k
theorem S_retM (h : Vl t1 σ H (.ref p)) (e : H p = some (.ins C dx fs)) (l : fs.lookup m = none) (a : Ag a1 σ H vs) (k : ∀ H1, Gr H H1 → sp (.ref p :: (vs ++ ds)) H1 D.rt E) : tRet (tMeth C m sp ds E t1 a1) D σ H := meth h e l a k
theorem B_setM {i : Nat} (h : Vl t1 σ H (.ref p)) (e : H p = some (.ins C dx fs)) (l : fs.lookup m = none) (a : Ag a1 σ H vs) (k : ∀ H1, Gr H H1 → sp (.ref p :: (vs ++ ds)) H1 (fun v H2 => u1 D (σ.set i (some v)) H2) E) : tSeq (tAsg (tMeth C m sp ds E t1 a1) (gName i)) u1 D σ H := meth h e l a k
theorem S_setM {i : Nat} (h : Vl t1 σ H (.ref p)) (e : H p = some (.ins C dx fs)) (l : fs.lookup m = none) (a : Ag a1 σ H vs) (k : ∀ H1, Gr H H1 → sp (.ref p :: (vs ++ ds)) H1 (fun v H2 => D.nx (σ.set i (some v)) H2) E) : tAsg (tMeth C m sp ds E t1 a1) (gName i) D σ H := meth h e l a k
theorem S_retMU {ts : List V} (h : Vl t1 σ H (.ref p)) (e : H p = some (.ins C dx fs)) (l : fs.lookup m = none) (a : Tu t2 σ H ts) (k : ∀ pt H1, H pt = none → Gr H H1 → H1 pt = some (.tup ts) → sp (.ref p :: ([.ref pt] ++ ds)) H1 D.rt E) : tRet (tMeth C m sp ds E t1 (tCons t2 tNil)) D σ H := h H _ (.refl _) fun H2 g2 => ⟨p, dx, fs, rfl, g2.ins e, l, a H2 _ g2 fun pt H3 hp g3 et => k pt H3 (g2.free hp) (g2.trans g3) et⟩
theorem B_unp3 {q : Addr} {n i j k : Nat} (hn : 3 = n) (h : Vl t1 σ H (.ref q)) (e : H q = some (.tup [x, y, z])) (kk : ∀ H1, Gr H H1 → u1 D (((σ.set i (some x)).set j (some y)).set k (some z)) H1) : tSeq (tAsg t1 (gTup K n (gCons (gName i) (gCons (gName j) (gCons (gName k) gNil))))) u1 D σ H :=
  h H _ (.refl _) fun H1 g => ⟨q, _, rfl, SqT.of (g.tup e), hn, x, _, rfl, y, _, rfl, z, _, rfl, rfl, kk H1 g⟩
theorem B_unp2 {q : Addr} {n i j : Nat} (hn : 2 = n) (h : Vl t1 σ H (.ref q)) (e : H q = some (.tup [x, y])) (kk : ∀ H1, Gr H H1 → u1 D ((σ.set i (some x)).set j (some y)) H1) : tSeq (tAsg t1 (gTup K n (gCons (gName i) (gCons (gName j) gNil)))) u1 D σ H :=
  h H _ (.refl _) fun H1 g => ⟨q, _, rfl, SqT.of (g.tup e), hn, x, _, rfl, y, _, rfl, rfl, kk H1 g⟩
theorem ix_nat {n i : Nat} (h : i < n) : ixN n (i : Int) = some i := by
  unfold ixN
  rw [if_pos (by omega), if_pos (by omega), Int.toNat_natCast]
theorem S_setIxU {l : Addr} {xs ts : List V} {i : Nat} (hv : Tu t1 σ H ts) (h : Vl t2 σ H (.ref l)) (h3 : Vl t3 σ H (.int (i : Int))) (e : H l = some (.lst xs)) (hi : i < xs.length) (kk : ∀ pt H1, H pt = none → Gr H H1 → H1 pt = some (.tup ts) → D.nx σ (upd H1 l (.lst (xs.set i (.ref pt))))) : tAsg t1 (gSub t2 t3 rSetL) D σ H :=
  hv H _ (.refl _) fun pt H1 hp g et => h H1 _ g fun H2 g2 => h3 H2 _ (g.trans g2) fun H3 g3 => ⟨l, xs, i, i, rfl, rfl, ((g.trans g2).trans g3).lst e, ix_nat hi, kk pt H3 hp ((g.trans g2).trans g3) ((g2.trans g3).tup et)⟩
theorem B_unpPop {l q : Addr} {xs : List V} {n i j k m : Nat} (hn : 3 = n) (h : Vl t1 σ H (.ref l)) (h2 : Vl t2 σ H (.int (m : Int))) (e : H l = some (.lst xs)) (hm : xs[m]? = some (.ref q)) (hs : m ≤ 100000) (et : H q = some (.tup [x, y, z])) (kk : ∀ H1, Gr H H1 → u1 D (((σ.set i (some x)).set j (some y)).set k (some z)) (upd H1 l (.lst (xs.eraseIdx m)))) :
    tSeq (tAsg (tBM K "list" rPopAt t1 (tCons t2 tNil)) (gTup K n (gCons (gName i) (gCons (gName j) (gCons (gName k) gNil))))) u1 D σ H :=
  h H _ (.refl _) fun H1 g => ⟨.inl ⟨rfl, xs, SqL.of (g.lst e)⟩, h2 H1 _ g fun H2 g2 => ⟨l, xs, m, m, .ref q, rfl, rfl, (g.trans g2).lst e, by omega, by omega, seq_at (List.getElem?_eq_some_iff.mp hm).1, hm, q, _, rfl, SqT.of ((upd_ne fun w => by have e1 := (g.trans g2).lst e; rw [← w, (g.trans g2).tup et] at e1; cases e1).trans ((g.trans g2).tup et)), hn, x, _, rfl, y, _, rfl, z, _, rfl, rfl, kk H2 (g.trans g2)⟩⟩
end
theorem TupsAt.set {α : Type} {f : α → List V} {H : Hp} {p : Addr} {r : α} (h : H p = some (.tup (f r))) : ∀ (n : Nat) {vs : List V} {l : List α}, TupsAt H f vs l → TupsAt H f (vs.set n (.ref p)) (l.set n r)
  | _, _, _, .nil => .nil
  | 0, _, _, .cons _ t => .cons h t
  | n + 1, _, _, .cons k t => .cons k (TupsAt.set h n t)
theorem TupsAt.erase {α : Type} {f : α → List V} {H : Hp} : ∀ (n : Nat) {vs : List V} {l : List α}, TupsAt H f vs l → TupsAt H f (vs.eraseIdx n) (l.eraseIdx n)
  | _, _, _, .nil => .nil
  | 0, _, _, .cons _ t => t
  | n + 1, _, _, .cons k t => .cons k (TupsAt.erase n t)
section
variable {K : PySem.W.Frag} {σ : L2.St} {H : Hp} {t1 t2 : TE}
/-- a comprehension over tuples, taken apart by its target -/
theorem r_cmpG {α β : Type} {f : α → List V} {g : β → List V} {F : α → β} {τ : α → L2.St} {gt : TG} {a : Addr} {xs : List V} {l : List α} {ws : List Nat} (h : Vl t2 σ H (.ref a)) (hx : H a = some (.lst xs)) (tx : TupsAt H f xs l) (hz : xs.length ≤ 40000)
    (hg : ∀ (p : Addr) (u : α) H1 (Q : L2.St → Hp → Prop), H1 p = some (.tup (f u)) → Q (τ u) H1 → gt (.ref p) (wipe σ ws) H1 Q) (hw : ∀ u, wipe (τ u) ws = wipe σ ws) (he : ∀ u H1, Gr H H1 → Tu t1 (τ u) H1 (g (F u))) :
    Vr (tLc (iList K t2) gt tYes t1 ws) σ H (fun v H1 => ∃ la ya, v = .ref la ∧ H la = none ∧ H1 la = some (.lst ya) ∧ TupsAt H1 g ya (l.map F)) := fun H0 Q gr q => h H0 _ gr fun H1 g1 => ⟨a, rfl, ⟨xs, SqL.of ((gr.trans g1).lst hx)⟩, fun p hp =>
  lc_list (xs := xs) (fun m H' => H1 p = none ∧ Gr H1 H' ∧ ∃ ya, H' p = some (.lst ya) ∧ TupsAt H' g ya ((l.take m).map F)) ⟨hp, .new hp, [], upd_same, .nil⟩ (fun _ H' _ w => SqL.of (((gr.trans g1).trans w.2.1).lst hx)) (fun m x H' hm ⟨w1, w2, ya, w3, w4⟩ => by
    have hm' : m < l.length := by
      have := (List.getElem?_eq_some_iff.mp hm).1
      have := tx.length
      omega
    obtain ⟨pt, hpt, ht⟩ := tx.get m (List.getElem?_eq_getElem hm')
    rw [hm] at hpt
    obtain rfl := Option.some.inj hpt
    have gg := (gr.trans g1).trans w2
    have ly := w4.length
    rw [List.length_map, List.length_take] at ly
    have lxx := tx.length
    refine hg pt l[m] H' _ (gg.tup ht) ⟨hw _, s_yes H' _ (.refl _) fun H3 g3 => iteT (he l[m] H3 (gg.trans g3) H3 _ (.refl _) fun t H4 _ g4 e4 => ⟨ya, g4.lst (g3.lst w3), small' (by omega), w1, ((w2.trans g3).trans g4).chg w1, ya ++ [.ref t], upd_same, ?_⟩)⟩
    have hp4 := g4.lst (g3.lst w3)
    rw [List.take_succ, List.getElem?_eq_getElem hm', Option.toList_some, List.map_append]
    exact ((w4.mono (g3.trans g4)).chg fun ts z => by rw [hp4] at z; cases z).snoc ((upd_ne fun z => by rw [z, hp4] at e4; cases e4).trans e4)) fun H' ⟨w1, w2, ya, w3, w4⟩ => q _ H' (g1.trans w2) ⟨p, ya, rfl, (gr.trans g1).free w1, w3, by
      rw [List.take_of_length_le (by rw [tx.length]; exact Nat.le_refl _)] at w4
      exact w4⟩⟩
end
theorem put_new {f : Str} {v : V} : ∀ {fs : List (Str × V)}, (∀ g ∈ fs.map (·.1), g ≠ f) → putF f v fs = fs ++ [(f, v)]
  | [], _ => rfl
  | (g, x) :: r, h => by
    have h1 : g ≠ f := h g List.mem_cons_self
    unfold putF
    rw [if_neg h1, put_new fun y hy => h y (List.mem_cons_of_mem _ hy)]
    rfl
theorem r_dnew {σ : L2.St} {H : Hp} : Vr tDNewK σ H (fun v H2 => ∃ d, v = .ref d ∧ H d = none ∧ H2 d = some (.dK [])) := fun H1 Q g q => fun d hd => q _ _ (.new hd) ⟨d, rfl, g.free hd, upd_same⟩

/-! ### what the room's defs promise -/
structure Rm where
  p : Addr
  a : RAd
  seats : Int
  pat : Int
  s : Now
  rows : List JRow
def Rm.At (K : PySem.W.Frag) (P : Addr) (H : Hp) (r : Rm) : Prop := RoomAt K P H r.p r.a r.seats r.pat r.s r.rows
def Rm.L (r : Rm) : Addr → Prop := Fp r.p r.a
def Rm.fine (r : Rm) (n : Nat) : Prop := r.s.ok ∧ Lim n r.s r.rows ∧ n ≤ 5000
theorem Rm.At.mono {K : PySem.W.Frag} {P : Addr} {H H' : Hp} {r : Rm} (g : Gr H H') (h : r.At K P H) : r.At K P H' := RoomAt.mono g h
def natV : Option Nat → V
  | none => .non
  | some i => .int i
def canB (seats reading : Int) (writes : Bool) (wish : Str) : Bool := if writes = true then false else if wish = rd then decide (reading < seats) else decide (reading = 0)
def nextQ (l : List QE) (seats p reading : Int) (writes : Bool) : Option Nat :=
  match l with
  | [] => none
  | e :: _ => if canB seats reading writes e.wish = true then some 0 else if e.wish = wr ∧ 0 < reading ∧ canB seats reading writes rd = true then scan p l 0 else none
theorem nextQ_cons {e : QE} {l : List QE} {s p r : Int} {b : Bool} : nextQ (e :: l) s p r b = if canB s r b e.wish = true then some 0 else if e.wish = wr ∧ 0 < r ∧ canB s r b rd = true then scan p (e :: l) 0 else none := rfl
def spCan : Sp := fun vs H Q _ => ∃ (s r : Int) (b : Bool) (w : Str), vs = [.int s, .int r, .bl b, .str w] ∧ RV (.bl (canB s r b w)) H Q
def spFirst (K : PySem.W.Frag) : Sp := fun vs H Q _ => ∃ (a : Addr) (xs : List V) (l : List QE) (p : Int), vs = [.ref a, .int p] ∧ H a = some (.lst xs) ∧ TupsAt H QE.vs xs l ∧ RV (natV (scan p l 0)) H Q
def spNextP (K : PySem.W.Frag) : Sp := fun vs H Q _ => ∃ (a : Addr) (xs : List V) (l : List QE) (s p r : Int) (b : Bool), vs = [.ref a, .int s, .int p, .int r, .bl b] ∧ H a = some (.lst xs) ∧ TupsAt H QE.vs xs l ∧ RV (natV (nextQ l s p r b)) H Q
/-- the program's rule is the rule -/
theorem nextQ_is {s : Now} {seats pat : Int} (o : s.ok) (h : s.asked = none) : (nextQ s.queue seats pat s.reading.length (decide (s.alone ≠ none))).map (fun k => ((k : Nat) : Int)) = s.next seats pat := by
  unfold Now.next
  rw [h]
  dsimp only
  cases hq : s.queue with
  | nil => rfl
  | cons e l =>
    rw [nextQ_cons]
    dsimp only
    have lr : ((s.reading.length : Int) = 0) ↔ s.reading = [] := by
      rw [← List.length_eq_zero_iff]
      omega
    by_cases ha : s.alone = none
    · have nb : decide (s.alone ≠ none) = false := decide_eq_false fun z => z ha
      rw [nb]
      rcases (o.qn e (hq ▸ List.mem_cons_self)).2 with w | w
      · have w2 : ¬ e.wish = wr := fun z => rdNe (w.symm.trans z)
        have sc : scan pat (e :: l) 0 = some 0 := by
          unfold scan
          rw [if_pos w]
        by_cases hs : (s.reading.length : Int) < seats
        · simp [canB, ha, w, rdNe, hs, sc]
        · simp [canB, ha, w, rdNe, hs]
      · have w2 : ¬ e.wish = rd := fun z => rdNe (z.symm.trans w)
        by_cases hr : s.reading = []
        · simp [canB, ha, w, wrNe, hr]
        · have nz : ¬ (s.reading.length : Int) = 0 := fun z => hr (lr.mp z)
          by_cases hs : (s.reading.length : Int) < seats
          · have h0 : 0 < s.reading.length := by omega
            have h1 : ¬ seats ≤ (s.reading.length : Int) := by omega
            simp [canB, ha, w, wrNe, hr, hs, h0, h1]
            cases scan pat (e :: l) 0 <;> rfl
          · have h1 : seats ≤ (s.reading.length : Int) := by omega
            simp [canB, ha, w, wrNe, hr, hs, h1]
    · have nb : decide (s.alone ≠ none) = true := decide_eq_true ha
      rw [nb]
      simp [canB, ha]
def Now.isIn (s : Now) (z : Str) : Bool := decide (z ∈ s.reading) || decide (s.alone = some z)
def findAt (z : Str) : List QE → Nat → Option Nat
  | [], _ => none
  | e :: l, k => if e.who = z then some k else findAt z l (k + 1)
theorem findAt_some {z : Str} : ∀ {l : List QE} {k m : Nat}, findAt z l k = some m → ∃ j e, m = k + j ∧ l[j]? = some e ∧ e.who = z
  | [], _, _, h => by cases h
  | e :: l, k, m, h => by
    unfold findAt at h
    by_cases h1 : e.who = z
    · rw [if_pos h1] at h
      cases h
      exact ⟨0, e, rfl, rfl, h1⟩
    · rw [if_neg h1] at h
      obtain ⟨j, u, rfl, hj, hw⟩ := findAt_some h
      exact ⟨j + 1, u, by omega, hj, hw⟩
theorem findAt_mem {z : Str} : ∀ {l : List QE} {k : Nat}, (findAt z l k).isSome = decide (z ∈ l.map QE.who)
  | [], _ => rfl
  | e :: l, k => by
    unfold findAt
    by_cases h1 : e.who = z
    · rw [if_pos h1]
      exact (decide_eq_true (by rw [List.map_cons, h1]; exact List.mem_cons_self)).symm
    · rw [if_neg h1, findAt_mem]
      refine decide_eq_decide.mpr ⟨fun h => ?_, fun h => ?_⟩
      · rw [List.map_cons]
        exact List.mem_cons_of_mem _ h
      · rw [List.map_cons] at h
        exact (List.mem_cons.mp h).resolve_left fun w => h1 w.symm
def spPlaceM (K : PySem.W.Frag) (P : Addr) : Sp := fun vs H Q _ => ∃ (r : Rm) (z : Str), vs = [.ref r.p, .str z] ∧ r.At K P H ∧ RV (natV (findAt z r.s.queue 0)) H Q
theorem sv_place {K : PySem.W.Frag} {P : Addr} {H : Hp} {r : Rm} {z : Str} (h : r.At K P H) : SpV (spPlaceM K P) [.ref r.p, .str z] H (natV (findAt z r.s.queue 0)) := fun H1 Q E g q => ⟨r, z, rfl, h.mono g, q⟩
def spIsIn (K : PySem.W.Frag) (P : Addr) : Sp := fun vs H Q _ => ∃ (r : Rm) (z : Str), vs = [.ref r.p, .str z] ∧ r.At K P H ∧ RV (.bl (r.s.isIn z)) H Q
theorem sv_isin {K : PySem.W.Frag} {P : Addr} {H : Hp} {r : Rm} {z : Str} (h : r.At K P H) : SpV (spIsIn K P) [.ref r.p, .str z] H (.bl (r.s.isIn z)) := fun H1 Q E g q => ⟨r, z, rfl, h.mono g, q⟩
def knownV (s : Now) : V → Bool
  | .str z => s.known z
  | _ => false
theorem Now.known_is (s : Now) (z : Str) : s.known z = (s.isIn z || decide (z ∈ s.queue.map QE.who)) := by
  unfold Now.known Now.isIn
  rw [Bool.or_assoc]
theorem Now.ok.named {s : Now} (o : s.ok) {z : Str} (h : s.known z = true) : nameB z = true := by
  unfold Now.known at h
  simp only [Bool.or_eq_true, decide_eq_true_eq] at h
  rcases h with h | h | h
  · exact o.rn z h
  · exact o.an z h
  · obtain ⟨e, he, rfl⟩ := List.mem_map.mp h
    exact (o.qn e he).1
def spIsKnown (K : PySem.W.Frag) (P : Addr) : Sp := fun vs H Q _ => ∃ (r : Rm) (v : V), vs = [.ref r.p, v] ∧ r.At K P H ∧ r.s.ok ∧ Thing K v H ∧ RV (.bl (knownV r.s v)) H Q
theorem sv_isknown {K : PySem.W.Frag} {P : Addr} {H : Hp} {r : Rm} {v : V} (h : r.At K P H) (o : r.s.ok) (t : Thing K v H) : SpV (spIsKnown K P) [.ref r.p, v] H (.bl (knownV r.s v)) := fun H1 Q E g q => ⟨r, v, rfl, h.mono g, o, t.mono g, q⟩
/-- refused by an error of this class, or done -/
def Grd (K : PySem.W.Frag) (H : Hp) (E : XK) (x : Option Str) (k : Prop) : Prop := match x with
  | none => k
  | some e => ∀ H1, Gr H H1 → E (.ref (He.ga K e)) none H1
def refKnown (s : Now) (v : V) : Option Str := if knownV s v = true then none else some "Stranger"
def insideV (s : Now) : V → Bool
  | .str z => s.isIn z
  | _ => false
def refIn (s : Now) (v : V) : Option Str := if knownV s v = true then (if insideV s v = true then none else some "Outside") else some "Stranger"
def spNeedKnown (K : PySem.W.Frag) (P : Addr) : Sp := fun vs H Q E => ∃ (r : Rm) (v : V), vs = [.ref r.p, v] ∧ r.At K P H ∧ r.s.ok ∧ Thing K v H ∧ Grd K H E (refKnown r.s v) (RV .non H Q)
def spNeedIn (K : PySem.W.Frag) (P : Addr) : Sp := fun vs H Q E => ∃ (r : Rm) (v : V), vs = [.ref r.p, v] ∧ r.At K P H ∧ r.s.ok ∧ Thing K v H ∧ Grd K H E (refIn r.s v) (RV .non H Q)
/-! #### what changes the room -/
def passedTo (l : List QE) (m : Nat) : List QE := (l.take m).map QE.bump ++ l.drop m
theorem passedTo_get (l : List QE) (m : Nat) : (passedTo l m)[m]? = l[m]? := by
  unfold passedTo
  by_cases h : m ≤ l.length
  · rw [List.getElem?_append_right (by rw [List.length_map, List.length_take]; omega), List.length_map, List.length_take, Nat.min_eq_left h, Nat.sub_self, List.getElem?_drop]
    rfl
  · rw [List.getElem?_eq_none (by rw [List.length_append, List.length_map, List.length_take, List.length_drop]; omega), List.getElem?_eq_none (by omega)]
theorem passedTo_set {l : List QE} {m : Nat} {e : QE} (h : l[m]? = some e) : (passedTo l m).set m e.bump = passedTo l (m + 1) := by
  obtain ⟨hm, he⟩ := List.getElem?_eq_some_iff.mp h
  unfold passedTo
  have ll : ((l.take m).map QE.bump).length = m := by rw [List.length_map, List.length_take, Nat.min_eq_left (by omega)]
  rw [List.set_append_right (h := by rw [ll]; exact Nat.le_refl _), ll, Nat.sub_self, List.drop_eq_getElem_cons hm, List.set_cons_zero, List.take_succ, h, Option.toList_some, List.map_append, List.append_assoc]
  rfl
theorem passedTo_erase {l : List QE} {m : Nat} (h : m < l.length) : (passedTo l m).eraseIdx m = (l.take m).map QE.bump ++ l.drop (m + 1) := by
  unfold passedTo
  have ll : ((l.take m).map QE.bump).length = m := by rw [List.length_map, List.length_take, Nat.min_eq_left (by omega)]
  rw [List.eraseIdx_append_of_length_le (by rw [ll]; exact Nat.le_refl _), ll, Nat.sub_self, List.drop_eq_getElem_cons h]
  rfl
theorem passedTo_len {l : List QE} {m : Nat} : (passedTo l m).length = l.length := by
  unfold passedTo
  rw [List.length_append, List.length_map, List.length_take, List.length_drop]
  omega
def spCount (K : PySem.W.Frag) (P : Addr) : Sp := fun vs H Q _ => ∃ (r : Rm) (m : Nat), vs = [.ref r.p, .int (m : Int)] ∧ r.At K P H ∧ m < r.s.queue.length ∧ r.s.queue.length ≤ 10000 ∧ ∀ H1, Ch r.L H H1 → ({ r with s := { r.s with queue := passedTo r.s.queue m } } : Rm).At K P H1 → Q .non H1
/-- who begins next begins -/
def RBeg (K : PySem.W.Frag) (P : Addr) (H : Hp) (r : Rm) (Q : VK) : Prop := match r.s.next r.seats r.pat with
  | .none => RV .non H Q
  | some i => ∀ H1 t, Ch r.L H H1 → H t = none → H1 t = some (.tup (P2.vs (r.s.pr i))) → ({ r with s := r.s.began i } : Rm).At K P H1 → Q (.ref t) H1
def spBegin (K : PySem.W.Frag) (P : Addr) : Sp := fun vs H Q _ => ∃ (r : Rm), vs = [.ref r.p] ∧ r.At K P H ∧ r.s.ok ∧ r.s.people ≤ 10000 ∧ RBeg K P H r Q
def spBegAsked (K : PySem.W.Frag) (P : Addr) : Sp := fun vs H Q _ => ∃ (r : Rm), vs = [.ref r.p] ∧ r.At K P H ∧ r.s.ok ∧ r.s.people ≤ 10000 ∧ r.s.asked ≠ none ∧ RBeg K P H r Q
def Now.goOut (s : Now) (z : Str) : Now := { s with asked := if s.asked = some z then Option.none else s.asked, alone := if s.alone = some z then Option.none else s.alone, reading := if s.alone = some z then s.reading else s.reading.filter fun x => decide (x ≠ z) }
def spGoOut (K : PySem.W.Frag) (P : Addr) : Sp := fun vs H Q _ => ∃ (r : Rm) (z : Str), vs = [.ref r.p, .str z] ∧ r.At K P H ∧ r.s.isIn z = true ∧ ∀ H1, Ch r.L H H1 → ({ r with s := r.s.goOut z } : Rm).At K P H1 → Q .non H1
def begRow (p : Str × Str) : JRow := ["begins", p.1, p.2]
def RSet (K : PySem.W.Frag) (P : Addr) (H : Hp) (r : Rm) (s1 : Now) (row : JRow) (Q : VK) : Prop := ∀ (H1 : Hp) (l : Addr) (xs : List V) (pr : List (Str × Str)) (s' : Now), Ch r.L H H1 → H l = none → H1 l = some (.lst xs) → TupsAt H1 P2.vs xs pr → Settles r.seats r.pat s1 pr s' →
  ({ r with s := s', rows := r.rows ++ row :: pr.map begRow } : Rm).At K P H1 → Q (.ref l) H1
def spSettle (K : PySem.W.Frag) (P : Addr) : Sp := fun vs H Q _ => ∃ (r : Rm) (t : Addr) (row : JRow), vs = [.ref r.p, .ref t] ∧ r.At K P H ∧ r.s.ok ∧ r.s.people ≤ 10000 ∧ r.rows.length + r.s.left ≤ 50000 ∧ H t = some (.tup row.vs) ∧ RSet K P H r r.s row Q
/-! #### the deeds -/
def refCome (s : Now) (v w : V) : Option Str := if nameV v = true then (if wishV w = true then (if knownV s v = true then some "Known" else none) else some "BadWish") else some "BadName"
def aloneV (s : Now) : V → Bool
  | .str z => decide (s.alone = some z)
  | _ => false
def refAsk (s : Now) (v : V) : Option Str := match refIn s v with
  | some x => some x
  | none => if aloneV s v = true then some "Writes" else if s.asked ≠ none then some "Asked" else none
def refEase (s : Now) (v : V) : Option Str := match refIn s v with
  | some x => some x
  | none => if aloneV s v = true then none else some "Reads"
def refPassed (s : Now) (v : V) : Option Str := if knownV s v = true then (if insideV s v = true then some "Inside" else none) else some "Stranger"
def spCome (K : PySem.W.Frag) (P : Addr) : Sp := fun vs H Q E => ∃ (r : Rm) (n : Nat) (v w : V), vs = [.ref r.p, v, w] ∧ r.At K P H ∧ r.fine n ∧ Thing K v H ∧ Thing K w H ∧ Grd K H E (refCome r.s v w) (∀ z x, v = .str z → w = .str x → RSet K P H r (r.s.done ⟨wCame, z, x⟩) [wCame, z, x] Q)
def spOne (K : PySem.W.Frag) (P : Addr) (ref : Now → V → Option Str) (word : Str) : Sp := fun vs H Q E => ∃ (r : Rm) (n : Nat) (v : V), vs = [.ref r.p, v] ∧ r.At K P H ∧ r.fine n ∧ Thing K v H ∧ Grd K H E (ref r.s v) (∀ z, v = .str z → RSet K P H r (r.s.done ⟨word, z, rd⟩) [word, z] Q)
def spPassed (K : PySem.W.Frag) (P : Addr) : Sp := fun vs H Q E => ∃ (r : Rm) (v : V), vs = [.ref r.p, v] ∧ r.At K P H ∧ r.s.ok ∧ Thing K v H ∧ Grd K H E (refPassed r.s v) (∀ z j e, v = .str z → findAt z r.s.queue 0 = some j → r.s.queue[j]? = some e → RV (.int e.often) H Q)
/-! #### what the room tells -/
def spReaders (K : PySem.W.Frag) (P : Addr) : Sp := fun vs H Q _ => ∃ r : Rm, vs = [.ref r.p] ∧ r.At K P H ∧ RL (r.s.reading.map V.str) H Q
def spWriter (K : PySem.W.Frag) (P : Addr) : Sp := fun vs H Q _ => ∃ r : Rm, vs = [.ref r.p] ∧ r.At K P H ∧ RV (optV r.s.alone) H Q
def spAsker (K : PySem.W.Frag) (P : Addr) : Sp := fun vs H Q _ => ∃ r : Rm, vs = [.ref r.p] ∧ r.At K P H ∧ RV (optV r.s.asked) H Q
def NewTups {α : Type} (H : Hp) (f : α → List V) (l : List α) (v : V) (H1 : Hp) : Prop := ∃ la ya, v = .ref la ∧ H la = none ∧ H1 la = some (.lst ya) ∧ TupsAt H1 f ya l
def QE.pair (e : QE) : Str × Str := (e.who, e.wish)
def spLine (K : PySem.W.Frag) (P : Addr) : Sp := fun vs H Q _ => ∃ r : Rm, vs = [.ref r.p] ∧ r.At K P H ∧ r.s.queue.length ≤ 10000 ∧ RR_ (NewTups H P2.vs (r.s.queue.map QE.pair)) H Q
def spJournal (K : PySem.W.Frag) (P : Addr) : Sp := fun vs H Q _ => ∃ r : Rm, vs = [.ref r.p] ∧ r.At K P H ∧ RR_ (NewTups H JRow.vs r.rows) H Q
theorem sl_readers {K : PySem.W.Frag} {P : Addr} {H : Hp} {r : Rm} (h : r.At K P H) : SpL (spReaders K P) [.ref r.p] H (r.s.reading.map V.str) := fun H1 Q E g q => ⟨r, rfl, h.mono g, q⟩
theorem sv_writer {K : PySem.W.Frag} {P : Addr} {H : Hp} {r : Rm} (h : r.At K P H) : SpV (spWriter K P) [.ref r.p] H (optV r.s.alone) := fun H1 Q E g q => ⟨r, rfl, h.mono g, q⟩
theorem sv_asker {K : PySem.W.Frag} {P : Addr} {H : Hp} {r : Rm} (h : r.At K P H) : SpV (spAsker K P) [.ref r.p] H (optV r.s.asked) := fun H1 Q E g q => ⟨r, rfl, h.mono g, q⟩
theorem NewTups.back {α : Type} {H H1 H2 : Hp} {f : α → List V} {l : List α} {v : V} (g : Gr H H1) (h : NewTups H1 f l v H2) : NewTups H f l v H2 := let ⟨la, ya, a, b, c⟩ := h; ⟨la, ya, a, g.free b, c⟩
theorem NewTups.mono {α : Type} {H H1 H2 : Hp} {f : α → List V} {l : List α} {v : V} (g : Gr H1 H2) (h : NewTups H f l v H1) : NewTups H f l v H2 := let ⟨la, ya, a, b, c, t⟩ := h; ⟨la, ya, a, b, g.lst c, t.mono g⟩
theorem sr_line {K : PySem.W.Frag} {P : Addr} {H : Hp} {r : Rm} (h : r.At K P H) (n : r.s.queue.length ≤ 10000) : SpR (spLine K P) [.ref r.p] H (NewTups H P2.vs (r.s.queue.map QE.pair)) := fun H1 Q E g q => ⟨r, rfl, h.mono g, n, fun v H2 g2 k => q v H2 g2 (k.back g)⟩
theorem sr_journal {K : PySem.W.Frag} {P : Addr} {H : Hp} {r : Rm} (h : r.At K P H) : SpR (spJournal K P) [.ref r.p] H (NewTups H JRow.vs r.rows) := fun H1 Q E g q => ⟨r, rfl, h.mono g, fun v H2 g2 k => q v H2 g2 (k.back g)⟩
/-! #### a new room -/
/-- whole numbers in bounds; things that are none -/
def NoInt (K : PySem.W.Frag) (v : V) (H : Hp) : Prop := ∃ n : String, TyX K H v (.type n) ∧ PySem.W.kitOne K (.type n) (.type "int") = some false
theorem NoInt.mono {K : PySem.W.Frag} {v : V} {H H' : Hp} (g : Gr H H') (h : NoInt K v H) : NoInt K v H' := let ⟨n, a, b⟩ := h; ⟨n, g.tyX a, b⟩
/-- a number, true or false, or what is no int -/
def Num3 (K : PySem.W.Frag) (v : V) (H : Hp) : Prop := (∃ i, v = .int i) ∨ (∃ b, v = .bl b) ∨ (NoInt K v H ∧ (∀ i, v ≠ .int i))
theorem Num3.mono {K : PySem.W.Frag} {v : V} {H H' : Hp} (g : Gr H H') (h : Num3 K v H) : Num3 K v H' := h.imp id fun h => h.imp id fun ⟨a, b⟩ => ⟨a.mono g, b⟩
def numV (least : Int) : V → Bool
  | .int i => decide (least ≤ i) && decide (i ≤ 1000000000)
  | _ => false
def spIsNumber (K : PySem.W.Frag) : Sp := fun vs H Q _ => ∃ (v : V) (l : Int), vs = [v, .int l] ∧ Num3 K v H ∧ RV (.bl (numV l v)) H Q
theorem sv_isnumber {K : PySem.W.Frag} {H : Hp} {v : V} {l : Int} (h : Num3 K v H) : SpV (spIsNumber K) [v, .int l] H (.bl (numV l v)) := fun H1 Q E g q => ⟨v, l, rfl, h.mono g, q⟩
def spInit (K : PySem.W.Frag) (P : Addr) : Sp := fun vs H Q E => ∃ (p dx : Addr) (v w : V), vs = [.ref p, v, w] ∧ H p = some (.ins (He.ga K "Room") dx []) ∧ GxR.TabG H P ∧ Num3 K v H ∧ Num3 K w H ∧
  ((numV 1 v && numV 0 w) = false → ∀ H1, Gr H H1 → E (.ref (He.ga K "BadNumber")) none H1) ∧
  ((numV 1 v && numV 0 w) = true → ∀ (a : RAd) (seats pat : Int) H1, v = .int seats → w = .int pat → Ch (fun x => x = p) H H1 → H a.rd = none → H a.ln = none → H a.rw = none → a.dx = dx → (⟨p, a, seats, pat, Now.none, []⟩ : Rm).At K P H1 → Q .non H1)
def if1 (s : Int) : List (Str × V) := [("seats", .int s)]
def if2 (s p : Int) : List (Str × V) := if1 s ++ ([("patience", .int p)] : List (Str × V))
def if3 (s p : Int) (d : Addr) : List (Str × V) := if2 s p ++ ([("_readers", .ref d)] : List (Str × V))
def if4 (s p : Int) (d : Addr) : List (Str × V) := if3 s p d ++ ([("_writer", .non)] : List (Str × V))
def if5 (s p : Int) (d : Addr) : List (Str × V) := if4 s p d ++ ([("_asker", .non)] : List (Str × V))
def if6 (s p : Int) (d l : Addr) : List (Str × V) := if5 s p d ++ ([("_line", .ref l)] : List (Str × V))
theorem put_if1 {s : Int} : putF "seats" (.int s) [] = if1 s := rfl
theorem put_if2 {s p : Int} : putF "patience" (.int p) (if1 s) = if2 s p := put_new (show ∀ g ∈ (["seats"] : List Str), g ≠ "patience" by decide +kernel)
theorem put_if3 {s p : Int} {d : Addr} : putF "_readers" (.ref d) (if2 s p) = if3 s p d := put_new (show ∀ g ∈ (["seats", "patience"] : List Str), g ≠ "_readers" by decide +kernel)
theorem put_if4 {s p : Int} {d : Addr} : putF "_writer" .non (if3 s p d) = if4 s p d := put_new (show ∀ g ∈ (["seats", "patience", "_readers"] : List Str), g ≠ "_writer" by decide +kernel)
theorem put_if5 {s p : Int} {d : Addr} : putF "_asker" .non (if4 s p d) = if5 s p d := put_new (show ∀ g ∈ (["seats", "patience", "_readers", "_writer"] : List Str), g ≠ "_asker" by decide +kernel)
theorem put_if6 {s p : Int} {d l : Addr} : putF "_line" (.ref l) (if5 s p d) = if6 s p d l := put_new (show ∀ g ∈ (["seats", "patience", "_readers", "_writer", "_asker"] : List Str), g ≠ "_line" by decide +kernel)
theorem put_if7 {s p : Int} {a : RAd} : putF "_rows" (.ref a.rw) (if6 s p a.rd a.ln) = rfs s p a .non .non := put_new (show ∀ g ∈ (["seats", "patience", "_readers", "_writer", "_asker", "_line"] : List Str), g ≠ "_rows" by decide +kernel)

/-! ### a new room: what is made, what it tells -/
structure R4 (K : PySem.W.Frag) (H : Hp) (p : Addr) (a : RAd) (seats pat : Int) : Prop where
  ins : H p = some (.ins (He.ga K "Room") a.dx (rfs seats pat a .non .non))
  dict : H a.rd = some (.dK (rdD []))
  line : H a.ln = some (.lst [])
  book : H a.rw = some (.lst [])
theorem R4.mono {K : PySem.W.Frag} {H H' : Hp} {p : Addr} {a : RAd} {seats pat : Int} (g : Gr H H') (h : R4 K H p a seats pat) : R4 K H' p a seats pat := ⟨g.ins h.ins, g.dK h.dict, g.lst h.line, g.lst h.book⟩
def spInit4 (K : PySem.W.Frag) : Sp := fun vs H Q E => ∃ (p dx : Addr) (v w : V), vs = [.ref p, v, w] ∧ H p = some (.ins (He.ga K "Room") dx []) ∧ Num3 K v H ∧ Num3 K w H ∧
  ((numV 1 v && numV 0 w) = false → ∀ H1, Gr H H1 → E (.ref (He.ga K "BadNumber")) none H1) ∧
  ((numV 1 v && numV 0 w) = true → ∀ (a : RAd) (seats pat : Int) H1, v = .int seats → w = .int pat → Ch (fun x => x = p) H H1 → R4 K H1 p a seats pat → Q .non H1)
def spTell4 (K : PySem.W.Frag) (xs : List V) : Sp := fun vs H Q _ => ∃ (p : Addr) (a : RAd) (s t : Int), vs = [.ref p] ∧ R4 K H p a s t ∧ RL xs H Q
def spWho4 (K : PySem.W.Frag) : Sp := fun vs H Q _ => ∃ (p : Addr) (a : RAd) (s t : Int), vs = [.ref p] ∧ R4 K H p a s t ∧ RV .non H Q
section
variable {K : PySem.W.Frag} {σ : L2.St} {H : Hp} {a1 : TA} {vs : List V} {z : V} {sp : Sp} {F : L2.St → XK}
theorem v_callH (h : Ag a1 σ H vs) (k : SpV sp vs H z) : Vl (tCallS sp F a1) σ H z := fun H1 _ g q => h H1 _ g fun H2 g2 => k H2 _ (F σ) (g.trans g2) fun H3 g3 => q H3 (g2.trans g3)
end
theorem ok_ReadersM (T : Top K mg) : FnOk P w K mg base CX0 1 T.f_ReadersM T.fd_ReadersM ["self"] (spTell4 K []) := by
  refine T.F_ReadersM.ok scReadersM (fun vs H Q E h => ?_) (fun cdv A outer s H vs Q E hr h => ?_)
  · obtain ⟨r, a, s, t, rfl, h, q⟩ := h
    rfl
  · obtain ⟨r, a, s, t, rfl, h, q⟩ := h
    refine ⟨_, (pss_one (ps_ret (pe_callTy (call_listD rfl) (by rfl) T.m_list (by decide +kernel) (pa_cons (pe_fld (pv 0) rfl) pa_nil)))), ?_⟩
    refine slots (start_ReadersM _) ?_
    exact S_retL (l_listD (l := []) (v_at (v_slot rfl) h.ins T.cl_Room T.n_Room__readers rfl) h.dict) fun p H1 hp e1 h1 => q p H1 hp e1 h1
theorem ok_WriterM (T : Top K mg) : FnOk P w K mg base CX0 1 T.f_WriterM T.fd_WriterM ["self"] (spWho4 K) := by
  refine T.F_WriterM.ok scWriterM (fun vs H Q E h => ?_) (fun cdv A outer s H vs Q E hr h => ?_)
  · obtain ⟨r, a, s, t, rfl, h, q⟩ := h
    rfl
  · obtain ⟨r, a, s, t, rfl, h, q⟩ := h
    refine ⟨_, (pss_one (ps_ret (pe_fld (pv 0) rfl))), ?_⟩
    refine slots (start_WriterM _) ?_
    exact S_ret (v_at (v_slot rfl) h.ins T.cl_Room T.n_Room__writer rfl) fun H1 e1 => q H1 e1
theorem ok_AskerM (T : Top K mg) : FnOk P w K mg base CX0 1 T.f_AskerM T.fd_AskerM ["self"] (spWho4 K) := by
  refine T.F_AskerM.ok scAskerM (fun vs H Q E h => ?_) (fun cdv A outer s H vs Q E hr h => ?_)
  · obtain ⟨r, a, s, t, rfl, h, q⟩ := h
    rfl
  · obtain ⟨r, a, s, t, rfl, h, q⟩ := h
    refine ⟨_, (pss_one (ps_ret (pe_fld (pv 0) rfl))), ?_⟩
    refine slots (start_AskerM _) ?_
    exact S_ret (v_at (v_slot rfl) h.ins T.cl_Room T.n_Room__asker rfl) fun H1 e1 => q H1 e1
theorem ok_LineM (T : Top K mg) : FnOk P w K mg base CX0 1 T.f_LineM T.fd_LineM ["self"] (spTell4 K []) := by
  refine T.F_LineM.ok scLineM (fun vs H Q E h => ?_) (fun cdv A outer s H vs Q E hr h => ?_)
  · obtain ⟨r, a, s, t, rfl, h, q⟩ := h
    rfl
  · obtain ⟨r, a, s, t, rfl, h, q⟩ := h
    refine ⟨_, (pss_one (ps_ret (pe_lc (own := [("name", 2), ("wish", 3), ("_", 1)]) (g := (gTup K 3 (gCons (gName 2) (gCons (gName 3) (gCons (gName 1) gNil))))) rfl scLineM.nd (pi_list (pe_fld (pv 0) rfl)) (blkOk_by (own := [("name", 2), ("wish", 3), ("_", 1)]) (N := nmLineM) (sc := defScope sLineM) (by decide +kernel)) (fun _ _ _ _ _ => (pg_tup rfl (pgs_cons (pg_name (i := 2) scLineM.nd rfl (Or.inl rfl)) (pgs_cons (pg_name (i := 3) scLineM.nd rfl (Or.inl rfl)) (pgs_cons (pg_name (i := 1) scLineM.nd rfl (Or.inl rfl)) pgs_nil))))) (fun _ _ _ _ _ => pts_nil) (fun _ _ _ _ _ => (pe_tup (pa_cons (pv 2) (pa_cons (pv 3) pa_nil))))))), ?_⟩
    refine slots (start_LineM _) ?_
    exact S_retR (r_cmpG (f := QE.vs) (g := P2.vs) (F := QE.pair) (τ := fun u => [some (.ref r), some (.int u.often), some (.str u.who), some (.str u.wish)]) (v_at (v_slot rfl) h.ins T.cl_Room T.n_Room__line rfl) h.line .nil (by decide)
      (fun p u H1 Q1 hp q1 => ⟨p, _, rfl, SqT.of hp, rfl, .str u.who, _, rfl, .str u.wish, _, rfl, .int u.often, _, rfl, rfl, q1⟩) (fun u => rfl) fun u H1 e1 => u_tup (g_cons (v_slot rfl) (g_cons (v_slot rfl) g_nil)) (show 2 ≤ 100000 by decide)) fun v H1 e1 ⟨la, ya, ev, hn, hl, tl⟩ => by
        subst ev
        have := tl.length
        obtain rfl : ya = [] := List.length_eq_zero_iff.mp (by simpa using this)
        exact q la H1 hn e1 hl
theorem ok_JournalM (T : Top K mg) : FnOk P w K mg base CX0 1 T.f_JournalM T.fd_JournalM ["self"] (spTell4 K []) := by
  refine T.F_JournalM.ok scJournalM (fun vs H Q E h => ?_) (fun cdv A outer s H vs Q E hr h => ?_)
  · obtain ⟨r, a, s, t, rfl, h, q⟩ := h
    rfl
  · obtain ⟨r, a, s, t, rfl, h, q⟩ := h
    refine ⟨_, (pss_one (ps_ret (pe_callTy call_list_of (by rfl) T.m_list (by decide +kernel) (pa_cons (pe_fld (pv 0) rfl) pa_nil)))), ?_⟩
    refine slots (start_JournalM _) ?_
    exact S_retL (l_list (v_at (v_slot rfl) h.ins T.cl_Room T.n_Room__rows rfl) (SqL.of h.book)) fun p H1 hp e1 h1 => q p H1 hp e1 h1

--CUT
theorem ok_IsNumber (T : Top K mg) : FnOk P w K mg base CX0 1 T.f_IsNumber T.fd_IsNumber ["thing", "least"] (spIsNumber K) := by
  refine T.F_IsNumber.ok scIsNumber (fun vs H Q E h => ?_) (fun cdv A outer s H vs Q E hr h => ?_)
  · obtain ⟨v, l, rfl, hv, q⟩ := h
    rfl
  · obtain ⟨v, l, rfl, hv, q⟩ := h
    refine ⟨_, (pss_cons (ps_if (PW.pt (pw_or (pt_not (pt_val (pe_callB call_isi (by rfl) T.m_isinstance (by decide +kernel) (pa_cons (pv 0) (pa_cons (pe_bltn (v := .ty "int") (by rfl) T.m_int (by decide +kernel) rfl) pa_nil))))) (pw_or1 (pt_val (pe_callB call_isi (by rfl) T.m_isinstance (by decide +kernel) (pa_cons (pv 0) (pa_cons (pe_bltn (v := .ty "bool") (by rfl) T.m_bool (by decide +kernel) rfl) pa_nil)))))))
      (pss_one (ps_ret pe_bl))
      pss_nil)
      (pss_one (ps_ret (pe_chain op_le op_le (pv 1) (pv 0) (pe_glob (v := .int 1000000000) rfl T.c_MOST ⟨_, rfl⟩))))), ?_⟩
    refine slots (start_IsNumber _ _) ?_
    rcases hv with ⟨i, rfl⟩ | ⟨b, rfl⟩ | ⟨⟨n, ty, kt⟩, no⟩
    · refine B_when (b := false) (Ts.is (s_or (s_not (s_B (v_isiI (v_slot rfl)))) fun _ => s_B (v_isbI (v_slot rfl))) rfl) (fun z => nomatch z) fun _ H1 e1 => ?_
      exact S_ret (v_chain (v_slot rfl) (v_slot rfl) bi_0 (fun _ => v_con) fun _ => bi_0) fun H2 e2 => q H2 (e1.trans e2)
    · refine B_when (b := true) (Ts.is (s_or (c := true) (s_not (s_B (v_isi (b := true) (v_slot rfl) v_con (.ty _) (fun _ _ => .base (.bl b)) (kit_ty (by decide +kernel))))) fun _ => s_B (v_isbB (v_slot rfl))) rfl) (fun _ H1 e1 => ?_) fun z => nomatch z
      exact S_ret v_con fun H2 e2 => q H2 (e1.trans e2)
    · refine B_when (b := true) (Ts.is (s_or (c := true) (s_not (s_B (v_isi (b := false) (v_slot rfl) v_con (.ty _) (fun _ g => g.tyX ty) kt))) fun z => nomatch z) rfl) (fun _ H1 e1 => ?_) fun z => nomatch z
      have e : numV l v = false := by
        cases v <;> first | exact absurd rfl (no _) | rfl
      rw [e] at q
      exact S_ret v_con fun H2 e2 => q H2 (e1.trans e2)
theorem ok_RoomInit (T : Top K mg) : FnOk P w K mg base (L2N.CX P w) 2 T.f_RoomInit T.fd_RoomInit ["self", "seats", "patience"] (spInit4 K) := by
  have GIsNumber := ok_IsNumber (P := P) (w := w) (base := base) T
  refine RX.okN T.F_RoomInit scRoomInit (fun vs H Q E h => ?_) (fun cdv A outer s H vs Q E hr h => ?_)
  · obtain ⟨p, dx, v, w, rfl, hp, hv, hw, q1, q2⟩ := h
    rfl
  · obtain ⟨p, dx, v, w, rfl, hp, hv, hw, q1, q2⟩ := h
    refine ⟨_, (pss_cons (ps_if (pt_not (pt_val (pe_call GIsNumber hr (by rfl) T.g_IsNumber T.F_IsNumber.kp T.B_IsNumber .nil pass0 (pa_cons (pv 1) (pa_cons (pe_glob (v := .int 1) rfl T.c_LEAST_SEATS ⟨_, rfl⟩) pa_nil)))))
      (pss_one (L2N.ps_raise rfl (L2N.takes_of rfl rfl rfl rfl) (L2N.pmk_own PySem.F.excBase_ValueError T.xx_BadNumber.1 T.gc_BadNumber T.xx_BadNumber.2.1 (raises_own T.xx_BadNumber.2.2.1 T.xx_BadNumber.2.2.2) (by exact rfl))))
      pss_nil)
      (pss_cons (ps_if (pt_not (pt_val (pe_call GIsNumber hr (by rfl) T.g_IsNumber T.F_IsNumber.kp T.B_IsNumber .nil pass0 (pa_cons (pv 2) (pa_cons (pe_glob (v := .int 0) rfl T.c_LEAST_PATIENCE ⟨_, rfl⟩) pa_nil)))))
      (pss_one (L2N.ps_raise rfl (L2N.takes_of rfl rfl rfl rfl) (L2N.pmk_own PySem.F.excBase_ValueError T.xx_BadNumber.1 T.gc_BadNumber T.xx_BadNumber.2.1 (raises_own T.xx_BadNumber.2.2.1 T.xx_BadNumber.2.2.2) (by exact rfl))))
      pss_nil)
      (pss_cons (ps_fld (pv 0) (pv 1) rfl)
      (pss_cons (ps_fld (pv 0) (pv 2) rfl)
      (pss_cons (ps_fld (pv 0) pe_dnewK rfl)
      (pss_cons (ps_fld (pv 0) pe_non rfl)
      (pss_cons (ps_fld (pv 0) pe_non rfl)
      (pss_cons (ps_fld (pv 0) (pe_lst pa_nil) rfl)
      (pss_one (ps_fld (pv 0) (pe_lst pa_nil) rfl)))))))))), ?_⟩
    refine slots (start_RoomInit _ _ _) ?_
    refine B_when (b := !numV 1 v) (s_not (s_B (v_call (g_cons (v_slot rfl) (g_cons v_con g_nil)) (sv_isnumber hv)))) (fun hb H1 e1 => ?_) fun hb H1 e1 => ?_
    · rw [Bool.not_eq_true'] at hb
      exact q1 (by rw [hb]; rfl) H1 e1
    rw [Bool.not_eq_false'] at hb
    refine B_when (b := !numV 0 w) (s_not (s_B (v_call (g_cons (v_slot rfl) (g_cons v_con g_nil)) (sv_isnumber (hw.mono e1))))) (fun hb2 H2 e2 => ?_) fun hb2 H2 e2 => ?_
    · rw [Bool.not_eq_true'] at hb2
      exact q1 (by rw [hb2, hb]; rfl) H2 (e1.trans e2)
    rw [Bool.not_eq_false'] at hb2
    obtain ⟨seats, rfl⟩ : ∃ i, v = .int i := by
      cases v <;> first | (cases hb; done) | exact ⟨_, rfl⟩
    obtain ⟨pat, rfl⟩ : ∃ i, w = .int i := by
      cases w <;> first | (cases hb2; done) | exact ⟨_, rfl⟩
    have g2 := e1.trans e2
    have np : ∀ {x : Addr}, H x = none → x ≠ p := fun hx z => by rw [z, hp] at hx; cases hx
    refine B_fld (v_slot rfl) (v_slot rfl) (g2.ins hp) T.cl_Room T.n_Room_seats (show 0 < 1000 by decide) fun H3 e3 => ?_
    have c3 : Ch (fun x => x = p) H (upd H3 p (.ins (He.ga K "Room") dx (if1 seats))) := ((Ch.of g2).gr e3).put rfl
    show tSeq _ _ _ _ (upd H3 p (.ins (He.ga K "Room") dx (if1 seats)))
    have i3 : (upd H3 p (.ins (He.ga K "Room") dx (if1 seats))) p = _ := upd_same
    generalize upd H3 p (.ins (He.ga K "Room") dx (if1 seats)) = H4 at c3 i3 ⊢
    refine B_fld (v_slot rfl) (v_slot rfl) i3 T.cl_Room T.n_Room_patience (show 1 < 1000 by decide) fun H5 e5 => ?_
    rw [put_if2]
    have c5 : Ch (fun x => x = p) H (upd H5 p (.ins (He.ga K "Room") dx (if2 seats pat))) := (c3.gr e5).put rfl
    have i5 : (upd H5 p (.ins (He.ga K "Room") dx (if2 seats pat))) p = _ := upd_same
    generalize upd H5 p (.ins (He.ga K "Room") dx (if2 seats pat)) = H6 at c5 i5 ⊢
    refine B_fldR (R := fun v H1 => ∃ d, v = .ref d ∧ H6 d = none ∧ H1 d = some (.dK [])) r_dnew (v_slot rfl) i5 T.cl_Room T.n_Room__readers (show 2 < 1000 by decide) (fun g ⟨d, a, b, c⟩ => ⟨d, a, b, g.dK c⟩) fun v H7 e7 ⟨d, ev, nd, hd⟩ => ?_
    subst ev
    rw [put_if3]
    have nd0 := c5.free nd
    have c7 : Ch (fun x => x = p) H (upd H7 p (.ins (He.ga K "Room") dx (if3 seats pat d))) := (c5.gr e7).put rfl
    have i7 : (upd H7 p (.ins (He.ga K "Room") dx (if3 seats pat d))) p = _ := upd_same
    have d7 : (upd H7 p (.ins (He.ga K "Room") dx (if3 seats pat d))) d = some (.dK []) := (upd_ne (np nd0)).trans hd
    generalize upd H7 p (.ins (He.ga K "Room") dx (if3 seats pat d)) = H8 at c7 i7 d7 ⊢
    refine B_fld v_con (v_slot rfl) i7 T.cl_Room T.n_Room__writer (show 3 < 1000 by decide) fun H9 e9 => ?_
    rw [put_if4]
    have c9 : Ch (fun x => x = p) H (upd H9 p (.ins (He.ga K "Room") dx (if4 seats pat d))) := (c7.gr e9).put rfl
    have i9 : (upd H9 p (.ins (He.ga K "Room") dx (if4 seats pat d))) p = _ := upd_same
    have d9 : (upd H9 p (.ins (He.ga K "Room") dx (if4 seats pat d))) d = some (.dK []) := (upd_ne (np nd0)).trans (e9.dK d7)
    generalize upd H9 p (.ins (He.ga K "Room") dx (if4 seats pat d)) = H10 at c9 i9 d9 ⊢
    refine B_fld v_con (v_slot rfl) i9 T.cl_Room T.n_Room__asker (show 4 < 1000 by decide) fun H11 e11 => ?_
    rw [put_if5]
    have c11 : Ch (fun x => x = p) H (upd H11 p (.ins (He.ga K "Room") dx (if5 seats pat d))) := (c9.gr e11).put rfl
    have i11 : (upd H11 p (.ins (He.ga K "Room") dx (if5 seats pat d))) p = _ := upd_same
    have d11 : (upd H11 p (.ins (He.ga K "Room") dx (if5 seats pat d))) d = some (.dK []) := (upd_ne (np nd0)).trans (e11.dK d9)
    generalize upd H11 p (.ins (He.ga K "Room") dx (if5 seats pat d)) = H12 at c11 i11 d11 ⊢
    refine B_fldR (R := fun v H1 => ∃ l, v = .ref l ∧ H12 l = none ∧ H1 l = some (.lst [])) (Ls.toN (l_lst g_nil (show 0 ≤ 100000 by decide))) (v_slot rfl) i11 T.cl_Room T.n_Room__line (show 5 < 1000 by decide) (fun g ⟨d, a, b, c⟩ => ⟨d, a, b, g.lst c⟩) fun v H13 e13 ⟨l1, ev, nl1, hl1⟩ => ?_
    subst ev
    rw [put_if6]
    have nl1' := c11.free nl1
    have c13 : Ch (fun x => x = p) H (upd H13 p (.ins (He.ga K "Room") dx (if6 seats pat d l1))) := (c11.gr e13).put rfl
    have i13 : (upd H13 p (.ins (He.ga K "Room") dx (if6 seats pat d l1))) p = _ := upd_same
    have d13 : (upd H13 p (.ins (He.ga K "Room") dx (if6 seats pat d l1))) d = some (.dK []) := (upd_ne (np nd0)).trans (e13.dK d11)
    have l13 : (upd H13 p (.ins (He.ga K "Room") dx (if6 seats pat d l1))) l1 = some (.lst []) := (upd_ne (np nl1')).trans hl1
    generalize upd H13 p (.ins (He.ga K "Room") dx (if6 seats pat d l1)) = H14 at c13 i13 d13 l13 ⊢
    refine S_fldR (R := fun v H1 => ∃ l, v = .ref l ∧ H14 l = none ∧ H1 l = some (.lst [])) (Ls.toN (l_lst g_nil (show 0 ≤ 100000 by decide))) (v_slot rfl) i13 T.cl_Room T.n_Room__rows (show 6 < 1000 by decide) (fun g ⟨d, a, b, c⟩ => ⟨d, a, b, g.lst c⟩) fun v H15 e15 ⟨l2, ev, nl2, hl2⟩ => ?_
    subst ev
    rw [show putF "_rows" (V.ref l2) (if6 seats pat d l1) = rfs seats pat ⟨dx, d, l1, l2⟩ .non .non from put_if7 (a := ⟨dx, d, l1, l2⟩)]
    have nl2' := c13.free nl2
    exact q2 (by rw [hb, hb2]; rfl) ⟨dx, d, l1, l2⟩ seats pat _ rfl rfl ((c13.gr e15).put rfl) ⟨upd_same, (upd_ne (np nd0)).trans (e15.dK d13), (upd_ne (np nl1')).trans (e15.lst l13), (upd_ne (np nl2')).trans hl2⟩

--CUT
theorem okH_IsNumber (T : Top K mg) : L2H.FnH P w K mg base CX0 1 T.f_IsNumber T.fd_IsNumber ["thing", "least"] (spIsNumber K) := by
  refine RX.okH T.F_IsNumber scIsNumber (fun vs H Q E h => ?_) (fun cdv A outer s H vs Q E z hz hr h => ?_)
  · obtain ⟨v, l, rfl, hv, q⟩ := h
    rfl
  · obtain ⟨v, l, rfl, hv, q⟩ := h
    refine ⟨_, (pss_cons (ps_if (PW.pt (pw_or (pt_not (pt_val (pe_callB (r := rIsi K) call_isi (by rfl) T.m_isinstance (by decide +kernel) (pa_cons (pv 0) (pa_cons (pe_bltn (v := .ty "int") (by rfl) T.m_int (by decide +kernel) rfl) pa_nil))))) (pw_or1 (pt_val (pe_callB (r := rIsi K) call_isi (by rfl) T.m_isinstance (by decide +kernel) (pa_cons (pv 0) (pa_cons (pe_bltn (v := .ty "bool") (by rfl) T.m_bool (by decide +kernel) rfl) pa_nil)))))))
      (pss_one (ps_ret pe_bl))
      pss_nil)
      (pss_one (ps_ret (pe_chain op_le op_le (pv 1) (pv 0) (pe_glob (v := .int 1000000000) rfl T.c_MOST ⟨_, rfl⟩))))), ?_⟩
    refine slots (start_IsNumber _ _) ?_
    rcases hv with ⟨i, rfl⟩ | ⟨b, rfl⟩ | ⟨⟨n, ty, kt⟩, no⟩
    · refine B_when (b := false) (Ts.is (s_or (s_not (s_B (v_isiI (v_slot rfl)))) fun _ => s_B (v_isbI (v_slot rfl))) rfl) (fun z => nomatch z) fun _ H1 e1 => ?_
      exact S_ret (v_chain (v_slot rfl) (v_slot rfl) bi_0 (fun _ => v_con) fun _ => bi_0) fun H2 e2 => q H2 (e1.trans e2)
    · refine B_when (b := true) (Ts.is (s_or (c := true) (s_not (s_B (v_isi (b := true) (v_slot rfl) v_con (.ty _) (fun _ _ => .base (.bl b)) (kit_ty (by decide +kernel))))) fun _ => s_B (v_isbB (v_slot rfl))) rfl) (fun _ H1 e1 => ?_) fun z => nomatch z
      exact S_ret v_con fun H2 e2 => q H2 (e1.trans e2)
    · refine B_when (b := true) (Ts.is (s_or (c := true) (s_not (s_B (v_isi (b := false) (v_slot rfl) v_con (.ty _) (fun _ g => g.tyX ty) kt))) fun z => nomatch z) rfl) (fun _ H1 e1 => ?_) fun z => nomatch z
      have e : numV l v = false := by
        cases v <;> first | exact absurd rfl (no _) | rfl
      rw [e] at q
      exact S_ret v_con fun H2 e2 => q H2 (e1.trans e2)
theorem okY_RoomInit (T : Top K mg) {y : Addr × Obj} : RY.FnY y P w K mg base (RY.CXy y.1 P w) 2 T.f_RoomInit T.fd_RoomInit ["self", "seats", "patience"] (spInit4 K) := by
  have HIsNumber := okH_IsNumber (P := P) (w := w) (base := base) T
  refine RY.okY T.F_RoomInit scRoomInit (fun vs H Q E h => ?_) (fun cdv A outer s H vs Q E hz hr h => ?_)
  · obtain ⟨p, dx, v, w, rfl, hp, hv, hw, q1, q2⟩ := h
    rfl
  · obtain ⟨p, dx, v, w, rfl, hp, hv, hw, q1, q2⟩ := h
    refine ⟨_, (pss_cons (ps_if (pt_not (pt_val (L2H.pe_callH (E := fun _ => E0) HIsNumber hr ⟨_, hz, List.mem_singleton.mpr rfl⟩ (by rfl) T.g_IsNumber T.F_IsNumber.kp T.B_IsNumber RX.passA0 (pa_cons (pv 1) (pa_cons (pe_glob (v := .int 1) rfl T.c_LEAST_SEATS ⟨_, rfl⟩) pa_nil)))))
      (pss_one (RY.raiseY hz (List.mem_singleton.mpr rfl) (RY.tk_of rfl rfl rfl rfl) (L2N.pmk_own PySem.F.excBase_ValueError T.xx_BadNumber.1 T.gc_BadNumber T.xx_BadNumber.2.1 (raises_own T.xx_BadNumber.2.2.1 T.xx_BadNumber.2.2.2) (by exact rfl))))
      pss_nil)
      (pss_cons (ps_if (pt_not (pt_val (L2H.pe_callH (E := fun _ => E0) HIsNumber hr ⟨_, hz, List.mem_singleton.mpr rfl⟩ (by rfl) T.g_IsNumber T.F_IsNumber.kp T.B_IsNumber RX.passA0 (pa_cons (pv 2) (pa_cons (pe_glob (v := .int 0) rfl T.c_LEAST_PATIENCE ⟨_, rfl⟩) pa_nil)))))
      (pss_one (RY.raiseY hz (List.mem_singleton.mpr rfl) (RY.tk_of rfl rfl rfl rfl) (L2N.pmk_own PySem.F.excBase_ValueError T.xx_BadNumber.1 T.gc_BadNumber T.xx_BadNumber.2.1 (raises_own T.xx_BadNumber.2.2.1 T.xx_BadNumber.2.2.2) (by exact rfl))))
      pss_nil)
      (pss_cons (ps_fld (pv 0) (pv 1) rfl)
      (pss_cons (ps_fld (pv 0) (pv 2) rfl)
      (pss_cons (ps_fld (pv 0) pe_dnewK rfl)
      (pss_cons (ps_fld (pv 0) pe_non rfl)
      (pss_cons (ps_fld (pv 0) pe_non rfl)
      (pss_cons (ps_fld (pv 0) (pe_lst pa_nil) rfl)
      (pss_one (ps_fld (pv 0) (pe_lst pa_nil) rfl)))))))))), ?_⟩
    refine slots (start_RoomInit _ _ _) ?_
    refine B_when (b := !numV 1 v) (s_not (s_B (v_callH (g_cons (v_slot rfl) (g_cons v_con g_nil)) (sv_isnumber hv)))) (fun hb H1 e1 => ?_) fun hb H1 e1 => ?_
    · rw [Bool.not_eq_true'] at hb
      exact q1 (by rw [hb]; rfl) H1 e1
    rw [Bool.not_eq_false'] at hb
    refine B_when (b := !numV 0 w) (s_not (s_B (v_callH (g_cons (v_slot rfl) (g_cons v_con g_nil)) (sv_isnumber (hw.mono e1))))) (fun hb2 H2 e2 => ?_) fun hb2 H2 e2 => ?_
    · rw [Bool.not_eq_true'] at hb2
      exact q1 (by rw [hb2, hb]; rfl) H2 (e1.trans e2)
    rw [Bool.not_eq_false'] at hb2
    obtain ⟨seats, rfl⟩ : ∃ i, v = .int i := by
      cases v <;> first | (cases hb; done) | exact ⟨_, rfl⟩
    obtain ⟨pat, rfl⟩ : ∃ i, w = .int i := by
      cases w <;> first | (cases hb2; done) | exact ⟨_, rfl⟩
    have g2 := e1.trans e2
    have np : ∀ {x : Addr}, H x = none → x ≠ p := fun hx z => by rw [z, hp] at hx; cases hx
    refine B_fld (v_slot rfl) (v_slot rfl) (g2.ins hp) T.cl_Room T.n_Room_seats (show 0 < 1000 by decide) fun H3 e3 => ?_
    have c3 : Ch (fun x => x = p) H (upd H3 p (.ins (He.ga K "Room") dx (if1 seats))) := ((Ch.of g2).gr e3).put rfl
    show tSeq _ _ _ _ (upd H3 p (.ins (He.ga K "Room") dx (if1 seats)))
    have i3 : (upd H3 p (.ins (He.ga K "Room") dx (if1 seats))) p = _ := upd_same
    generalize upd H3 p (.ins (He.ga K "Room") dx (if1 seats)) = H4 at c3 i3 ⊢
    refine B_fld (v_slot rfl) (v_slot rfl) i3 T.cl_Room T.n_Room_patience (show 1 < 1000 by decide) fun H5 e5 => ?_
    rw [put_if2]
    have c5 : Ch (fun x => x = p) H (upd H5 p (.ins (He.ga K "Room") dx (if2 seats pat))) := (c3.gr e5).put rfl
    have i5 : (upd H5 p (.ins (He.ga K "Room") dx (if2 seats pat))) p = _ := upd_same
    generalize upd H5 p (.ins (He.ga K "Room") dx (if2 seats pat)) = H6 at c5 i5 ⊢
    refine B_fldR (R := fun v H1 => ∃ d, v = .ref d ∧ H6 d = none ∧ H1 d = some (.dK [])) r_dnew (v_slot rfl) i5 T.cl_Room T.n_Room__readers (show 2 < 1000 by decide) (fun g ⟨d, a, b, c⟩ => ⟨d, a, b, g.dK c⟩) fun v H7 e7 ⟨d, ev, nd, hd⟩ => ?_
    subst ev
    rw [put_if3]
    have nd0 := c5.free nd
    have c7 : Ch (fun x => x = p) H (upd H7 p (.ins (He.ga K "Room") dx (if3 seats pat d))) := (c5.gr e7).put rfl
    have i7 : (upd H7 p (.ins (He.ga K "Room") dx (if3 seats pat d))) p = _ := upd_same
    have d7 : (upd H7 p (.ins (He.ga K "Room") dx (if3 seats pat d))) d = some (.dK []) := (upd_ne (np nd0)).trans hd
    generalize upd H7 p (.ins (He.ga K "Room") dx (if3 seats pat d)) = H8 at c7 i7 d7 ⊢
    refine B_fld v_con (v_slot rfl) i7 T.cl_Room T.n_Room__writer (show 3 < 1000 by decide) fun H9 e9 => ?_
    rw [put_if4]
    have c9 : Ch (fun x => x = p) H (upd H9 p (.ins (He.ga K "Room") dx (if4 seats pat d))) := (c7.gr e9).put rfl
    have i9 : (upd H9 p (.ins (He.ga K "Room") dx (if4 seats pat d))) p = _ := upd_same
    have d9 : (upd H9 p (.ins (He.ga K "Room") dx (if4 seats pat d))) d = some (.dK []) := (upd_ne (np nd0)).trans (e9.dK d7)
    generalize upd H9 p (.ins (He.ga K "Room") dx (if4 seats pat d)) = H10 at c9 i9 d9 ⊢
    refine B_fld v_con (v_slot rfl) i9 T.cl_Room T.n_Room__asker (show 4 < 1000 by decide) fun H11 e11 => ?_
    rw [put_if5]
    have c11 : Ch (fun x => x = p) H (upd H11 p (.ins (He.ga K "Room") dx (if5 seats pat d))) := (c9.gr e11).put rfl
    have i11 : (upd H11 p (.ins (He.ga K "Room") dx (if5 seats pat d))) p = _ := upd_same
    have d11 : (upd H11 p (.ins (He.ga K "Room") dx (if5 seats pat d))) d = some (.dK []) := (upd_ne (np nd0)).trans (e11.dK d9)
    generalize upd H11 p (.ins (He.ga K "Room") dx (if5 seats pat d)) = H12 at c11 i11 d11 ⊢
    refine B_fldR (R := fun v H1 => ∃ l, v = .ref l ∧ H12 l = none ∧ H1 l = some (.lst [])) (Ls.toN (l_lst g_nil (show 0 ≤ 100000 by decide))) (v_slot rfl) i11 T.cl_Room T.n_Room__line (show 5 < 1000 by decide) (fun g ⟨d, a, b, c⟩ => ⟨d, a, b, g.lst c⟩) fun v H13 e13 ⟨l1, ev, nl1, hl1⟩ => ?_
    subst ev
    rw [put_if6]
    have nl1' := c11.free nl1
    have c13 : Ch (fun x => x = p) H (upd H13 p (.ins (He.ga K "Room") dx (if6 seats pat d l1))) := (c11.gr e13).put rfl
    have i13 : (upd H13 p (.ins (He.ga K "Room") dx (if6 seats pat d l1))) p = _ := upd_same
    have d13 : (upd H13 p (.ins (He.ga K "Room") dx (if6 seats pat d l1))) d = some (.dK []) := (upd_ne (np nd0)).trans (e13.dK d11)
    have l13 : (upd H13 p (.ins (He.ga K "Room") dx (if6 seats pat d l1))) l1 = some (.lst []) := (upd_ne (np nl1')).trans hl1
    generalize upd H13 p (.ins (He.ga K "Room") dx (if6 seats pat d l1)) = H14 at c13 i13 d13 l13 ⊢
    refine S_fldR (R := fun v H1 => ∃ l, v = .ref l ∧ H14 l = none ∧ H1 l = some (.lst [])) (Ls.toN (l_lst g_nil (show 0 ≤ 100000 by decide))) (v_slot rfl) i13 T.cl_Room T.n_Room__rows (show 6 < 1000 by decide) (fun g ⟨d, a, b, c⟩ => ⟨d, a, b, g.lst c⟩) fun v H15 e15 ⟨l2, ev, nl2, hl2⟩ => ?_
    subst ev
    rw [show putF "_rows" (V.ref l2) (if6 seats pat d l1) = rfs seats pat ⟨dx, d, l1, l2⟩ .non .non from put_if7 (a := ⟨dx, d, l1, l2⟩)]
    have nl2' := c13.free nl2
    exact q2 (by rw [hb, hb2]; rfl) ⟨dx, d, l1, l2⟩ seats pat _ rfl rfl ((c13.gr e15).put rfl) ⟨upd_same, (upd_ne (np nd0)).trans (e15.dK d13), (upd_ne (np nl1')).trans (e15.lst l13), (upd_ne (np nl2')).trans hl2⟩

--CUT
theorem okD_Kinds (T : Top K mg) : RY.FnE2 P w K mg base CX0 1 T.f_Kinds T.fd_Kinds ["_law_e"] (spKinds K) := by
  refine RY.okD T.F_Kinds scKinds (fun a c d vs H Q E h => ?_) (fun cdv A outer s H vs Q E z y c d hz hc hr h => ?_)
  · obtain ⟨x, rfl, hx, hcx, hdx, q⟩ := h
    rfl
  · obtain ⟨x, rfl, hx, hcx, hdx, q⟩ := h
    refine ⟨_, (pss_cons (ps_set (i := 1) scKinds.nd rfl (Or.inl rfl) (pe_lst pa_nil))
      (pss_cons (ps_set (i := 2) scKinds.nd rfl (Or.inl rfl) (pe_lst (pa_cons (pe_callB (show CallR _ (.builtin "isinstance") (RX.rIsP K z.1 c d) from RX.call_isP List.mem_cons_self hc (RY.fields_of2 hz)) (by rfl) T.m_isinstance (by decide +kernel) (pa_cons (pv 0) (pa_cons (pe_glob (v := .ref (He.ga K "BadName")) rfl T.gc_BadName rfl) pa_nil))) (pa_cons (pe_callB (show CallR _ (.builtin "isinstance") (RX.rIsP K z.1 c d) from RX.call_isP List.mem_cons_self hc (RY.fields_of2 hz)) (by rfl) T.m_isinstance (by decide +kernel) (pa_cons (pv 0) (pa_cons (pe_glob (v := .ref (He.ga K "BadWish")) rfl T.gc_BadWish rfl) pa_nil))) (pa_cons (pe_callB (show CallR _ (.builtin "isinstance") (RX.rIsP K z.1 c d) from RX.call_isP List.mem_cons_self hc (RY.fields_of2 hz)) (by rfl) T.m_isinstance (by decide +kernel) (pa_cons (pv 0) (pa_cons (pe_glob (v := .ref (He.ga K "Known")) rfl T.gc_Known rfl) pa_nil))) (pa_cons (pe_callB (show CallR _ (.builtin "isinstance") (RX.rIsP K z.1 c d) from RX.call_isP List.mem_cons_self hc (RY.fields_of2 hz)) (by rfl) T.m_isinstance (by decide +kernel) (pa_cons (pv 0) (pa_cons (pe_glob (v := .ref (He.ga K "Stranger")) rfl T.gc_Stranger rfl) pa_nil))) pa_nil))))))
      (pss_cons (ps_set (i := 2) scKinds.nd rfl (Or.inl rfl) (pe_op op_cat (pv 2) (pe_lst (pa_cons (pe_callB (show CallR _ (.builtin "isinstance") (RX.rIsP K z.1 c d) from RX.call_isP List.mem_cons_self hc (RY.fields_of2 hz)) (by rfl) T.m_isinstance (by decide +kernel) (pa_cons (pv 0) (pa_cons (pe_glob (v := .ref (He.ga K "Outside")) rfl T.gc_Outside rfl) pa_nil))) (pa_cons (pe_callB (show CallR _ (.builtin "isinstance") (RX.rIsP K z.1 c d) from RX.call_isP List.mem_cons_self hc (RY.fields_of2 hz)) (by rfl) T.m_isinstance (by decide +kernel) (pa_cons (pv 0) (pa_cons (pe_glob (v := .ref (He.ga K "Inside")) rfl T.gc_Inside rfl) pa_nil))) (pa_cons (pe_callB (show CallR _ (.builtin "isinstance") (RX.rIsP K z.1 c d) from RX.call_isP List.mem_cons_self hc (RY.fields_of2 hz)) (by rfl) T.m_isinstance (by decide +kernel) (pa_cons (pv 0) (pa_cons (pe_glob (v := .ref (He.ga K "Reads")) rfl T.gc_Reads rfl) pa_nil))) (pa_cons (pe_callB (show CallR _ (.builtin "isinstance") (RX.rIsP K z.1 c d) from RX.call_isP List.mem_cons_self hc (RY.fields_of2 hz)) (by rfl) T.m_isinstance (by decide +kernel) (pa_cons (pv 0) (pa_cons (pe_glob (v := .ref (He.ga K "Writes")) rfl T.gc_Writes rfl) pa_nil))) pa_nil)))))))
      (pss_cons (ps_set (i := 2) scKinds.nd rfl (Or.inl rfl) (pe_op op_cat (pv 2) (pe_lst (pa_cons (pe_callB (show CallR _ (.builtin "isinstance") (RX.rIsP K z.1 c d) from RX.call_isP List.mem_cons_self hc (RY.fields_of2 hz)) (by rfl) T.m_isinstance (by decide +kernel) (pa_cons (pv 0) (pa_cons (pe_glob (v := .ref (He.ga K "Asked")) rfl T.gc_Asked rfl) pa_nil))) (pa_cons (pe_callB (show CallR _ (.builtin "isinstance") (RX.rIsP K z.1 c d) from RX.call_isP List.mem_cons_self hc (RY.fields_of2 hz)) (by rfl) T.m_isinstance (by decide +kernel) (pa_cons (pv 0) (pa_cons (pe_glob (v := .ref (He.ga K "BadText")) rfl T.gc_BadText rfl) pa_nil))) (pa_cons (pe_callB (show CallR _ (.builtin "isinstance") (RX.rIsP K z.1 c d) from RX.call_isP List.mem_cons_self hc (RY.fields_of2 hz)) (by rfl) T.m_isinstance (by decide +kernel) (pa_cons (pv 0) (pa_cons (pe_glob (v := .ref (He.ga K "BadJournal")) rfl T.gc_BadJournal rfl) pa_nil))) pa_nil))))))
      (pss_cons (ps_expr (pe_bm PySem.F.plainAttrs_list PySem.F.slot_list_append PySem.F.type_list_append mt_append (pv 2) (pa_cons (pe_callB (show CallR _ (.builtin "isinstance") (RX.rIsP K z.1 c d) from RX.call_isP List.mem_cons_self hc (RY.fields_of2 hz)) (by rfl) T.m_isinstance (by decide +kernel) (pa_cons (pv 0) (pa_cons (pe_glob (v := .ref (He.ga K "BadNumber")) rfl T.gc_BadNumber rfl) pa_nil))) pa_nil)))
      (pss_cons (RY.for2 (passes_of rfl) ⟨_, _, RY.deep hz rfl, List.mem_cons_self, List.mem_cons_of_mem _ List.mem_cons_self⟩ (by rfl) T.m_range (pa_cons (pe_callB (r := fLen K) call_len_seq (by rfl) T.m_len PySem.boot_len (pa_cons (pv 2) pa_nil)) pa_nil) (pg_name (i := 3) scKinds.nd rfl (Or.inl rfl))
      (pss_one (ps_if (pt_val (pe_ix (r := rIxL K) ix_list (pv 2) (pv 3) (fun _ _ => rfl)))
      (pss_one (ps_expr (pe_bm PySem.F.plainAttrs_list PySem.F.slot_list_append PySem.F.type_list_append mt_append (pv 1) (pa_cons (pv 3) pa_nil))))
      pss_nil)))
      (pss_one (ps_ret (pv 1))))))))), ?_⟩
    refine slots (start_Kinds _) ?_
    subst hcx hdx
    have ex := T.ex
    have mem : ∀ k, k < 12 → kindNames.getD k "" ∈ kindNames := fun k hk => by
      rw [List.getD_eq_getElem?_getD, List.getElem?_eq_getElem (show k < kindNames.length from hk)]
      exact List.getElem_mem _
    have is : ∀ {H1 : Hp} {σ : L2.St} (y : Str), y ∈ kindNames → σ[0]? = some (some (.ref z.1)) → Vl (tCB (RX.rIsP K z.1 (.ref (He.ga K x)) none) (tCons (tVar 0) (tCons (tC (.ref (He.ga K y))) tNil))) σ H1 (.bl (isK x y)) := fun y hy h0 => v_isP ex hx hy (v_slot h0)
    refine B_setR (Ls.toN (l_lst g_nil (show 0 ≤ 100000 by decide))) fun v H1 e1 ⟨pf, ev, npf, h1⟩ => ?_
    subst ev
    walk_at "n"
    refine B_setR (Ls.toN (l_lst (g_cons (is "BadName" (by decide +kernel) rfl) (g_cons (is "BadWish" (by decide +kernel) rfl) (g_cons (is "Known" (by decide +kernel) rfl) (g_cons (is "Stranger" (by decide +kernel) rfl) g_nil)))) (show 4 ≤ 100000 by decide))) fun v H2 e2 ⟨p2, ev, np2, h2⟩ => ?_
    subst ev
    walk_at "n"
    refine B_setR (r_cat (R := fun _ _ => True) (v_slot rfl) h2 (l_lst (g_cons (is "Outside" (by decide +kernel) rfl) (g_cons (is "Inside" (by decide +kernel) rfl) (g_cons (is "Reads" (by decide +kernel) rfl) (g_cons (is "Writes" (by decide +kernel) rfl) g_nil)))) (show 4 ≤ 100000 by decide)) (show 4 + 4 ≤ 100000 by decide)) fun v H3 e3 ⟨p3, ev, np3, h3⟩ => ?_
    subst ev
    walk_at "n"
    refine B_setR (r_cat (R := fun _ _ => True) (v_slot rfl) h3 (l_lst (g_cons (is "Asked" (by decide +kernel) rfl) (g_cons (is "BadText" (by decide +kernel) rfl) (g_cons (is "BadJournal" (by decide +kernel) rfl) g_nil))) (show 3 ≤ 100000 by decide)) (show 8 + 3 ≤ 100000 by decide)) fun v H4 e4 ⟨p4, ev, np4, h4⟩ => ?_
    subst ev
    walk_at "n"
    refine B_app h4 (v_slot rfl) (is "BadNumber" (by decide +kernel) rfl) (show 11 < 100000 by decide) fun H5 e5 => ?_
    have marks : ([V.bl (isK x "BadName"), V.bl (isK x "BadWish"), V.bl (isK x "Known"), V.bl (isK x "Stranger")] ++ [V.bl (isK x "Outside"), V.bl (isK x "Inside"), V.bl (isK x "Reads"), V.bl (isK x "Writes")] ++ [V.bl (isK x "Asked"), V.bl (isK x "BadText"), V.bl (isK x "BadJournal")] ++ [V.bl (isK x "BadNumber")]) = (List.range 12).map fun k => V.bl (isK x (kindNames.getD k "")) := rfl
    rw [marks]
    have g4 : Gr H H4 := (((e1.trans e2).trans e3).trans e4)
    have np4' : H p4 = none := ((e1.trans e2).trans e3).free np4
    have g6 := (g4.trans e5).chg np4' (o := .lst ((List.range 12).map fun k => V.bl (isK x (kindNames.getD k ""))))
    have hf : H5 pf = some (.lst []) := (((e2.trans e3).trans e4).trans e5).lst h1
    have nfp : pf ≠ p4 := fun w => by
      have hh : H3 pf = some (.lst []) := (e2.trans e3).lst h1
      rw [w, np4] at hh
      cases hh
    have hf6 : (upd H5 p4 (.lst ((List.range 12).map fun k => V.bl (isK x (kindNames.getD k ""))))) pf = some (.lst []) := (upd_ne nfp).trans hf
    have h46 : (upd H5 p4 (.lst ((List.range 12).map fun k => V.bl (isK x (kindNames.getD k ""))))) p4 = some (.lst ((List.range 12).map fun k => V.bl (isK x (kindNames.getD k "")))) := upd_same
    generalize upd H5 p4 (.lst ((List.range 12).map fun k => V.bl (isK x (kindNames.getD k "")))) = H6 at g6 hf6 h46 ⊢
    refine B_for1 (n := 12) (g_cons (v_len (v_slot rfl) (SqL.of h46)) g_nil) (by decide) (fun m σ' H' => ∃ y3, σ' = [some (.ref z.1), some (.ref pf), some (.ref p4), y3] ∧ Gr H H' ∧ H' pf = some (.lst ((((List.range m).filter fun k => isK x (kindNames.getD k "")).map fun k : Nat => (k : Int)).map V.int)) ∧ H' p4 = some (.lst ((List.range 12).map fun k => V.bl (isK x (kindNames.getD k ""))))) (fun H7 g => ⟨_, rfl, g6.trans g, g.lst hf6, g.lst h46⟩) ?hs fun σ' H7 ⟨y3, ey, g, h7, _⟩ => by
      rw [ey]
      exact S_ret (v_slot rfl) fun H8 e8 => q pf H8 npf (g.trans e8) (e8.lst h7)
    rintro m σ' H7 hm ⟨y3, rfl, g, h7, h8⟩
    walk_at "n"
    have hm' : m < 12 := by omega
    refine S_when (b := isK x (kindNames.getD m "")) (s_B (v_op (v_slot rfl) (v_slot rfl) (bi_ixL (SqL.of h8) (atI_nat (by rw [List.getElem?_map, List.getElem?_range hm']; rfl))))) (fun hb H8 e8 => ?_) fun hb H8 e8 => ?_
    · refine S_app (e8.lst h7) (v_slot rfl) (v_slot rfl) (by rw [List.length_map, List.length_map]; have := List.length_filter_le (fun k => isK x (kindNames.getD k "")) (List.range m); rw [List.length_range] at this; omega) fun H9 e9 => ?_
      refine ⟨_, rfl, ((g.trans e8).trans e9).chg npf, ?_, (upd_ne nfp.symm).trans ((e8.trans e9).lst h8)⟩
      rw [upd_same, List.range_succ, List.filter_append, List.map_append, List.map_append, List.filter_cons, if_pos hb]
      rfl
    · refine ⟨_, rfl, g.trans e8, ?_, e8.lst h8⟩
      rw [List.range_succ, List.filter_append, List.filter_cons, if_neg (by rw [hb]; exact Bool.false_ne_true), List.filter_nil, List.append_nil]
      exact e8.lst h7

def spWhole4 : Sp := fun vs H Q _ => ∃ i : Int, vs = [.int i] ∧ RV (.bl true) H Q
/-! ### things that are no number -/
def Non (K : PySem.W.Frag) (l : Int) (v : V) (H : Hp) : Prop := Num3 K v H ∧ numV l v = false
theorem Non.mono {K : PySem.W.Frag} {l : Int} {v : V} {H H' : Hp} (g : Gr H H') (h : Non K l v H) : Non K l v H' := ⟨h.1.mono g, h.2⟩
def Nons (K : PySem.W.Frag) (l : Int) (n : Nat) (vs : List V) (H : Hp) : Prop := vs.length = n ∧ ∀ v ∈ vs, Non K l v H
theorem Nons.mono {K : PySem.W.Frag} {l : Int} {n : Nat} {vs : List V} {H H' : Hp} (g : Gr H H') (h : Nons K l n vs H) : Nons K l n vs H' := ⟨h.1, fun v hv => (h.2 v hv).mono g⟩
def spNone4 (K : PySem.W.Frag) : Sp := fun vs H Q _ => ∃ c l : Int, vs = [.int c, .int l] ∧ (l = 0 ∨ l = 1) ∧ RR_ (Non K l) H Q
def spRefused4 (K : PySem.W.Frag) : Sp := fun vs H Q _ => ∃ v w : V, vs = [v, w] ∧ Num3 K v H ∧ Num3 K w H ∧ (numV 1 v && numV 0 w) = false ∧ RV (.bl true) H Q
section
variable {K : PySem.W.Frag} {l : Int} {σ : L2.St} {H : Hp} {t1 t2 : TE} {a1 : TA} {n : Nat} {x : V} {xs : List V}
theorem nb_nil : Ar tNil σ H (Nons K l 0) := fun H1 _ _ q => q [] H1 (.refl _) ⟨rfl, fun _ h => absurd h List.not_mem_nil⟩
theorem nb_cons (h : Vr t1 σ H (Non K l)) (k : Ar a1 σ H (Nons K l n)) : Ar (tCons t1 a1) σ H (Nons K l (n + 1)) := fun H1 Q g q => h H1 _ g fun v H2 g2 hv => k H2 _ (g.trans g2) fun vs H3 g3 ⟨hl, ha⟩ => q (v :: vs) H3 (g2.trans g3) ⟨by rw [List.length_cons, hl], fun u hu => by
  rcases List.mem_cons.mp hu with e | e
  · rw [e]
    exact hv.mono g3
  · exact ha u e⟩
theorem nb_i {i : Int} (h : Vl t1 σ H (.int i)) (e : i < l ∨ 1000000000 < i) : Vr t1 σ H (Non K l) := fun H1 Q g q => h H1 _ g fun H2 g2 => q _ H2 g2 ⟨.inl ⟨i, rfl⟩, by
  show (decide (l ≤ i) && decide (i ≤ 1000000000)) = false
  rcases e with e | e
  · rw [decide_eq_false (by omega)]; rfl
  · rw [decide_eq_false (show ¬ i ≤ 1000000000 by omega), Bool.and_false]⟩
theorem nb_b {b : Bool} (h : Vl t1 σ H (.bl b)) : Vr t1 σ H (Non K l) := fun H1 Q g q => h H1 _ g fun H2 g2 => q _ H2 g2 ⟨.inr (.inl ⟨b, rfl⟩), rfl⟩
theorem nb_v (h : Vl t1 σ H x) (k : ∀ H1, NoInt K x H1) (n : ∀ z, x ≠ .int z) : Vr t1 σ H (Non K l) := fun H1 Q g q => h H1 _ g fun H2 g2 => q _ H2 g2 ⟨.inr (.inr ⟨k H2, n⟩), by cases x <;> first | exact absurd rfl (n _) | rfl⟩
theorem nb_l (h : Ls t1 σ H xs) : Vr t1 σ H (Non K l) := fun H1 Q g q => h H1 _ g fun p H2 _ g2 hp => q _ H2 g2 ⟨.inr (.inr ⟨⟨"list", .base (.lst hp), kit_ty (by decide +kernel)⟩, fun _ z => nomatch z⟩), rfl⟩
theorem nb_u (h : Tu t1 σ H xs) : Vr t1 σ H (Non K l) := fun H1 Q g q => h H1 _ g fun p H2 _ g2 hp => q _ H2 g2 ⟨.inr (.inr ⟨⟨"tuple", .base (.tup hp), kit_ty (by decide +kernel)⟩, fun _ z => nomatch z⟩), rfl⟩
end

--CUT
theorem ok_Cell (T : Top K mg) : FnOk P w K mg base CX0 1 T.f_Cell T.fd_Cell ["_law_script", "_law_k"] (spCell K) := by
  refine T.F_Cell.ok scCell (fun vs H Q E h => ?_) (fun cdv A outer s H vs Q E hr h => ?_)
  · obtain ⟨a, ns, k, rfl, hS, q⟩ := h
    rfl
  · obtain ⟨a, ns, k, rfl, hS, q⟩ := h
    refine ⟨_, (pss_cons (ps_if (pt_cmpR op_lt (pv 1) (pe_callB call_len_seq (by rfl) T.m_len PySem.boot_len (pa_cons (pv 0) pa_nil)) (nomark _))
      (pss_one (ps_ret (pe_ix ix_list (pv 0) (pv 1) (fun _ _ => rfl))))
      pss_nil)
      (pss_one (ps_ret pe_int))), ?_⟩
    refine slots (start_Cell _ _) ?_
    refine' B_when (b := decide ((k : Int) < (ns.map V.int).length)) ?h ?k1 ?k2
    (case h => walk_at "et")
    all_goals intro hb H1 e1
    · have hk' : k < ns.length := by
        have := of_decide_eq_true hb
        rw [List.length_map] at this
        omega
      have g : (ns.map V.int)[k]? = some (.int (cellAt ns k)) := by
        rw [List.getElem?_map, List.getElem?_eq_getElem hk']
        unfold cellAt
        rw [List.getD_eq_getElem?_getD, List.getElem?_eq_getElem hk']
        rfl
      exact S_ret (v_op (v_slot rfl) (v_slot rfl) (bi_ixL (e1.sl hS) (atI_nat g))) fun H2 e2 => q H2 (e1.trans e2)
    · refine S_ret v_con fun H2 e2 => ?_
      have hk : ¬ k < ns.length := by
        have := of_decide_eq_false hb
        rw [List.length_map] at this
        omega
      have g : cellAt ns k = 0 := by
        unfold cellAt
        rw [List.getD_eq_getElem?_getD, List.getElem?_eq_none (by omega)]
        rfl
      rw [g] at q
      exact q H2 (e1.trans e2)
theorem ok_Num (T : Top K mg) : FnOk P w K mg base CX0 1 T.f_Num T.fd_Num ["_law_cell", "_law_least"] (spNum) := by
  refine T.F_Num.ok scNum (fun vs H Q E h => ?_) (fun cdv A outer s H vs Q E hr h => ?_)
  · obtain ⟨c, l, rfl, hl, q⟩ := h
    rfl
  · obtain ⟨c, l, rfl, hl, q⟩ := h
    refine ⟨_, (pss_cons (ps_set (i := 2) scNum.nd rfl (Or.inl rfl) (pe_op op_modN (pv 0) pe_int))
      (pss_cons (ps_if (pt_cmpR op_lt (pv 2) pe_int (nomark _))
      (pss_one (ps_ret (pe_op op_add (pv 1) (pv 2))))
      pss_nil)
      (pss_cons (ps_if (pt_cmpR op_eq (pv 2) pe_int (nomark _))
      (pss_one (ps_ret (pe_op op_add (pv 1) (pe_op op_modN (pe_op op_fdivN (pv 0) pe_int) pe_int))))
      pss_nil)
      (pss_cons (ps_if (pt_cmpR op_eq (pv 2) pe_int (nomark _))
      (pss_one (ps_ret (pe_op op_pow pe_int pe_int)))
      pss_nil)
      (pss_cons (ps_if (pt_cmpR op_eq (pv 2) pe_int (nomark _))
      (pss_one (ps_ret (pe_op op_add (pv 1) (pe_op op_modN (pe_op op_fdivN (pv 0) pe_int) (pe_op op_sub (pe_op op_add (pe_op op_pow pe_int pe_int) pe_int) (pv 1))))))
      pss_nil)
      (pss_one (ps_ret (pe_op op_add (pv 1) (pe_op op_modN (pe_op op_fdivN (pv 0) pe_int) (pe_ix ix_list (pe_lst (pa_cons pe_int (pa_cons pe_int pa_nil))) (pe_op op_sub (pv 2) pe_int) (fun _ _ => rfl))))))))))), ?_⟩
    refine slots (start_Num _ _) ?_
    have hb := fmod_in c (m := 8) (by decide)
    walk_at "set"
    intro H1 e1
    replace q := q.mono e1
    walk_at "when"
    all_goals intro hc H2 e2
    · walk_at "ret"
      intro H3 e3
      have g : numBy c l = l + c.fmod 8 := if_pos (of_decide_eq_true hc)
      rw [g] at q
      exact q H3 (e2.trans e3)
    replace q := q.mono e2
    have n1 := of_decide_eq_false hc
    walk_at "when"
    all_goals intro hc H2 e2
    · walk_at "ret"
      intro H3 e3
      have c1 : c.fmod 8 = 3 := V.int.inj (of_decide_eq_true hc)
      have g : numBy c l = l + (c.fdiv 8).fmod 9 := by unfold numBy; rw [if_neg n1, if_pos c1]
      rw [g] at q
      exact q H3 (e2.trans e3)
    replace q := q.mono e2
    have n2 : ¬ c.fmod 8 = 3 := fun z => of_decide_eq_false hc (congrArg V.int z)
    walk_at "when"
    all_goals intro hc H2 e2
    · refine S_ret (v_op v_con v_con (bi_C ⟨by decide, by decide, by decide⟩)) fun H3 e3 => ?_
      have c1 : c.fmod 8 = 4 := V.int.inj (of_decide_eq_true hc)
      have g : numBy c l = 10 ^ 9 := by unfold numBy; rw [if_neg n1, if_neg n2, if_pos c1]
      rw [g] at q
      exact q H3 (e2.trans e3)
    replace q := q.mono e2
    have n3 : ¬ c.fmod 8 = 4 := fun z => of_decide_eq_false hc (congrArg V.int z)
    walk_at "when"
    all_goals intro hc H2 e2
    · have ten : (10:Int) ^ (9:Int).toNat + 1 - l ≠ 0 := by
        have : (10:Int) ^ (9:Int).toNat = 1000000000 := by decide
        omega
      refine S_ret (v_op (v_slot rfl) (v_op (v_op (v_slot rfl) v_con (bi_C ⟨by decide, by decide⟩)) (v_op (v_op (v_op v_con v_con (bi_C ⟨by decide, by decide, by decide⟩)) v_con bi_0) (v_slot rfl) bi_0) (bi_C ten)) bi_0) fun H3 e3 => ?_
      have c1 : c.fmod 8 = 5 := V.int.inj (of_decide_eq_true hc)
      have g : numBy c l = l + (c.fdiv 8).fmod (10 ^ 9 + 1 - l) := by unfold numBy; rw [if_neg n1, if_neg n2, if_neg n3, if_pos c1]
      rw [g] at q
      exact q H3 (e2.trans e3)
    replace q := q.mono e2
    have n4 : ¬ c.fmod 8 = 5 := fun z => of_decide_eq_false hc (congrArg V.int z)
    have g : numBy c l = l + (c.fdiv 8).fmod (if c.fmod 8 = 6 then 60 else 300) := by unfold numBy; rw [if_neg n1, if_neg n2, if_neg n3, if_neg n4]
    rw [g] at q
    have at6 : atI [V.int 60, V.int 300] (c.fmod 8 - 6) = some (.int (if c.fmod 8 = 6 then 60 else 300)) := by
      rcases (by omega : c.fmod 8 = 6 ∨ c.fmod 8 = 7) with z | z
      · rw [z]; rfl
      · rw [z]; rfl
    have nz : (if c.fmod 8 = 6 then (60:Int) else 300) ≠ 0 := by split <;> decide
    refine S_ret (v_op (v_slot rfl) (v_op (v_op (v_slot rfl) v_con (bi_C ⟨by decide, by decide⟩)) (v_opL (l_lst (g_cons v_con (g_cons v_con g_nil)) (by decide)) (fun _ _ => v_op (v_slot rfl) v_con bi_0) (fun p H1 h1 _ => bi_ixL (SqL.of h1) at6)) (bi_C nz)) bi_0) fun H3 e3 => ?_
    exact q H3 e3
theorem ok_Whole (T : Top K mg) : FnOk P w K mg base CX0 1 T.f_Whole T.fd_Whole ["_law_found"] (spWhole4) := by
  refine T.F_Whole.ok scWhole (fun vs H Q E h => ?_) (fun cdv A outer s H vs Q E hr h => ?_)
  · obtain ⟨i, rfl, q⟩ := h
    rfl
  · obtain ⟨i, rfl, q⟩ := h
    refine ⟨_, (pss_one (ps_ret (pe_and (pe_callB call_isi (by rfl) T.m_isinstance (by decide +kernel) (pa_cons (pv 0) (pa_cons (pe_bltn (v := .ty "int") (by rfl) T.m_int (by decide +kernel) rfl) pa_nil))) (pe_one (pe_not (pe_callB call_isi (by rfl) T.m_isinstance (by decide +kernel) (pa_cons (pv 0) (pa_cons (pe_bltn (v := .ty "bool") (by rfl) T.m_bool (by decide +kernel) rfl) pa_nil)))))))), ?_⟩
    refine slots (start_Whole _) ?_
    exact S_ret (Vl.is (v_and (v_isiI (v_slot rfl)) (fun _ => v_not (v_isbI (v_slot rfl)))) rfl) fun H1 e1 => q H1 e1
theorem ok_NoneBy (T : Top K mg) : FnOk P w K mg base CX0 1 T.f_NoneBy T.fd_NoneBy ["_law_cell", "_law_least"] (spNone4 K) := by
  refine T.F_NoneBy.ok scNoneBy (fun vs H Q E h => ?_) (fun cdv A outer s H vs Q E hr h => ?_)
  · obtain ⟨c, l, rfl, hl, q⟩ := h
    rfl
  · obtain ⟨c, l, rfl, hl, q⟩ := h
    refine ⟨_, (pss_cons (ps_set (i := 2) scNoneBy.nd rfl (Or.inl rfl) (pe_op op_add (pe_op op_modN (pe_op op_fdivN (pv 0) pe_int) (pe_op op_pow pe_int pe_int)) pe_int))
      (pss_one (ps_ret (pe_ix ix_list (pe_lst (pa_cons (pe_op op_sub (pv 1) pe_int) (pa_cons (pe_op op_add (pe_op op_pow pe_int pe_int) pe_int) (pa_cons pe_bl (pa_cons pe_bl (pa_cons pe_str (pa_cons pe_non (pa_cons (pe_lst (pa_cons pe_int pa_nil)) (pa_cons (pe_op op_sub (pv 1) (pv 2)) (pa_cons (pe_op op_add (pe_op op_pow pe_int pe_int) (pv 2)) (pa_cons (pe_tup (pa_cons pe_int pa_nil)) pa_nil))))))))))) (pe_op op_modN (pv 0) pe_int) (fun _ _ => rfl))))), ?_⟩
    refine slots (start_NoneBy _ _) ?_
    have l1 : (1 : Nat) ≤ 100000 := by decide
    have b10 := fmod_in c (m := 10) (by decide)
    have far : 0 ≤ ((c.fdiv 10).fmod (10 ^ 30)) := (fmod_in (c.fdiv 10) (m := 10 ^ 30) (by decide)).1
    have rf : ∀ p : Addr, numV l (.ref p) = false := fun _ => rfl
    refine B_set (v := .int ((c.fdiv 10).fmod (10 ^ 30) + 2)) (Vl.is (v_op (v_op (v_op (v_slot rfl) v_con (bi_C (show CDivN c 10 from ⟨by decide, by decide⟩))) (v_op v_con v_con (bi_C (show CPow 10 30 from ⟨by decide, by decide, by decide⟩))) (bi_C (show (10 ^ 30 : Int) ≠ 0 by decide))) v_con bi_0) rfl) fun H1 e1 => ?_
    have p9 : (10 : Int) ^ Int.toNat 9 = 1000000000 := by decide
    generalize (c.fdiv 10).fmod (10 ^ 30) = f at far ⊢
    walk_at "n"
    refine S_retR (r_ix (S := Non K l) (r_lst (R := Nons K l 10) (nb_cons (nb_i (v_op (v_slot rfl) v_con bi_0) (.inl (by omega))) (nb_cons (nb_i (v_op (v_op v_con v_con (bi_C (show CPow 10 9 from ⟨by decide, by decide, by decide⟩))) v_con bi_0) (.inr (by decide))) (nb_cons (nb_b v_con) (nb_cons (nb_b v_con)
      (nb_cons (nb_v v_con (fun _ => ⟨"str", .base (.str _), kit_ty (by decide +kernel)⟩) (fun _ z => nomatch z)) (nb_cons (nb_v v_con (fun _ => ⟨"NoneType", .base .non, kit_ty (by decide +kernel)⟩) (fun _ z => nomatch z)) (nb_cons (nb_l (l_lst (g_cons v_con g_nil) l1))
      (nb_cons (nb_i (v_op (v_slot rfl) (v_slot rfl) bi_0) (.inl (by omega))) (nb_cons (nb_i (v_op (v_op v_con v_con (bi_C (show CPow 10 9 from ⟨by decide, by decide, by decide⟩))) (v_slot rfl) bi_0) (.inr (by rw [p9]; omega))) (nb_cons (nb_u (u_tup (g_cons v_con g_nil) l1)) nb_nil)))))))))) (fun vs H1 h => by rw [h.1]; decide) fun g h => h.mono g)
      (fun H1 g => v_op (v_slot rfl) v_con (bi_C (show (10 : Int) ≠ 0 by decide))) (fun v H1 g ⟨p, xs, ev, hp, hb⟩ => ?_) fun g h => h.mono g) fun v H2 e2 h => q v H2 (e1.trans e2) h
    have ll : (xs.length : Int) = 10 := by rw [hb.1]; rfl
    have at10 := atI_in (V.non) (l := xs) b10.1 (by omega)
    have lt : (c.fmod 10).toNat < xs.length := by omega
    have mem : xs.getD (c.fmod 10).toNat V.non ∈ xs := by
      rw [List.getD_eq_getElem?_getD, List.getElem?_eq_getElem lt]
      exact List.getElem_mem _
    exact ⟨p, xs, _, ev, hp, at10, hb.2 _ mem⟩

--CUT
section
variable {K : PySem.W.Frag} {σ : L2.St} {H : Hp} {t1 t2 : TE} {a1 : TA} {vs xs ys : List V} {r : R2} {z : V}
theorem bi_is {r : R2} {x y z u : V} {H : Hp} (h : Bi r x y H z) (e : z = u) : Bi r x y H u := e ▸ h
theorem v_opLL (a : Ls t1 σ H xs) (b : Ls t2 σ H ys) (o : ∀ p1 p2 H1, H1 p1 = some (.lst xs) → H1 p2 = some (.lst ys) → Gr H H1 → Bi r (.ref p1) (.ref p2) H1 z) : Vl (tOp r t1 t2) σ H z := fun H1 Q g q =>
  a H1 _ g fun p H2 _ g2 e2 => b H2 _ (g.trans g2) fun p2 H3 _ g3 e3 => o p p2 H3 (g3.lst e2) e3 ((g.trans g2).trans g3) H3 Q (.refl _) fun H4 g4 => q H4 ((g2.trans g3).trans g4)
theorem l_callE {a : Addr} {c : Value} {d : Option Addr} {sp : Addr → Value → Option Addr → Sp} {F : L2.St → XK} (h : Ag a1 σ H vs) (k : ∀ H1 (Q : VK), Gr H H1 → RL xs H1 Q → sp a c d vs H1 Q (F σ)) : Ls (RX.tCallE a c d sp F a1) σ H xs := fun H1 Q g q =>
  h H1 _ g fun H2 g2 => k H2 Q (g.trans g2) fun p H3 hp g3 e => q p H3 (g2.free hp) (g2.trans g3) e
theorem v_isVE {a : Addr} {x : Str} (h : Vl t1 σ H (.ref a)) (ex : exB K = true) (hx : x ∈ raised) : Vl (tCB (RX.rIsP K a (.ref (He.ga K x)) none) (tCons t1 (tCons (tC (.ty "ValueError")) tNil))) σ H (.bl true) :=
  v_blt (g_cons h (g_cons v_con g_nil)) fun H1 Q _ q => ⟨He.ga K x, .ty "ValueError", .type "ValueError", true, rfl, rfl, exB_exc ex hx, rfl, fun _ e => e, by
    have m : ∀ x ∈ raised, (x, ("ValueError" : Str), true) ∈ kinds := by decide +kernel
    have k := exB_kit ex (m x hx)
    unfold clsV at k
    rw [if_pos rfl] at k
    exact k, q H1 (.refl _)⟩
theorem makeB4 {v w : V} {F : L2.St → XK} {Q : VK} (h1 : Vl t1 σ H v) (h2 : Vl t2 σ H w) (n1 : Num3 K v H) (n2 : Num3 K w H) (e : (numV 1 v && numV 0 w) = false) (k : ∀ H1, Gr H H1 → F σ (.ref (He.ga K "BadNumber")) none H1) :
    RX.tMakeA (He.ga K "Room") (spInit4 K) F (tCons t1 (tCons t2 tNil)) σ H Q := h1 H _ (.refl _) fun H1 g1 => h2 H1 _ g1 fun H2 g2 => fun y dx ny ndx ne =>
  have g := g1.trans g2
  have ny' : (upd H2 dx (.own y)) y = none := (upd_ne ne.symm).trans ny
  have gn : Gr H2 (upd (upd H2 dx (.own y)) y (.ins (He.ga K "Room") dx [])) := (Gr.new ndx).trans (.new ny')
  ⟨y, dx, v, w, rfl, upd_same, n1.mono (g.trans gn), n2.mono (g.trans gn), fun _ H3 g3 => k H3 ((g.trans gn).trans g3), fun z => by rw [e] at z; cases z⟩
end
theorem ok_Refused (T : Top K mg) : FnOk P w K mg base CX0 4 T.f_Refused T.fd_Refused ["_law_seats", "_law_patience"] (spRefused4 K) := by
  have GRoomInit := ok_RoomInit (P := P) (w := w) (base := base) T
  have DKinds := okD_Kinds (P := P) (w := w) (base := base) T
  have YRoomInit := fun y => okY_RoomInit (P := P) (w := w) (base := base) (y := y) T
  refine T.F_Refused.ok scRefused (fun vs H Q E h => ?_) (fun cdv A outer s H vs Q E hr h => ?_)
  · obtain ⟨v1, v2, rfl, hv, hw, e, q⟩ := h
    rfl
  · obtain ⟨v1, v2, rfl, hv, hw, e, q⟩ := h
    refine ⟨_, (pss_cons (L2N.ps_try_many rfl rfl RX.takesN (fun W pn xe tk0 po0 => (pss_one (ps_expr (RX.pe_makeA T.K_Room GRoomInit hr (by rfl) T.gc_Room T.B_RoomInit (fun σ => L2N.passAt tk0 σ) (pa_cons (pv 0) (pa_cons (pv 1) pa_nil)))))) (.cons ⟨rfl, by decide, .inl T.gc_BadNumber⟩ (fun a oe cls d pn hz hf => (pss_one (RY.try_asY (X := (Cx.suite (cxOf CX0 P w K mg base nmRefused "_law_refused" (defScope sRefused) T.f_Refused cdv A outer s H E).nox a ((a, oe) :: pn))) (x := "RoomError") (z := (a, oe)) (K := K) (i := 2) rfl rfl rfl scRefused.nd rfl rfl ⟨rfl, by decide, .inl T.gc_RoomError⟩ List.mem_cons_self (fun W pn xe hy tkY poY => (pss_one (ps_expr (RY.pe_makeY T.K_Room (YRoomInit (a, oe)) (RX.roomH_suite hr) (RX.hot_suite hz hf) hy (by rfl) T.gc_Room T.B_RoomInit (fun σ => RY.passAt tkY σ) (pa_cons (pv 0) (pa_cons (pv 1) pa_nil)))))) (fun a2 oe2 cls2 d2 pn2 hz2 hf2 ne2 hy2 => (pss_one (ps_ret (pe_and (pe_cmpR (r := rEqD K) (op_eqD hr.units) (RY.pe_callD (E := fun _ => E0) DKinds (RY.roomH2 (hr.mono (by decide))) (RY.hot2_suite hz hf hz2 hf2 ne2) List.mem_cons_self (List.mem_cons_of_mem _ hy2) hz2.1 (by rfl) T.g_Kinds T.F_Kinds.kp T.B_Kinds RX.passA0 (pa_cons (pv 2) pa_nil)) (pe_lst (pa_cons pe_int pa_nil)) (nomark _)) (pe_one (pe_callB (show CallR _ (.builtin "isinstance") (RX.rIsP K a2 cls2 d2) from RX.call_isP List.mem_cons_self hz2.1 hf2) (by rfl) T.m_isinstance (by decide +kernel) (pa_cons (pv 2) (pa_cons (pe_bltn (v := .ty "ValueError") (by rfl) T.m_ValueError (by decide +kernel) rfl) pa_nil))))))))))) .nil))
      (pss_one (ps_ret pe_bl))), ?_⟩
    refine slots (start_Refused _ _) ?_
    have ex := T.ex
    dsimp only [tSeq, tDrop]
    refine makeB4 (v_slot rfl) (v_slot rfl) hv hw e fun H1 g1 => ⟨true, T.e_BadNumber_BadNumber, fun _ a ha => ?_, fun z => nomatch z⟩
    dsimp only [tSeq, tDrop]
    refine makeB4 (v_slot rfl) (v_slot rfl) (hv.mono g1) (hw.mono g1) e fun H2 g2 => ⟨T.e_BadNumber_RoomError, fun a2 ha2 => ?_⟩
    have m : ("BadNumber" : Str) ∈ raised := by decide +kernel
    have k11 : kindsOf "BadNumber" = [11] := by decide +kernel
    refine S_ret (v_and (b := true) (v_opLL (xs := [.int 11]) (ys := [.int 11]) (l_callE (g_cons (v_slot rfl) g_nil) fun H3 Q3 g3 k => ⟨"BadNumber", rfl, m, rfl, rfl, by rw [k11]; exact k⟩) (l_lst (g_cons v_con g_nil) (show 1 ≤ 100000 by decide))
      fun p1 p2 H3 e1 e2 g3 => bi_is (bi_eqD (.lst (SqL.of e1) (.cons (.int 11) .nil)) (.lst (SqL.of e2) (.cons (.int 11) .nil)) (by decide +kernel) (by decide +kernel)) (by decide +kernel)) fun _ => v_isVE (v_slot rfl) ex m) fun H3 g3 => q H3 ((g1.trans g2).trans g3)

--CUT
def spLaw (K : PySem.W.Frag) : Sp := fun vs H Q _ => ∃ (a : Addr) (ns : List Int), vs = [.ref a] ∧ SqL K H a (ns.map V.int) ∧ ns.length ≤ 63 ∧ ∀ H', Q (.bl true) H'
theorem law_pre {K : PySem.W.Frag} {mg : Str → Option Value} (T : Top K mg) (H : Hp) (a : Addr) (ns : List Int) (hl : ns.length ≤ 63) (hS : SqL K H a (ns.map V.int)) (ht : ∀ p ∈ ([] : List (Addr × Addr)), GxR.TabG H p.2) : spLaw K [.ref a] H (fun v _ => v = .bl true) fun _ _ _ => False := ⟨a, ns, rfl, hS, hl, fun _ => rfl⟩
/-- new lists, all empty -/
def Emp (n : Nat) (vs : List V) (H : Hp) : Prop := vs.length = n ∧ ∀ v ∈ vs, ∃ p, v = .ref p ∧ H p = some (.lst [])
theorem Emp.mono {n : Nat} {vs : List V} {H H' : Hp} (g : Gr H H') (h : Emp n vs H) : Emp n vs H' := ⟨h.1, fun v hv => let ⟨p, e, hp⟩ := h.2 v hv; ⟨p, e, g.lst hp⟩⟩
/-- what the script makes of a number -/
def Made (K : PySem.W.Frag) (l : Int) (bad : Bool) (v : V) (H : Hp) : Prop := if bad = true then Non K l v H else ∃ i, v = .int i ∧ l ≤ i ∧ i ≤ 1000000000
theorem Made.mono {K : PySem.W.Frag} {l : Int} {bad : Bool} {v : V} {H H' : Hp} (g : Gr H H') (h : Made K l bad v H) : Made K l bad v H' := by
  unfold Made at h ⊢
  split at h
  · rw [if_pos (by assumption)]; exact h.mono g
  · rw [if_neg (by assumption)]; exact h
theorem Made.num {K : PySem.W.Frag} {l : Int} {bad : Bool} {v : V} {H : Hp} (h : Made K l bad v H) : Num3 K v H := by
  unfold Made at h
  split at h
  · exact h.1
  · exact let ⟨i, e, _⟩ := h; .inl ⟨i, e⟩
section
variable {K : PySem.W.Frag} {σ : L2.St} {H : Hp} {t1 t2 : TE} {a1 : TA} {n : Nat} {D : Ends} {u1 : TS} {i : Nat}
theorem ae_nil : Ar tNil σ H (Emp 0) := fun H1 _ _ q => q [] H1 (.refl _) ⟨rfl, fun _ h => absurd h List.not_mem_nil⟩
theorem ae_cons (h : Ls t1 σ H []) (k : Ar a1 σ H (Emp n)) : Ar (tCons t1 a1) σ H (Emp (n + 1)) := fun H1 Q g q => h H1 _ g fun p H2 _ g2 hp => k H2 _ (g.trans g2) fun vs H3 g3 ⟨hl, ha⟩ => q (.ref p :: vs) H3 (g2.trans g3) ⟨by rw [List.length_cons, hl], fun u hu => by
  rcases List.mem_cons.mp hu with e | e
  · exact ⟨p, e, g3.lst hp⟩
  · exact ha u e⟩
theorem B_make4 {seats pat : Int} {E : XK} (h1 : Vl t1 σ H (.int seats)) (h2 : Vl t2 σ H (.int pat)) (hs : 1 ≤ seats ∧ seats ≤ 1000000000) (hp : 0 ≤ pat ∧ pat ≤ 1000000000)
    (k : ∀ p a H1, Gr H H1 → R4 K H1 p a seats pat → u1 D (σ.set i (some (.ref p))) H1) : tSeq (tAsg (tMake (He.ga K "Room") (spInit4 K) [] E (tCons t1 (tCons t2 tNil))) (gName i)) u1 D σ H :=
  h1 H _ (.refl _) fun H1 g1 => h2 H1 _ g1 fun H2 g2 => fun y dx ny ndx ne => by
    have g := g1.trans g2
    have ny' : (upd H2 dx (.own y)) y = none := (upd_ne ne.symm).trans ny
    have gn : Gr H2 (upd (upd H2 dx (.own y)) y (.ins (He.ga K "Room") dx [])) := (Gr.new ndx).trans (.new ny')
    have nv : (numV 1 (.int seats) && numV 0 (.int pat)) = true := by
      show ((decide (1 ≤ seats) && decide (seats ≤ 1000000000)) && (decide (0 ≤ pat) && decide (pat ≤ 1000000000))) = true
      rw [decide_eq_true hs.1, decide_eq_true hs.2, decide_eq_true hp.1, decide_eq_true hp.2]
      rfl
    refine ⟨y, dx, .int seats, .int pat, rfl, upd_same, .inl ⟨_, rfl⟩, .inl ⟨_, rfl⟩, (fun z => by rw [nv] at z; cases z), fun _ a s0 p0 H3 es ep ch r4 => ⟨rfl, ?_⟩⟩
    cases es
    cases ep
    have c : Ch (fun x => x = y) H2 H3 := (Ch.of gn).trans ch
    exact k y a H3 (g.trans (c.toGr fun b hb => by rw [hb]; exact ny)) r4
end
theorem ok_Law (T : Top K mg) : FnOk P w K mg base CX0 5 T.f_Law T.fd_Law ["_law_script"] (spLaw K) := by
  have GNum := ok_Num (P := P) (w := w) (base := base) T
  have GCell := ok_Cell (P := P) (w := w) (base := base) T
  have GNoneBy := ok_NoneBy (P := P) (w := w) (base := base) T
  have GRefused := ok_Refused (P := P) (w := w) (base := base) T
  have GRoomInit := ok_RoomInit (P := P) (w := w) (base := base) T
  have GWhole := ok_Whole (P := P) (w := w) (base := base) T
  have GWriterM := ok_WriterM (P := P) (w := w) (base := base) T
  have GAskerM := ok_AskerM (P := P) (w := w) (base := base) T
  have GReadersM := ok_ReadersM (P := P) (w := w) (base := base) T
  have GLineM := ok_LineM (P := P) (w := w) (base := base) T
  have GJournalM := ok_JournalM (P := P) (w := w) (base := base) T
  refine T.F_Law.ok scLaw (fun vs H Q E h => ?_) (fun cdv A outer s H vs Q E hr h => ?_)
  · obtain ⟨a, ns, rfl, hS, hlen, q⟩ := h
    rfl
  · obtain ⟨a, ns, rfl, hS, hlen, q⟩ := h
    refine ⟨_, (pss_cons (ps_set (i := 1) scLaw.nd rfl (Or.inl rfl) (pe_call GNum (hr.mono (by decide)) (by rfl) T.g_Num T.F_Num.kp T.B_Num .nil pass0 (pa_cons (pe_call GCell (hr.mono (by decide)) (by rfl) T.g_Cell T.F_Cell.kp T.B_Cell .nil pass0 (pa_cons (pv 0) (pa_cons pe_int pa_nil))) (pa_cons pe_int pa_nil))))
      (pss_cons (ps_set (i := 2) scLaw.nd rfl (Or.inl rfl) (pe_call GNum (hr.mono (by decide)) (by rfl) T.g_Num T.F_Num.kp T.B_Num .nil pass0 (pa_cons (pe_call GCell (hr.mono (by decide)) (by rfl) T.g_Cell T.F_Cell.kp T.B_Cell .nil pass0 (pa_cons (pv 0) (pa_cons pe_int pa_nil))) (pa_cons pe_int pa_nil))))
      (Evl.pss_cut (ps_if (pt_cmpR op_eq (pe_op op_modN (pe_call GCell (hr.mono (by decide)) (by rfl) T.g_Cell T.F_Cell.kp T.B_Cell .nil pass0 (pa_cons (pv 0) (pa_cons pe_int pa_nil))) pe_int) pe_int (nomark _))
      (pss_one (ps_set (i := 1) scLaw.nd rfl (Or.inl rfl) (pe_call GNoneBy (hr.mono (by decide)) (by rfl) T.g_NoneBy T.F_NoneBy.kp T.B_NoneBy .nil pass0 (pa_cons (pe_call GCell (hr.mono (by decide)) (by rfl) T.g_Cell T.F_Cell.kp T.B_Cell .nil pass0 (pa_cons (pv 0) (pa_cons pe_int pa_nil))) (pa_cons pe_int pa_nil)))))
      pss_nil)
      (Evl.pss_cut (ps_if (pt_cmpR op_eq (pe_op op_modN (pe_op op_fdivN (pe_call GCell (hr.mono (by decide)) (by rfl) T.g_Cell T.F_Cell.kp T.B_Cell .nil pass0 (pa_cons (pv 0) (pa_cons pe_int pa_nil))) pe_int) pe_int) pe_int (nomark _))
      (pss_one (ps_set (i := 2) scLaw.nd rfl (Or.inl rfl) (pe_call GNoneBy (hr.mono (by decide)) (by rfl) T.g_NoneBy T.F_NoneBy.kp T.B_NoneBy .nil pass0 (pa_cons (pe_call GCell (hr.mono (by decide)) (by rfl) T.g_Cell T.F_Cell.kp T.B_Cell .nil pass0 (pa_cons (pv 0) (pa_cons pe_int pa_nil))) (pa_cons pe_int pa_nil)))))
      pss_nil)
      (pss_cons (ps_if (PW.pt (pw_or (pt_cmpR op_eq (pe_op op_modN (pe_call GCell (hr.mono (by decide)) (by rfl) T.g_Cell T.F_Cell.kp T.B_Cell .nil pass0 (pa_cons (pv 0) (pa_cons pe_int pa_nil))) pe_int) pe_int (nomark _)) (pw_or1 (pt_cmpR op_eq (pe_op op_modN (pe_op op_fdivN (pe_call GCell (hr.mono (by decide)) (by rfl) T.g_Cell T.F_Cell.kp T.B_Cell .nil pass0 (pa_cons (pv 0) (pa_cons pe_int pa_nil))) pe_int) pe_int) pe_int (nomark _)))))
      (pss_one (ps_ret (pe_call GRefused hr (by rfl) T.g_Refused T.F_Refused.kp T.B_Refused .nil pass0 (pa_cons (pv 1) (pa_cons (pv 2) pa_nil)))))
      pss_nil)
      (pss_cons (ps_set (i := 3) scLaw.nd rfl (Or.inl rfl) (pe_make T.K_Room GRoomInit (hr.mono (by decide)) (by rfl) T.gc_Room T.B_RoomInit .nil RX.passN (pa_cons (pv 1) (pa_cons (pv 2) pa_nil))))
      (pss_cons (ps_if (PW.pt (pw_or (pt_not (pt_val (pe_call GWhole (hr.mono (by decide)) (by rfl) T.g_Whole T.F_Whole.kp T.B_Whole .nil pass0 (pa_cons (pe_fld (pv 3) rfl) pa_nil)))) (pw_or1 (pt_not (pt_val (pe_call GWhole (hr.mono (by decide)) (by rfl) T.g_Whole T.F_Whole.kp T.B_Whole .nil pass0 (pa_cons (pe_fld (pv 3) rfl) pa_nil)))))))
      (pss_one (ps_ret pe_bl))
      pss_nil)
      (pss_cons (ps_if (PW.pt (pw_or (pt_cmpR op_ne (pe_fld (pv 3) rfl) (pv 1) (nomark _)) (pw_or (pt_cmpR op_ne (pe_fld (pv 3) rfl) (pv 2) (nomark _)) (pw_or (pt_cmpR op_notN (pe_meth0 (pv 3) T.cl_Room T.M_WriterM GWriterM (hr.mono (by decide)) T.B_WriterM .nil pass0) pe_non (nomark _)) (pw_or1 (pt_cmpR op_notN (pe_meth0 (pv 3) T.cl_Room T.M_AskerM GAskerM (hr.mono (by decide)) T.B_AskerM .nil pass0) pe_non (nomark _)))))))
      (pss_one (ps_ret pe_bl))
      pss_nil)
      (pss_cons (ps_set (i := 4) scLaw.nd rfl (Or.inl rfl) (pe_lst (pa_cons (pe_meth0 (pv 3) T.cl_Room T.M_ReadersM GReadersM (hr.mono (by decide)) T.B_ReadersM .nil pass0) (pa_cons (pe_meth0 (pv 3) T.cl_Room T.M_LineM GLineM (hr.mono (by decide)) T.B_LineM .nil pass0) (pa_cons (pe_meth0 (pv 3) T.cl_Room T.M_JournalM GJournalM (hr.mono (by decide)) T.B_JournalM .nil pass0) pa_nil)))))
      (pss_one (ps_ret (pe_cmpR (op_eqD hr.units) (pe_lc (own := [("_law_one", 5)]) rfl scLaw.nd (pi_list (pv 4)) (blkOk_by (own := [("_law_one", 5)]) (N := nmLaw) (sc := defScope sLaw) (by decide +kernel)) (fun _ _ _ _ _ => (pg_name (i := 5) scLaw.nd rfl (Or.inl rfl))) (fun _ _ _ _ _ => (pts_one (PW.pt (pw_or (pt_not (pt_val (pe_callB (r := rIsi K) call_isi (by rfl) T.m_isinstance (by decide +kernel) (pa_cons (pv 5) (pa_cons (pe_bltn (v := .ty "list") (by rfl) T.m_list (by decide +kernel) rfl) pa_nil))))) (pw_or1 (pt_cmpR (r := rNeD K) (op_neD hr.units) (pv 5) (pe_lst pa_nil) (nomark _))))))) (fun _ _ _ _ _ => (pv 5))) (pe_lst pa_nil) (nomark _))))))))))))), ?_⟩
    refine slots (start_Law _) ?_
    have nl : (0 : Nat) ≤ 100000 := by decide
    have n0 := numBy_in (cellAt ns 0) 1 (.inr rfl)
    have n1 := numBy_in (cellAt ns 1) 0 (.inl rfl)
    have two : ∀ {H1 : Hp} {σ : L2.St}, σ[0]? = some (some (.ref a)) → Gr H H1 → Vl (tCall (spCell K) [] E0 (tCons (tVar 0) (tCons (tC (.int 2)) tNil))) σ H1 (.int (cellAt ns 2)) := fun h0 g => v_call (g_cons (v_slot h0) (g_cons v_con g_nil)) (sv_cell 2 rfl (g.sl hS))
    refine B_set (v_call (g_cons (v_call (g_cons (v_slot rfl) (g_cons v_con g_nil)) (sv_cell 0 rfl hS)) (g_cons v_con g_nil)) (sv_num (.inr rfl))) fun H1 e1 => ?_
    walk_at "n"
    refine B_set (v_call (g_cons (v_call (g_cons (v_slot rfl) (g_cons v_con g_nil)) (sv_cell 1 rfl (e1.sl hS))) (g_cons v_con g_nil)) (sv_num (.inl rfl))) fun H2 e2 => ?_
    walk_at "n"
    have g2 := e1.trans e2
    refine B_cut (M := fun σ' H' => ∃ v, σ' = [some (.ref a), some v, some (.int (numBy (cellAt ns 1) 0)), none, none, none] ∧ Gr H2 H' ∧ Made K 1 (decide (V.int ((cellAt ns 2).fmod 3) = V.int 1)) v H') ?a1 ?a2
    case a1 =>
      refine S_when (s_test (v_op (v_op (two rfl g2) v_con (bi_C (show (3 : Int) ≠ 0 by decide))) v_con (bi_eq rfl))) (fun hb H3 e3 => ?_) fun hb H3 e3 => ?_
      · refine S_setR (R := Non K 1) (r_call (g_cons (v_call (g_cons (v_slot rfl) (g_cons v_con g_nil)) (sv_cell 3 rfl ((g2.trans e3).sl hS))) (g_cons v_con g_nil)) fun Hx Qx Ex gx qx => ⟨_, 1, rfl, .inr rfl, qx⟩) fun v H4 e4 hv => ⟨v, rfl, e3.trans e4, ?_⟩
        rw [hb]; exact hv
      · refine ⟨_, rfl, e3, ?_⟩
        rw [hb]; exact ⟨_, rfl, n0⟩
    rintro σ' H3 ⟨v, rfl, e3, mv⟩
    have g3 := g2.trans e3
    refine B_cut (M := fun σ' H' => ∃ w, σ' = [some (.ref a), some v, some w, none, none, none] ∧ Gr H3 H' ∧ Made K 0 (decide (V.int (((cellAt ns 2).fdiv 3).fmod 3) = V.int 1)) w H') ?b1 ?b2
    case b1 =>
      refine S_when (s_test (v_op (v_op (v_op (two rfl g3) v_con (bi_C (show CDivN (cellAt ns 2) 3 from ⟨by decide, by decide⟩))) v_con (bi_C (show (3 : Int) ≠ 0 by decide))) v_con (bi_eq rfl))) (fun hb H4 e4 => ?_) fun hb H4 e4 => ?_
      · refine S_setR (R := Non K 0) (r_call (g_cons (v_call (g_cons (v_slot rfl) (g_cons v_con g_nil)) (sv_cell 4 rfl ((g3.trans e4).sl hS))) (g_cons v_con g_nil)) fun Hx Qx Ex gx qx => ⟨_, 0, rfl, .inl rfl, qx⟩) fun w H5 e5 hw => ⟨w, rfl, e4.trans e5, ?_⟩
        rw [hb]; exact hw
      · refine ⟨_, rfl, e4, ?_⟩
        rw [hb]; exact ⟨_, rfl, n1⟩
    rintro σ' H4 ⟨w, rfl, e4, mw⟩
    have g4 := g3.trans e4
    have mv := mv.mono e4
    refine B_when (s_or (s_test (v_op (v_op (two rfl g4) v_con (bi_C (show (3 : Int) ≠ 0 by decide))) v_con (bi_eq rfl))) fun _ => s_test (v_op (v_op (v_op (two rfl g4) v_con (bi_C (show CDivN (cellAt ns 2) 3 from ⟨by decide, by decide⟩))) v_con (bi_C (show (3 : Int) ≠ 0 by decide))) v_con (bi_eq rfl))) (fun hb H5 e5 => ?_) fun hb H5 e5 => ?_
    · refine S_ret (v_call (g_cons (v_slot rfl) (g_cons (v_slot rfl) g_nil)) fun Hx Qx Ex gx qx => ⟨v, w, rfl, (mv.num.mono e5).mono gx, (mw.num.mono e5).mono gx, ?_, qx⟩) fun H6 e6 => q H6
      rcases Bool.or_eq_true_iff.mp hb with h | h
      · rw [h] at mv
        rw [show numV 1 v = false from mv.2]
        rfl
      · rw [h] at mw
        rw [show numV 0 w = false from mw.2, Bool.and_false]
    obtain ⟨hb1, hb2⟩ := Bool.or_eq_false_iff.mp hb
    rw [hb1] at mv
    rw [hb2] at mw
    obtain ⟨seats, rfl, s1, s2⟩ := mv
    obtain ⟨pat, rfl, p1, p2⟩ := mw
    refine B_make4 (v_slot rfl) (v_slot rfl) ⟨s1, s2⟩ ⟨p1, p2⟩ fun p ra H6 e6 r4 => ?_
    walk_at "n"
    have whole : ∀ {Hx : Hp} {i : Int}, SpV spWhole4 [.int i] Hx (.bl true) := fun H1 Q E g qx => ⟨_, rfl, qx⟩
    refine B_when (b := false) (s_or (b := false) (c := false) (Ts.is (s_not (b := true) (s_B (v_call (g_cons (v_at (v_slot rfl) r4.ins T.cl_Room T.n_Room_seats rfl) g_nil) whole))) rfl) fun _ => Ts.is (s_not (b := true) (s_B (v_call (g_cons (v_at (v_slot rfl) r4.ins T.cl_Room T.n_Room_patience rfl) g_nil) whole))) rfl) (fun z => nomatch z) fun _ H7 e7 => ?_
    have r7 := r4.mono e7
    refine B_when (b := false) (s_or (b := false) (c := false) (Ts.is (s_test (v_op (v_at (v_slot rfl) r7.ins T.cl_Room T.n_Room_seats rfl) (v_slot rfl) (bi_ne rfl))) (by simp)) fun _ => s_or (b := false) (c := false) (Ts.is (s_test (v_op (v_at (v_slot rfl) r7.ins T.cl_Room T.n_Room_patience rfl) (v_slot rfl) (bi_ne rfl))) (by simp)) fun _ =>
      s_or (b := false) (c := false) (Ts.is (s_test (v_op (v_meth (z := .non) (v_slot rfl) r7.ins rfl g_nil fun Hx Qx Ex gx qx => ⟨p, ra, seats, pat, rfl, r7.mono gx, qx⟩) v_con bi_notN)) rfl) fun _ => Ts.is (s_test (v_op (v_meth (z := .non) (v_slot rfl) r7.ins rfl g_nil fun Hx Qx Ex gx qx => ⟨p, ra, seats, pat, rfl, r7.mono gx, qx⟩) v_con bi_notN)) rfl) (fun z => nomatch z) fun _ H8 e8 => ?_
    have r8 := r7.mono e8
    have tells : ∀ {m : Str} {E : XK}, (rfs seats pat ra .non .non).lookup m = none → Ls (tMeth (He.ga K "Room") m (spTell4 K []) [] E (tVar 3) tNil) [some (V.ref a), some (V.int seats), some (V.int pat), some (V.ref p), none, none] H8 [] := fun hm => l_meth (v_slot rfl) r8.ins hm g_nil fun Hx Qx Ex gx qx => ⟨p, ra, seats, pat, rfl, r8.mono gx, qx⟩
    refine B_setR (r_lst (R := Emp 3) (ae_cons (tells rfl) (ae_cons (tells rfl) (ae_cons (tells rfl) ae_nil))) (fun vs H1 h => by rw [h.1]; decide) fun g h => h.mono g) fun v9 H9 e9 ⟨pl, vs, ev, hpl, em⟩ => ?_
    subst ev
    walk_at "n"
    refine S_ret (v_opLL (xs := []) (ys := []) (Ls.is (l_cmpL (xs := vs) (fun _ => false) (fun _ => .non) (v_slot rfl) (SqL.of hpl) (by rw [em.1]; decide) (fun x => rfl) (fun m x H1 g hx => ?_) fun m x H1 g hx z => nomatch z) (by rw [em.1]; rfl)) (l_lst g_nil nl)
      fun p1 p2 H10 h1 h2 g10 => bi_is (bi_eqD (.lst (SqL.of h1) .nil) (.lst (SqL.of h2) .nil) (by decide +kernel) (by decide +kernel)) (by decide +kernel)) fun H10 g10 => q H10
    obtain ⟨px, rfl, hpx⟩ := (em.mono g).2 x (List.mem_of_getElem? hx)
    exact s_or (b := false) (c := false) (Ts.is (s_not (b := true) (s_B (v_isi (b := true) (v_slot rfl) v_con (.ty _) (fun Hy gy => .base (.lst (gy.lst hpx))) (kit_ty (by decide +kernel))))) rfl) fun _ => Ts.is (s_test (v_opN (v_slot rfl) (l_lst g_nil nl) fun py Hy hy gy => bi_neD (.lst (SqL.of (gy.lst hpx)) .nil) (.lst (SqL.of hy) .nil) (by decide +kernel) (by decide +kernel))) (by decide +kernel)

end
end RR
open PySem PySem.W PySem.Calls PyProof.Rows in
set_option maxHeartbeats 0 in
theorem PySem.Challenge.cw_readwriteroom_k04_rooms_made_holds : PySem.Challenge.rw_readwriteroom_k04_rooms_made.Holds := by
  w_on; o_law
  refine HandSHeadRun.head_any (r := RR.Rw) (q := view (RR.Rw).prog [28]) (H := RR.hk) (ob := RR.ob) (M := 30000) (loose := RR.loose) (d := HandSHeadRun.topDef (RR.Rw).prog 28) (kwd := []) RR.ob_is
    (by kernel_rfl) (fun s => by kernel_rfl) RR.run (by kernel_rfl) (by kernel_rfl) (by kernel_rfl) (by rfl) (by first | assumption | decide +kernel) (by decide +kernel) ⟨rfl, rfl, rfl, rfl, rfl, by decide +kernel⟩ ?hw ?hc
  case hw => w_witness2
  case hc =>
    refine LamX.walk_ofTsE (l := PySem.Challenge.rw_readwriteroom_k04_rooms_made) (n := 63) (k := 5) (x := "_law_script") (CX := fun _ => L2.CX0) rfl (by decide) (by kernel_rfl) ⟨rfl, by decide, by decide⟩ ?F (fun _ _ _ _ _ z => z)
    intro w mg fa h Y G hmg0
    obtain ⟨K, KX, c⟩ := Y
    have hmg : mg ("law" : PySem.Str) = some (.ref fa) := by
      have e : (HandSHeadRun.topDef (RR.Rw).prog 28).name = ("law" : PySem.Str) := by kernel_rfl
      rw [← e]
      exact hmg0
    obtain ⟨T, rfl, hb⟩ := RR.facts (P := (PySem.Challenge.rw_readwriteroom_k04_rooms_made).prog) (w := w) KX G hmg c
    have mem : ∀ p ∈ ([] : List (Addr × Addr)), ∃ z ∈ RR.tfs, p = He.cT K z := by
      intro p hp
      exact absurd hp List.not_mem_nil
    refine ⟨K, KX, T.fd_Law, [], RR.spLaw K, fun p hp => ?_, fun p hp => ?_, fun p hp => ?_, hb, fun H a ns hl _ hT hS => ?_, fun base _ _ TB => ?_⟩
    · obtain ⟨z, hz, rfl⟩ := mem p hp
      exact c.empty z hz
    · obtain ⟨z, hz, rfl⟩ := mem p hp
      exact c.out z hz
    · obtain ⟨z, hz, rfl⟩ := mem p hp
      exact codeHd_of_K KX (c.hd z hz)
    · exact RR.law_pre T H a ns hl hS (fun p hp => ⟨#[], hT p hp, trivial⟩)
    · exact RR.ok_Law T

