import PyProof.Rows.All
import Wide.All
import OpenK.AllK
import Wide.FinOn
import HandS.ForMost
import HandS.Walk
import KE.GoesEnum
import HandS.Exc
import HandS.ExcOwn
import HandS.ExcInit
import HandS.ExcField
import HandS.TryOnly
import HandS.WordsExc
import HandS.IsInst
import HandS.Wide
import HandS.TupAny
import HandS.Flow
import HandS.Evl
import HandS.Deep
import HandS.Conv
import HandS.WideBits
import HandS.NoneIn
import HandS.Zip
import HandS.Rev
import PyProof.StrBlock2
import KE.DataMinMax
import HandS.SortRule
import KE.SortData
import KE.GoesZip
import KE.GoesMore
import KE.KRevSl
import HandS.Flt
import KE.KDictZip
import HandS.ExcIs
import KE.KExcIs
import PyProof.SeqIndex
import HandS.Small
import HandS.ListItems
import HandS.SetFor
import HandS.Iter
import HandS.Star
import HandS.StrMore
import HandS.Defaults
import PyProof.StrLawsLast
import PySem.Challenge.RW_deedstand_k61_whole_fewest_pieces
set_option Elab.async false
set_option linter.all false
set_option maxRecDepth 100000
set_option maxHeartbeats 4000000
/-! enumerate over a tuple and over a text, one argument -/
namespace Dk
open PySem PySem.Spec PyProof.Rows L2
/-- the object that enumerate(v) makes -/
abbrev enObj (it : Addr) : Obj := { cls := .type "enumerate", data := .fields #[.none, .bool false, .ref it, rawInt 0, .none, .none] }
theorem enum_new1 {v : Value} {o : Obj} {G : Heap → Prop} (B : Begins v o G) :
    Meets (Builtin.«enumerate.__new__» ⟨[.type "enumerate", v], []⟩) fun _ R s =>
      G s.heap ∧ R (.ok (.ret (.ref (s.heap.push o).objs.size))) { s with heap := (s.heap.push o).push (enObj s.heap.objs.size) } := by
  refine .of_wp fun prog w A R s hh => ?_
  rcases s with ⟨hp, gs, dr, tk, os⟩
  obtain ⟨hG, hR⟩ := hh
  have hs := sub_enumerate
  have go : ∀ {A' : Around} {E : Value → Shared → Prop} {Q : Value → Shared → Prop},
      Q (.ref hp.objs.size) ⟨hp.push o, gs, dr, tk, os⟩ → wpAny (model prog w) A' (pyIter v) Q E ⟨hp, gs, dr, tk, os⟩ :=
    fun q => B.iter prog w _ _ ⟨hp, gs, dr, tk, os⟩ _ hG q
  wp_walk using go
  refine wpAny_stack_any fun st => ?_
  refine wpAny_pure ?_
  split
  · rename_i c _ _ _ _ _
    cases (c == Value.type "enumerate") <;> (wp_walk using go; exact ⟨_, rfl, hR⟩)
  · wp_walk using go
    exact ⟨_, rfl, hR⟩
section
variable {prog : Program} {w : World} {A : Around} {E : Value → Shared → Prop} {s : Shared}
theorem enum_call1 {v : Value} {o : Obj} {G : Heap → Prop} {Q : Value → Shared → Prop} (B : Begins v o G) (hG : G s.heap)
    (q : ∀ h', IsEnum h' (s.heap.objs.size + 1) s.heap.objs.size 0 .none → h'.get? s.heap.objs.size = some o →
      (∀ b u, s.heap.get? b = some u → h'.get? b = some u) → Q (.ref (s.heap.objs.size + 1)) { s with heap := h' }) :
    wpAny (model prog w) A (call (.type "enumerate") [v]) Q E s := by
  have sz : (s.heap.push o).objs.size = s.heap.objs.size + 1 := Heap.size_push ..
  have he : IsEnum ((s.heap.push o).push (enObj s.heap.objs.size)) (s.heap.objs.size + 1) s.heap.objs.size 0 .none := by
    have z := Heap.get?_push_size (s.heap.push o) (o := enObj s.heap.objs.size) rfl
    rw [sz] at z
    exact z
  refine callType_new F.called_enumerate (by decide) (F.typeCall_enumerate_1 _) (F.newCall_enumerate_1 _)
    (fun obj => F.args_object_init_2 obj _) F.entry_enumerate_new (enum_new1 B) ⟨hG, ?_⟩
  show _ ∧ _
  rw [sz]
  exact ⟨⟨_, he, rfl⟩, q _ he (Heap.get?_push_of_some _ (Heap.get?_push_size _ B.free))
    fun b u z => Heap.get?_push_of_some _ (Heap.get?_push_of_some _ z)⟩
end
/-- a new pair of the turn's number and f i -/
def ItE (G : Hp → Prop) (n : Nat) (Y : Nat → Hp → V → Prop) : It :=
  ⟨fun i H => G H ∧ i < n, fun i H v H' => ∃ T x, v = .ref T ∧ H T = none ∧ H' = upd H T (.tup [.int (i : Nat), x]) ∧ Y i H x, fun i H => G H ∧ i = n⟩
/-- what the source's own iterator does while the heap is so -/
structure Src (P : Program) (w : World) (K : PySem.W.Frag) (it : Addr) (G : Hp → Prop) (n : Nat) (Y : Nat → Hp → V → Prop) (Tn : Nat → Heap → Prop) : Prop where
  live : ∀ i h, Tn i h → ∃ o, h.get? it = some o ∧ ∀ v, o.data ≠ .cell v
  keep : ∀ i h h', Tn i h → (∀ o, h.get? it = some o → h'.get? it = some o) → Tn i h'
  draw : ∀ (X : Cx), X.prog = P → X.w = w → X.K = K → ∀ (pins : List (Addr × Obj)) (σ : L2.St) (H : Hp) (s : Shared) (i : Nat), Inv X pins σ H s → H it = none → G H → Tn i s.heap → X.A.handled = none →
    ∃ (fp : List Addr) (Pv : Nat → Value → Prop) (St' : Nat → Heap → Prop), Draws P w X.A.in1 it fp n Pv St' ∧ St' i s.heap ∧ (∀ e, H e = none → (∃ old j, IsEnum s.heap e it j old) → e ∉ fp) ∧
      (∀ j u, Pv j u → ∃ x, RelV x u ∧ Y j H x) ∧ ∀ j h, St' j h → Tn j h
theorem turn_E {P : Program} {w : World} {K : PySem.W.Frag} {elts : List Expr} {kk : Nat} {tpos : Pos} {e it : Addr} {G : Hp → Prop} {n : Nat} {Y : Nat → Hp → V → Prop} {Tn : Nat → Heap → Prop} (S : Src P w K it G n Y Tn) :
    Turn P w K (.Tuple elts kk tpos) (ItE G n Y) [e, it] e (fun i h => (∃ old, IsEnum h e it ((i : Nat) : Int) old) ∧ Tn i h ∧ e ≠ it) where
  mem := List.mem_cons_self ..
  obj := fun i h st b hb => by
    obtain ⟨⟨old, he⟩, hs, _⟩ := st
    rcases List.mem_cons.mp hb with z | z
    · subst z
      exact ⟨_, he, fun v q => nomatch q⟩
    · have z' := List.mem_singleton.mp z
      subst z'
      exact S.live i h hs
  keep := fun i h h' st k =>
    ⟨⟨st.1.choose, k e (List.mem_cons_self ..) _ st.1.choose_spec⟩, S.keep i h h' st.2.1 fun o q => k it (List.mem_cons_of_mem _ (List.mem_singleton.mpr rfl)) o q, st.2.2⟩
  item := by
    intro X hP hw hK hc i pins s σ H E I hf st hg
    obtain ⟨⟨old, he⟩, hs, hne⟩ := st
    have fe := hf e (by simp)
    have fi := hf it (by simp)
    obtain ⟨fp, Pv, St', D, hs', hef, hy, back⟩ := S.draw X hP hw hK pins σ H s i I fi.1 hg.1 hs (I.ok.hd hc)
    subst hP hw hK
    have hel : e < s.heap.objs.size := Heap.lt_size he
    obtain ⟨oi, hoi, _⟩ := S.live i _ hs
    have hil : it < s.heap.objs.size := Heap.lt_size hoi
    refine wpAny_pyNext_enum_itemC D he hs' hg.2 hne (hef e fe.1 ⟨_, _, he⟩) fun u h' tk hu ho hst hT hsz hk => ?_
    refine ⟨_, rfl, wpAny_letOwnedTupleGo_enum (s := { s with heap := h', toks := tk + 1 }) ho fun h2 he2 sb => ?_⟩
    obtain ⟨x, rx, yx⟩ := hy i u hu
    have hT2 : h2.get? s.heap.objs.size = some { cls := .type "tuple", data := .seq #[.int i tk, u] } := (sb.2 _ (Nat.ne_of_gt hel)).trans hT
    have new : ObjOk X.prog X.w (upd H s.heap.objs.size (.tup [.int (i : Nat), x])) h2 s.heap.objs.size (.tup [.int (i : Nat), x]) :=
      ⟨by show 2 ≤ sizeLine; decide, [.int i tk, u], .cons ⟨_, rfl⟩ (.cons rx .nil), _, hT2, rfl, _, rfl⟩
    have I1 : Inv X pins σ (upd H s.heap.objs.size (.tup [.int (i : Nat), x])) { s with heap := h2, toks := tk + 1 } := by
      refine I.turnedNew (ch := [e, it]) (fun b o hb q => ?_) hf (Nat.le_refl _) new
      have n1 : b ≠ e := fun z => hb (by simp [z])
      have n2 : b ≠ it := fun z => hb (by simp [z])
      exact (sb.2 b n1).trans (hk b o n1 n2 q)
    refine ⟨.ref s.heap.objs.size, _, I1, rfl, ⟨_, x, rfl, I.hok.fresh (Nat.le_refl _), rfl, yx⟩, ⟨⟨u, ?_⟩, ?_, hne⟩, fun b hb => ?_⟩
    · have e1 : ((i + 1 : Nat) : Int) = (i : Int) + 1 := by omega
      rw [e1]
      exact he2
    · exact S.keep _ _ _ (back _ _ hst) fun o q => (sb.2 it (Ne.symm hne)).trans q
    · have hb' : b < s.heap.objs.size := by
        rcases List.mem_cons.mp hb with z | z
        · exact z ▸ hel
        · exact (List.mem_singleton.mp z) ▸ hil
      rw [upd_ne (Nat.ne_of_lt hb')]
      exact (hf b hb).1
  done := by
    intro X hP hw hK hc i pins s σ H E I hf st hg
    obtain ⟨⟨old, he⟩, hs, hne⟩ := st
    obtain ⟨f0, f1, f2, f3, f4, f5⟩ := hf it (by simp)
    obtain ⟨fp, Pv, St', D, hs', hef, hy, back⟩ := S.draw X hP hw hK pins σ H s i I f0 hg.1 hs (I.ok.hd hc)
    subst hP hw hK
    rw [hg.2] at hs'
    exact wpAny_pyNext_enum_endD D he hs' fun h' eb => ⟨rfl, I.turned (t' := s.toks) (fun b o hb q => eb b o hb q) f0 f1 f3 f4 f5⟩
  self := fun A i s Q E st h => wpAny_pyIter_enum st.1.choose_spec h
theorem src_tup {P : Program} {w : World} {K : PySem.W.Frag} {a it : Addr} {xs : List V} :
    Src P w K it (fun H => SqT K H a xs) xs.length (fun i _ x => xs[i]? = some x) (fun i h => h.IsTupleIter it a i) where
  live := fun i h st => by
    obtain ⟨o, e, c, d⟩ := st
    exact ⟨o, e, fun v z => by rw [d] at z; cases z⟩
  keep := fun i h h' st k => st.at fun o e => k o e
  draw := by
    intro X hP hw hK pins σ H s i I hn hG st hh
    subst hP hw hK
    obtain ⟨its, rv, p, hz⟩ := I.tuple hG
    have pt : s.heap.IsTuple a its.toArray := p
    have hne : a ≠ it := by
      rintro rfl
      obtain ⟨o, e, c, _⟩ := pt
      obtain ⟨o', e', c', _⟩ := id st
      rw [e] at e'
      cases e'
      rw [c] at c'
      injection c' with q
      exact absurd q (by decide)
    have hl := rv.length
    refine ⟨[it, a], fun i v => its.toArray[i]? = some v, fun i h => h.IsTupleIter it a i ∧ h.IsTuple a its.toArray, ?_, ⟨st, pt⟩, fun e he hq => ?_, fun j u hu => ?_, fun j h z => z.1⟩
    · have D := Draws.tuple (prog := X.prog) (w := X.w) (A := X.A.in1) hh it a hne its.toArray
      rw [show its.toArray.size = xs.length by simp; omega] at D
      exact D
    · obtain ⟨old, j, hq⟩ := hq
      intro hm
      rcases List.mem_cons.mp hm with z | z
      · subst z
        obtain ⟨o, e', c, _⟩ := id st
        have hq' : s.heap.get? e = _ := hq
        rw [e'] at hq'
        cases hq'
        injection c with q
        exact absurd q (by decide)
      · have z' := List.mem_singleton.mp z
        subst z'
        obtain ⟨o, e', c, _⟩ := pt
        have hq' : s.heap.get? e = _ := hq
        rw [e'] at hq'
        cases hq'
        injection c with q
        exact absurd q (by decide)
    · have hu' : its[j]? = some u := by simpa using hu
      have hj : j < its.length := (List.getElem?_eq_some_iff.mp hu').1
      have hx : xs[j]? = some (xs[j]'(by omega)) := List.getElem?_eq_getElem (by omega)
      obtain ⟨u', h1, h2⟩ := rv.get hx
      rw [hu'] at h1
      cases h1
      exact ⟨_, h2, hx⟩
theorem src_str {P : Program} {w : World} {K : PySem.W.Frag} {it : Addr} {z : Str} {t : Tok} :
    Src P w K it (fun _ => True) z.cps.size (fun i _ x => ∃ c, z.cps[i]? = some c ∧ x = .str ⟨#[c]⟩) (fun i h => h.IsStrIter it (strIterType z) z t i) where
  live := fun i h st => by
    obtain ⟨o, e, c, d⟩ := st
    exact ⟨o, e, fun v z => by rw [d] at z; cases z⟩
  keep := fun i h h' st k => by
    obtain ⟨o, e, r⟩ := st
    exact ⟨o, k o e, r⟩
  draw := by
    intro X hP hw hK pins σ H s i I hn hG st hh
    subst hP hw hK
    refine ⟨[it], _, _, Draws.text (prog := X.prog) (w := X.w) (A := X.A.in1) hh it z t, st, fun e he hq hm => ?_, fun j u hu => ?_, fun j h z => z⟩
    · obtain ⟨old, j, hq⟩ := hq
      have z' := List.mem_singleton.mp hm
      subst z'
      obtain ⟨o, e', c, _⟩ := id st
      have hq' : s.heap.get? e = _ := hq
      rw [e'] at hq'
      cases hq'
      have c' : strIterType z = "enumerate" := by injection c with q; exact q.symm
      unfold strIterType at c'
      split at c' <;> exact absurd c' (by decide)
    · obtain ⟨c, u', h1, h2⟩ := hu
      exact ⟨.str ⟨#[c]⟩, ⟨u', h2⟩, c, h1, rfl⟩
def iEnumT (K : PySem.W.Frag) (ta : TA) : TI := fun σ H R => ta σ H fun vs H1 => ∃ a xs, vs = [.ref a] ∧ SqT K H1 a xs ∧ R (ItE (fun H => SqT K H a xs) xs.length fun i _ x => xs[i]? = some x) H1
def iEnumS (ta : TA) : TI := fun σ H R => ta σ H fun vs H1 => ∃ z, vs = [.str z] ∧ R (ItE (fun _ => True) z.cps.size fun i _ x => ∃ c, z.cps[i]? = some c ∧ x = .str ⟨#[c]⟩) H1
section
variable {X : Cx} {e : Expr} {ta : TA} {p pos tpos : Pos} {elts : List Expr} {kk : Nat}
theorem pi_enumT (hg : Gl X "enumerate") (hm : X.mg "enumerate" = none) (ha : PA X [e] ta) (hs : starEach [e] X.env = [(false, eval e X.env)] := by rfl) :
    PI X (.Tuple elts kk tpos) (.Call (.Name "enumerate" p) [e] [] pos) (iEnumT X.K ta) := by
  refine ⟨fun pins s σ H R I h => Call_ (ld_blt I hg hm boot_enumerate (PyProof.Rows.callWith_type1 (thn (ha.run pos pins s σ H _ I h) fun us s1 hh => ?_) hs rfl))⟩
  obtain ⟨vs, H1, I1, r1, a, xs, rfl, hq, q⟩ := hh
  obtain ⟨u, rfl, rx⟩ := vals1 r1
  cases rx
  obtain ⟨its, rv, pt, hz⟩ := I1.tuple hq
  refine enum_call1 (begins_tuple a its.toArray) pt fun h' he hit hk => wpAny_pyIter_enum he ?_
  have I2 : Inv X pins σ H1 { s1 with heap := h' } := I1.kept (t' := s1.toks) hk
  refine ⟨s1.heap.objs.size + 1, [s1.heap.objs.size + 1, s1.heap.objs.size], _, _, H1, rfl, I2, turn_E src_tup, ⟨⟨.none, he⟩, ⟨_, hit, rfl, rfl⟩, Nat.succ_ne_self _⟩, fun b hb => ?_, q⟩
  have hle : s1.heap.objs.size ≤ b := by
    rcases List.mem_cons.mp hb with z | z
    · exact z ▸ Nat.le_add_right _ _
    · exact (List.mem_singleton.mp z) ▸ Nat.le_refl _
  exact I1.fpOk hle (I1.hok.fresh hle)
theorem pi_enumS (hg : Gl X "enumerate") (hm : X.mg "enumerate" = none) (ha : PA X [e] ta) (hs : starEach [e] X.env = [(false, eval e X.env)] := by rfl) :
    PI X (.Tuple elts kk tpos) (.Call (.Name "enumerate" p) [e] [] pos) (iEnumS ta) := by
  refine ⟨fun pins s σ H R I h => Call_ (ld_blt I hg hm boot_enumerate (PyProof.Rows.callWith_type1 (thn (ha.run pos pins s σ H _ I h) fun us s1 hh => ?_) hs rfl))⟩
  obtain ⟨vs, H1, I1, r1, z, rfl, q⟩ := hh
  obtain ⟨u, rfl, rx⟩ := vals1 r1
  obtain ⟨t, rfl⟩ := rx
  refine enum_call1 (begins_text z t) trivial fun h' he hit hk => wpAny_pyIter_enum he ?_
  have I2 : Inv X pins σ H1 { s1 with heap := h' } := I1.kept (t' := s1.toks) hk
  refine ⟨s1.heap.objs.size + 1, [s1.heap.objs.size + 1, s1.heap.objs.size], _, _, H1, rfl, I2, turn_E src_str, ⟨⟨.none, he⟩, ⟨_, hit, rfl, rfl⟩, Nat.succ_ne_self _⟩, fun b hb => ?_, q⟩
  have hle : s1.heap.objs.size ≤ b := by
    rcases List.mem_cons.mp hb with z | z
    · exact z ▸ Nat.le_add_right _ _
    · exact (List.mem_singleton.mp z) ▸ Nat.le_refl _
  exact I1.fpOk hle (I1.hok.fresh hle)
end
end Dk

/-! the layer: what grows, steps of readings -/
namespace Dk
open PySem PySem.Spec PyProof.Rows L2

/-! ### what is known grows -/
abbrev A0 : Addr → Prop := fun _ => False
abbrev Ex := Same
/-- G: what is known for good; H: the heap; A: what may change -/
structure Gr (A : Addr → Prop) (G H G' H' : Hp) : Prop where
  gg : Ex G G'
  gh : Ex G' H'
  hh : ∀ b o, ¬ A b → H b = some o → H' b = some o
  th : ∀ b o, H b = some o → ∃ o', H' b = some o'
  nw : ∀ b o, H b = some o → G b = none → G' b = none
section
variable {A : Addr → Prop} {G H G1 H1 G2 H2 : Hp} {p q m : Addr} {o o' u : HO}
theorem Gr.refl (g : Ex G H) : Gr A G H G H := ⟨Same.refl G, g, fun _ _ _ h => h, fun _ o h => ⟨o, h⟩, fun _ _ _ h => h⟩
theorem Gr.trans (a : Gr A G H G1 H1) (b : Gr A G1 H1 G2 H2) : Gr A G H G2 H2 :=
  ⟨a.gg.trans b.gg, b.gh, fun x o n h => b.hh x o n (a.hh x o n h), fun x o h => by
    obtain ⟨o1, h1⟩ := a.th x o h
    exact b.th x o1 h1, fun x o h n => by
    obtain ⟨o1, h1⟩ := a.th x o h
    exact b.nw x o1 h1 (a.nw x o h n)⟩
theorem Gr.wide {B : Addr → Prop} (a : Gr A G H G1 H1) (h : ∀ x, A x → B x) : Gr B G H G1 H1 :=
  ⟨a.gg, a.gh, fun x o n => a.hh x o fun z => n (h x z), a.th, a.nw⟩
theorem Gr.of0 (a : Gr A0 G H G1 H1) : Gr A G H G1 H1 := a.wide fun _ z => z.elim
theorem Gr.same (a : Gr A0 G H G1 H1) : Ex H H1 := fun b o h => a.hh b o (fun z => z) h
/-- a new object, known for good -/
theorem Gr.new (g : Ex G H) (hp : H p = none) : Gr A G H (upd G p o) (upd H p o) where
  gg := fun b x e => by
    rw [upd_ne (ne_of_none e (g.free hp))]
    exact e
  gh := fun b x e => by
    by_cases hb : b = p
    · subst hb
      rw [upd_same] at e ⊢
      exact e
    · rw [upd_ne hb] at e ⊢
      exact g b x e
  hh := fun b x _ e => by
    rw [upd_ne (ne_of_none e hp)]
    exact e
  th := fun b x e => ⟨x, by
    rw [upd_ne (ne_of_none e hp)]
    exact e⟩
  nw := fun b x e n => by
    rw [upd_ne (ne_of_none e hp)]
    exact n
/-- a new object of our own -/
theorem Gr.own (g : Ex G H) (hp : H p = none) : Gr A G H G (upd H p o) where
  gg := Same.refl G
  gh := fun b x e => by
    rw [upd_ne (ne_of_none e (g.free hp))]
    exact g b x e
  hh := fun b x _ e => by
    rw [upd_ne (ne_of_none e hp)]
    exact e
  th := fun b x e => ⟨x, by
    rw [upd_ne (ne_of_none e hp)]
    exact e⟩
  nw := fun b x e n => n
/-- an object of our own is written -/
theorem Gr.mut (t : Gr A G H G1 H1) (h0 : A p ∨ H p = none) (hp : G1 p = none) : Gr A G H G1 (upd H1 p o) where
  gg := t.gg
  gh := fun b x e => by
    rw [upd_ne (ne_of_none e hp)]
    exact t.gh b x e
  hh := fun b x n e => by
    have hb : b ≠ p := fun z => by
      subst z
      rcases h0 with h0 | h0
      · exact n h0
      · rw [h0] at e
        cases e
    rw [upd_ne hb]
    exact t.hh b x n e
  th := fun b x e => by
    by_cases hb : b = p
    · exact ⟨o, by rw [hb, upd_same]⟩
    · rw [upd_ne hb]
      exact t.th b x e
  nw := t.nw
/-- an object of our own is known for good from here on -/
theorem Gr.give (t : Gr A G H G1 H1) (h0 : H p = none) (hp : H1 p = some o) (hn : G1 p = none) : Gr A G H (upd G1 p o) H1 where
  gg := fun b x e => by
    have z := t.gg b x e
    rw [upd_ne (ne_of_none z hn)]
    exact z
  gh := fun b x e => by
    by_cases hb : b = p
    · subst hb
      rw [upd_same] at e
      cases e
      exact hp
    · rw [upd_ne hb] at e
      exact t.gh b x e
  hh := t.hh
  th := t.th
  nw := fun b x e n => by
    have hb : b ≠ p := ne_of_none e h0
    rw [upd_ne hb]
    exact t.nw b x e n
theorem Gr.g0 (t : Gr A G H G1 H1) : Ex G H1 := t.gg.trans t.gh
theorem ne_g (h : G p = some o) (n : G q = none) : p ≠ q := ne_of_none h n
end

/-! ### what is read at an address -/
theorem SqL.up {K : PySem.W.Frag} {G G' : Hp} {a : Addr} {xs : List V} (e : Ex G G') (h : SqL K G a xs) : SqL K G' a xs := e.seq h
theorem SqT.up {K : PySem.W.Frag} {G G' : Hp} {a : Addr} {xs : List V} (e : Ex G G') (h : SqT K G a xs) : SqT K G' a xs := by
  rcases h with (h | ⟨o, h⟩) | h
  · exact .inl (.inl (e _ _ h))
  · exact .inl (.inr ⟨o, e _ _ h⟩)
  · exact .inr h
theorem sqL {K : PySem.W.Frag} {H : Hp} {a : Addr} {xs : List V} (h : H a = some (.lst xs)) : SqL K H a xs := .inl (.inl h)
theorem sqT {K : PySem.W.Frag} {H : Hp} {a : Addr} {xs : List V} (h : H a = some (.tup xs)) : SqT K H a xs := .inl (.inl h)

/-! ### unions of rules -/
def rStr2 : R2 := fun x y H Q => ∃ i j, x = .str i ∧ y = .str j ∧ i.length + j.length ≤ sizeLine ∧ Q (.str (i ++ j)) H
def rAddU (K : PySem.W.Frag) : R2 := fun x y H Q => rI0 (fun i j => .int (i + j)) x y H Q ∨ (rStr2 x y H Q ∨ (rCat x y H Q ∨ rCatA K x y H Q))
def rInS1 : R2 := fun x y H Q => ∃ (c : Nat) (z : Str), x = .str ⟨#[c]⟩ ∧ y = .str z ∧ Q (.bl (decide (c ∈ z.cps.toList))) H
def rNotInS1 : R2 := fun x y H Q => ∃ (c : Nat) (z : Str), x = .str ⟨#[c]⟩ ∧ y = .str z ∧ Q (.bl (!decide (c ∈ z.cps.toList))) H
def rInU (K : PySem.W.Frag) : R2 := fun x y H Q => rInS1 x y H Q ∨ rIn K false x y H Q
def rNotInU (K : PySem.W.Frag) : R2 := fun x y H Q => rNotInS1 x y H Q ∨ rIn K true x y H Q
def rEqU (K : PySem.W.Frag) : R2 := fun x y H Q => rEq x y H Q ∨ rEqD K x y H Q
def rNeU (K : PySem.W.Frag) : R2 := fun x y H Q => rNe x y H Q ∨ rNeD K x y H Q
def rSlU (K : PySem.W.Frag) : V → Option Int → Option Int → Hp → VK → Prop := fun x lo hi H Q => rSlS x lo hi H Q ∨ (rSlL K x lo hi H Q ∨ rSlA K x lo hi H Q)
def rLenU (K : PySem.W.Frag) : List V → Hp → VK → Prop := fun xs H Q => ∃ x n, xs = [x] ∧ LenV K x H n ∧ Q (.int (n : Nat)) H
def rInt1 : List V → Hp → VK → Prop := fun xs H Q => (∃ i, xs = [.int i] ∧ Q (.int i) H) ∨ ∃ k, xs = [.bl k] ∧ Q (.int (if k then 1 else 0)) H
def rMax : List V → Hp → VK → Prop := fun xs H Q => ∃ i j, xs = [.int i, .int j] ∧ Q (.int (if j > i then j else i)) H
def rMin : List V → Hp → VK → Prop := fun xs H Q => ∃ i j, xs = [.int i, .int j] ∧ Q (.int (if j < i then j else i)) H
def rListU (K : PySem.W.Frag) : List V → Hp → VK → Prop := fun xs H Q => ∃ p ys, xs = [.ref p] ∧ (SqL K H p ys ∨ SqT K H p ys) ∧ ∀ l, H l = none → Q (.ref l) (upd H l (.lst ys))
def rTupU (K : PySem.W.Frag) : List V → Hp → VK → Prop := fun xs H Q => ∃ p ys, xs = [.ref p] ∧ ((SqL K H p ys ∧ ∀ l, H l = none → Q (.ref l) (upd H l (.tup ys))) ∨ (SqT K H p ys ∧ Q (.ref p) H))
def rJoin (K : PySem.W.Frag) : V → List V → Hp → VK → Prop := fun x xs H Q => ∃ a p, ∃ ys : List Str, x = .str a ∧ xs = [.ref p] ∧ (SqL K H p (ys.map V.str) ∨ SqT K H p (ys.map V.str)) ∧
  (ys.map (·.length)).sum + ys.length * a.length ≤ 16777216 ∧ Q (.str (Txt.join a ys)) H
def rIsN1 : R2 := fun x y H Q => y = .non ∧ Q (.bl (decide (x = .non))) H
def rNotN1 : R2 := fun x y H Q => y = .non ∧ Q (.bl (!decide (x = .non))) H
def rDivW : R2 := rI CDivW fun i j => .int (i / j)
def rModP : R2 := rI (fun _ j => 0 < j) fun i j => .int (i % j)
def rMulW : R2 := rI CMulW fun i j => .int (i * j)
section
variable {X : Cx}
theorem op_addU : OpR X (binaryOp .Add) (rAddU X.K) := op_add.or (op_add_str.or (op_cat.or op_catA))
theorem op_inU : OpR X (compareOp .In) (rInU X.K) := op_in_sign.or op_in_seq
theorem op_notInU : OpR X (compareOp .NotIn) (rNotInU X.K) := op_notIn_sign.or op_notIn_seq
theorem op_eqU (hu : X.A.units + 64 < cLine) : OpR X (compareOp .Eq) (rEqU X.K) := op_eq.or (op_eqD hu)
theorem op_neU (hu : X.A.units + 64 < cLine) : OpR X (compareOp .NotEq) (rNeU X.K) := op_ne.or (op_neD hu)
theorem sl_U : SlR X (rSlU X.K) := sl_str.or (sl_list.or sl_tupA)
theorem call_lenU : CallR X (.builtin "len") (rLenU X.K) := call_len
theorem call_intU : CallR X (.type "int") rInt1 := call_int1
theorem call_maxU (hc : X.calm = true) : CallR X (.builtin "max") rMax := call_max2 hc
theorem call_minU (hc : X.calm = true) : CallR X (.builtin "min") rMin := call_min2 hc
theorem call_listU : CallR X (.type "list") (rListU X.K) := call_list_of
theorem call_tupU : CallR X (.type "tuple") (rTupU X.K) := call_tuple_of
theorem op_isU : OpR X (compareOp .Is) rIsN1 := op_isN
theorem op_isnotU : OpR X (compareOp .IsNot) rNotN1 := op_notN
theorem op_divW : OpR X (binaryOp .FloorDiv) rDivW := op_fdivW
theorem op_modP : OpR X (binaryOp .Mod) rModP := op_mod
theorem op_mulWW : OpR X (binaryOp .Mult) rMulW := op_mulW
end

/-! within a comprehension -/
section
variable {X : Cx} {K : PySem.W.Frag}
theorem k_add (h : X.K = K) : OpR X (binaryOp .Add) (rAddU K) := h ▸ op_addU
theorem k_in (h : X.K = K) : OpR X (compareOp .In) (rInU K) := h ▸ op_inU
theorem k_notIn (h : X.K = K) : OpR X (compareOp .NotIn) (rNotInU K) := h ▸ op_notInU
theorem k_ix (h : X.K = K) : IxR X (rIx K) := h ▸ ix_seq
theorem k_sl (h : X.K = K) : SlR X (rSlU K) := h ▸ sl_U
theorem k_len (h : X.K = K) : CallR X (.builtin "len") (rLenU K) := h ▸ call_lenU
theorem k_list (h : X.K = K) : CallR X (.type "list") (rListU K) := h ▸ call_listU
theorem k_tup (h : X.K = K) : CallR X (.type "tuple") (rTupU K) := h ▸ call_tupU
theorem k_isi (h : X.K = K) : CallR X (.builtin "isinstance") (rIsi K) := h ▸ call_isi
end
/-! ### steps -/
section
variable {K : PySem.W.Frag} {σ : L2.St} {H H' : Hp} {Q : VK} {v x y : V} {ta tb te : TE} {i j : Int} {D : Ends} {t u : TS} {tt tu : TT} {QB : Bool → Hp → Prop} {ar : TA} {QL : List V → Hp → Prop}
theorem r_var {n : Nat} (h : σ[n]? = some (some v)) (q : Q v H) : tVar n σ H Q := ⟨v, h, q⟩
theorem r_c (q : Q v H) : tC v σ H Q := q
theorem r_op {r : R2} (h : ta σ H fun x H1 => tb σ H1 fun y H2 => r x y H2 Q) : tOp r ta tb σ H Q := h
theorem r_un {r : V → Hp → VK → Prop} (h : ta σ H fun x H1 => r x H1 Q) : tUn r ta σ H Q := h
theorem r_I0 {g : Int → Int → V} (q : Q (g i j) H) : rI0 g (.int i) (.int j) H Q := ⟨i, j, rfl, rfl, q⟩
theorem r_I {C : Int → Int → Prop} {g : Int → Int → V} (c : C i j) (q : Q (g i j) H) : rI C g (.int i) (.int j) H Q := ⟨i, j, rfl, rfl, c, q⟩
theorem r_mulW (c : CMulW i j) (q : Q (.int (i * j)) H) : rMulW (.int i) (.int j) H Q := ⟨i, j, rfl, rfl, c, q⟩
theorem r_divW (c : CDivW i j) (q : Q (.int (i / j)) H) : rDivW (.int i) (.int j) H Q := ⟨i, j, rfl, rfl, c, q⟩
theorem r_modP (c : 0 < j) (q : Q (.int (i % j)) H) : rModP (.int i) (.int j) H Q := ⟨i, j, rfl, rfl, c, q⟩
theorem r_U {g : Int → V} (q : Q (g i) H) : rU g (.int i) H Q := ⟨i, rfl, q⟩
theorem r_addI (q : Q (.int (i + j)) H) : rAddU K (.int i) (.int j) H Q := .inl ⟨i, j, rfl, rfl, q⟩
theorem r_addS {a b : Str} (h : a.length + b.length ≤ sizeLine) (q : Q (.str (a ++ b)) H) : rAddU K (.str a) (.str b) H Q := .inr (.inl ⟨a, b, rfl, rfl, h, q⟩)
theorem r_addL {p q : Addr} {xs ys : List V} (hp : H p = some (.lst xs)) (hq : H q = some (.lst ys)) (hz : xs.length + ys.length ≤ sizeLine) (k : ∀ l, H l = none → Q (.ref l) (upd H l (.lst (xs ++ ys)))) : rAddU K (.ref p) (.ref q) H Q :=
  .inr (.inr (.inl ⟨p, q, xs, ys, rfl, rfl, hp, hq, hz, k⟩))
theorem r_sub (q : Q (.int (i - j)) H) : rI0 (fun i j => .int (i - j)) (.int i) (.int j) H Q := ⟨i, j, rfl, rfl, q⟩
theorem r_inS {c : Nat} {z : Str} (q : Q (.bl (decide (c ∈ z.cps.toList))) H) : rInU K (.str ⟨#[c]⟩) (.str z) H Q := .inl ⟨c, z, rfl, rfl, q⟩
theorem r_niS {c : Nat} {z : Str} (q : Q (.bl (!decide (c ∈ z.cps.toList))) H) : rNotInU K (.str ⟨#[c]⟩) (.str z) H Q := .inl ⟨c, z, rfl, rfl, q⟩
theorem r_eq (h : scal x y = true) (q : Q (.bl (decide (x = y))) H) : rEqU K x y H Q := .inl ⟨h, q⟩
theorem r_ne (h : scal x y = true) (q : Q (.bl (!decide (x = y))) H) : rNeU K x y H Q := .inl ⟨h, q⟩
theorem r_isN (q : Q (.bl (decide (x = .non))) H) : rIsN1 x .non H Q := ⟨rfl, q⟩
theorem r_notN (q : Q (.bl (!decide (x = .non))) H) : rNotN1 x .non H Q := ⟨rfl, q⟩
theorem r_ixL {p : Addr} {xs : List V} (h : SqL K H p xs) (a : atI xs i = some v) (q : Q v H) : rIx K (.ref p) (.int i) H Q := .inl ⟨p, xs, i, v, rfl, rfl, h, a, q⟩
theorem r_ixT {p : Addr} {xs : List V} (h : SqT K H p xs) (a : atI xs i = some v) (q : Q v H) : rIx K (.ref p) (.int i) H Q := .inr (.inl ⟨p, xs, i, v, rfl, rfl, h, a, q⟩)
theorem r_ixS {z : Str} {c : Nat} (h : z.length ≤ sizeLine) (a : atI z.cps.toList i = some c) (q : Q (.str ⟨#[c]⟩) H) : rIx K (.str z) (.int i) H Q := .inr (.inr ⟨z, i, c, rfl, rfl, h, a, q⟩)
theorem r_slS {z : Str} {lo hi : Option Int} (h : z.length ≤ sizeLine) (q : Q (.str (cutS z lo hi)) H) : rSlU K (.str z) lo hi H Q := .inl ⟨z, rfl, h, q⟩
theorem r_slL {p : Addr} {xs : List V} {lo hi : Option Int} (h : SqL K H p xs) (q : ∀ l, H l = none → Q (.ref l) (upd H l (.lst (cutV xs lo hi)))) : rSlU K (.ref p) lo hi H Q := .inr (.inl ⟨p, xs, rfl, h, q⟩)
theorem r_lenS {z : Str} (h : z.length ≤ sizeLine) (q : Q (.int (z.length : Nat)) H) : rLenU K [.str z] H Q := ⟨_, _, rfl, ⟨h, rfl⟩, q⟩
theorem r_lenL {p : Addr} {xs : List V} (h : SqL K H p xs) (q : Q (.int (xs.length : Nat)) H) : rLenU K [.ref p] H Q := ⟨_, _, rfl, .inl ⟨xs, h, rfl⟩, q⟩
theorem r_lenT {p : Addr} {xs : List V} (h : SqT K H p xs) (q : Q (.int (xs.length : Nat)) H) : rLenU K [.ref p] H Q := ⟨_, _, rfl, .inr ⟨xs, h, rfl⟩, q⟩
theorem r_int (q : Q (.int i) H) : rInt1 [.int i] H Q := .inl ⟨i, rfl, q⟩
theorem r_max (q : Q (.int (max i j)) H) : rMax [.int i, .int j] H Q := ⟨i, j, rfl, by
  have e : (if j > i then j else i) = max i j := by omega
  rw [e]
  exact q⟩
theorem r_min (q : Q (.int (min i j)) H) : rMin [.int i, .int j] H Q := ⟨i, j, rfl, by
  have e : (if j < i then j else i) = min i j := by omega
  rw [e]
  exact q⟩
theorem r_listL {p : Addr} {xs : List V} (h : SqL K H p xs) (q : ∀ l, H l = none → Q (.ref l) (upd H l (.lst xs))) : rListU K [.ref p] H Q := ⟨p, xs, rfl, .inl h, q⟩
theorem r_listT {p : Addr} {xs : List V} (h : SqT K H p xs) (q : ∀ l, H l = none → Q (.ref l) (upd H l (.lst xs))) : rListU K [.ref p] H Q := ⟨p, xs, rfl, .inr h, q⟩
theorem r_tupL {p : Addr} {xs : List V} (h : SqL K H p xs) (q : ∀ l, H l = none → Q (.ref l) (upd H l (.tup xs))) : rTupU K [.ref p] H Q := ⟨p, xs, rfl, .inl ⟨h, q⟩⟩
theorem r_tupT {p : Addr} {xs : List V} (h : SqT K H p xs) (q : Q (.ref p) H) : rTupU K [.ref p] H Q := ⟨p, xs, rfl, .inr ⟨h, q⟩⟩
theorem r_isi {n a : String} {b : Bool} (ty : TyX K H x (.type a)) (e : kitB a n = some b) (q : Q (.bl b) H) : rIsi K [x, .ty n] H Q := ⟨x, .ty n, .type a, .type n, b, rfl, .ty n, ty, kit_ty e, q⟩
theorem r_nil (q : QL [] H) : tNil σ H QL := q
theorem r_cons (h : ta σ H fun x H1 => ar σ H1 fun xs H2 => QL (x :: xs) H2) : tCons ta ar σ H QL := h
theorem r_tup (h : ar σ H fun xs H1 => xs.length ≤ sizeLine ∧ ∀ p, H1 p = none → Q (.ref p) (upd H1 p (.tup xs))) : tTup ar σ H Q := h
theorem r_lst (h : ar σ H fun xs H1 => xs.length ≤ sizeLine ∧ ∀ p, H1 p = none → Q (.ref p) (upd H1 p (.lst xs))) : tLst ar σ H Q := h
theorem r_small {xs : List V} {P : Prop} (h : xs.length ≤ 1000) (k : P) : xs.length ≤ sizeLine ∧ P := ⟨Nat.le_of_lt (small1000 h), k⟩
theorem r_CB {r : List V → Hp → VK → Prop} (h : ar σ H fun vs H1 => r vs H1 Q) : tCB r ar σ H Q := h
theorem r_call {sp : Sp} {dvs : List V} {E : XK} (h : ar σ H fun vs H1 => sp (vs ++ dvs) H1 Q E) : tCall sp dvs E ar σ H Q := h
theorem r_callS {sp : Sp} {E : L2.St → XK} (h : ar σ H fun vs H1 => sp vs H1 Q (E σ)) : tCallS sp E ar σ H Q := h
theorem r_bl {b : Bool} (q : QB b H) : ∃ k, V.bl b = .bl k ∧ QB k H := ⟨b, rfl, q⟩
theorem r_test (h : te σ H fun x H1 => ∃ k, x = .bl k ∧ QB k H1) : tTest te σ H QB := h
theorem r_B (h : te σ H fun x H1 => ∃ k, x = .bl k ∧ QB k H1) : tB te σ H QB := h
theorem r_and (h : tt σ H fun c H1 => if c = true then tu σ H1 QB else QB false H1) : tAnd tt tu σ H QB := h
theorem r_andB {b1 b2 : Bool} (h1 : ∀ QB : Bool → Hp → Prop, QB b1 H → tt σ H QB) (h2 : b1 = true → ∀ QB : Bool → Hp → Prop, QB b2 H → tu σ H QB) (k : QB (b1 && b2) H) : tAnd tt tu σ H QB := by
  refine h1 _ ?_
  cases b1 with
  | true => exact h2 rfl _ k
  | false => exact k
theorem r_orB {b1 b2 : Bool} (h1 : ∀ QB : Bool → Hp → Prop, QB b1 H → tt σ H QB) (h2 : b1 = false → ∀ QB : Bool → Hp → Prop, QB b2 H → tu σ H QB) (k : QB (b1 || b2) H) : tOr tt tu σ H QB := by
  refine h1 _ ?_
  cases b1 with
  | true => exact k
  | false => exact h2 rfl _ k
theorem r_or (h : tt σ H fun c H1 => if c = true then QB true H1 else tu σ H1 QB) : tOr tt tu σ H QB := h
theorem r_not (h : tt σ H fun c H1 => QB (!c) H1) : tNot tt σ H QB := h
theorem r_andV (h : ta σ H fun x H1 => ∃ c, x = .bl c ∧ if c = true then tb σ H1 Q else Q (.bl false) H1) : tAndV ta tb σ H Q := h
theorem r_orV (h : ta σ H fun x H1 => ∃ c, x = .bl c ∧ if c = true then Q (.bl true) H1 else tb σ H1 Q) : tOrV ta tb σ H Q := h
theorem r_notV (h : ta σ H fun x H1 => ∃ c, x = .bl c ∧ Q (.bl (!c)) H1) : tNotV ta σ H Q := h
theorem r_ifE (h : tt σ H fun c H1 => if c = true then ta σ H1 Q else tb σ H1 Q) : tIf tt ta tb σ H Q := h
theorem r_blv {b : Bool} {P : Bool → Prop} (q : P b) : ∃ c, V.bl b = .bl c ∧ P c := ⟨b, rfl, q⟩
theorem r_sl {r : V → Option Int → Option Int → Hp → VK → Prop} {tl th : TO} (h : te σ H fun x H1 => tl σ H1 fun l H2 => th σ H2 fun u H3 => r x l u H3 Q) : tSl r te tl th σ H Q := h
theorem r_seq (h : t { D with nx := u D } σ H) : tSeq t u D σ H := h
theorem r_next (q : D.nx σ H) : tNext D σ H := q
theorem r_asg {g : TG} (h : te σ H fun x H1 => g x σ H1 D.nx) : tAsg te g D σ H := h
theorem r_gname {n : Nat} {N : L2.St → Hp → Prop} (q : N (σ.set n (some v)) H) : gName n v σ H N := q
theorem r_ret (h : te σ H D.rt) : tRet te D σ H := h
theorem r_retN (h : D.rt .non H) : tRetN D σ H := h
theorem r_drop (h : te σ H fun _ H1 => D.nx σ H1) : tDrop te D σ H := h
theorem r_ifS (h : tt σ H fun b H1 => if b = true then t D σ H1 else u D σ H1) : tIfS tt t u D σ H := h
theorem r_app {p : Addr} {xs : List V} (h : H p = some (.lst xs)) (z : xs.length < sizeLine) (q : Q .non (upd H p (.lst (xs ++ [v])))) : rAppend (.ref p) [v] H Q := ⟨p, xs, v, rfl, rfl, h, z, q⟩
theorem r_bm {T : String} {r : V → List V → Hp → VK → Prop} (h : te σ H fun x H1 => tyV K T x H1 ∧ ar σ H1 fun xs H2 => r x xs H2 Q) : tBM K T r te ar σ H Q := h
theorem r_tyL {p : Addr} {xs : List V} {P : Prop} (h : SqL K H p xs) (k : P) : tyV K "list" (.ref p) H ∧ P := ⟨.inl ⟨rfl, xs, h⟩, k⟩
theorem r_setL {p : Addr} {xs : List V} {n : Nat} {N : Hp → Prop} (h : H p = some (.lst xs)) (a : ixN xs.length i = some n) (q : N (upd H p (.lst (xs.set n v)))) : rSetL (.ref p) (.int i) v H N := ⟨p, xs, i, n, rfl, rfl, h, a, q⟩
theorem r_gsub {ti : TE} {to : TE} {ts : TSet} {N : L2.St → Hp → Prop} (h : to σ H fun o H1 => ti σ H1 fun i H2 => ts o i v H2 fun H3 => N σ H3) : gSub to ti ts v σ H N := h
theorem r_ite {c A B : Prop} [Decidable c] (h1 : c → A) (h2 : ¬ c → B) : if decide c = true then A else B := by
  by_cases h : c
  · rw [if_pos (decide_eq_true h)]
    exact h1 h
  · rw [if_neg (by rw [decide_eq_false h]; decide)]
    exact h2 h
theorem r_iteN {c A B : Prop} [Decidable c] (h1 : ¬ c → A) (h2 : c → B) : if (!decide c) = true then A else B := by
  by_cases h : c
  · rw [if_neg (by rw [decide_eq_true h]; decide)]
    exact h2 h
  · rw [if_pos (by rw [decide_eq_false h]; rfl)]
    exact h1 h
theorem r_iteB {b : Bool} {A B : Prop} (h1 : b = true → A) (h2 : b = false → B) : if b = true then A else B := by
  cases b with
  | true => exact h1 rfl
  | false => exact h2 rfl
theorem r_itt {A B : Prop} (h : A) : if true = true then A else B := by
  rw [if_pos rfl]
  exact h
theorem r_iff {A B : Prop} (h : B) : if false = true then A else B := by
  rw [if_neg Bool.false_ne_true]
  exact h
theorem r_ittD {b : Bool} {A B : Prop} (e : b = true) (h : A) : if b = true then A else B := by
  rw [if_pos e]
  exact h
theorem r_iffD {b : Bool} {A B : Prop} (e : b = false) (h : B) : if b = true then A else B := by
  rw [e]
  exact r_iff h
theorem r_ittN {A B : Prop} (h : A) : if (!false) = true then A else B := r_itt h
theorem r_iffN {A B : Prop} (h : B) : if (!true) = true then A else B := r_iff h
end

/-! ### growth, further -/
section
variable {A : Addr → Prop} {G H G1 H1 G2 H2 : Hp} {p q m : Addr} {o o' u : HO} {K : PySem.W.Frag} {xs : List V} {Q : VK}
theorem Gr.ex (g : Ex G H) (e : Ex H H1) : Gr A G H G H1 := ⟨Same.refl G, g.trans e, fun b o _ h => e b o h, fun b o h => ⟨o, e b o h⟩, fun _ _ _ n => n⟩
/-- a step of one that leaves everything as it was -/
theorem Gr.then (t : Gr A G H G1 H1) (e : Ex H1 H2) : Gr A G H G1 H2 := t.trans (.ex t.gh e)
theorem Gr.none_of (t : Gr A G H G1 H1) (h : H p = some o) (n : G p = none) : G1 p = none := t.nw p o h n
/-- a new tuple, known for good -/
theorem a_tup (g : Ex G H) (hl : xs.length ≤ 1000) (k : ∀ p G' H', Gr A0 G H G' H' → G' p = some (.tup xs) → H p = none → Q (.ref p) H') :
    xs.length ≤ sizeLine ∧ ∀ p, H p = none → Q (.ref p) (upd H p (.tup xs)) :=
  ⟨Nat.le_of_lt (small1000 hl), fun p hp => k p _ _ (Gr.new g hp) upd_same hp⟩
theorem a_lst (g : Ex G H) (hl : xs.length ≤ 1000) (k : ∀ p G' H', Gr A0 G H G' H' → G' p = some (.lst xs) → H p = none → Q (.ref p) H') :
    xs.length ≤ sizeLine ∧ ∀ p, H p = none → Q (.ref p) (upd H p (.lst xs)) :=
  ⟨Nat.le_of_lt (small1000 hl), fun p hp => k p _ _ (Gr.new g hp) upd_same hp⟩
/-- a new list of our own -/
theorem a_own (g : Ex G H) (hl : xs.length ≤ 1000) (k : ∀ p H', Gr A0 G H G H' → H' p = some (.lst xs) → H p = none → G p = none → Q (.ref p) H') :
    xs.length ≤ sizeLine ∧ ∀ p, H p = none → Q (.ref p) (upd H p (.lst xs)) :=
  ⟨Nat.le_of_lt (small1000 hl), fun p hp => k p _ (Gr.own g hp) upd_same hp (g.free hp)⟩
theorem n_tup (g : Ex G H) (k : ∀ p G' H', Gr A0 G H G' H' → G' p = some (.tup xs) → H p = none → Q (.ref p) H') :
    ∀ p, H p = none → Q (.ref p) (upd H p (.tup xs)) := fun p hp => k p _ _ (Gr.new g hp) upd_same hp
theorem n_lst (g : Ex G H) (k : ∀ p G' H', Gr A0 G H G' H' → G' p = some (.lst xs) → H p = none → Q (.ref p) H') :
    ∀ p, H p = none → Q (.ref p) (upd H p (.lst xs)) := fun p hp => k p _ _ (Gr.new g hp) upd_same hp
theorem n_own (g : Ex G H) (k : ∀ p H', Gr A0 G H G H' → H' p = some (.lst xs) → H p = none → G p = none → Q (.ref p) H') :
    ∀ p, H p = none → Q (.ref p) (upd H p (.lst xs)) := fun p hp => k p _ (Gr.own g hp) upd_same hp (g.free hp)
end
/-! ### raising a class of one field -/
section
variable {K : PySem.W.Frag} {σ : L2.St} {H : Hp} {C : Addr} {f : Str} {v : V} {W : XK}
/-- the promise of its __init__ -/
def spInit1 (C : Addr) (f : Str) : Sp := fun vs H Q _ => ∃ (a : Addr) (v : V), vs = [.ref a, v] ∧ H a = some (exo a C none) ∧
  ∀ dx, H dx = none → dx ≠ a → Q .non (upd (upd H dx (exd dx [(f, v)])) a (exo a C (some dx)))
theorem r_raise1 (q : ∀ d, H d = none → W (.ref C) (some d) (upd H d (.xd [(f, v)]))) :
    ([v] : List V).length ≤ 1000 ∧ ∀ a, H a = none → spInit1 C f (.ref a :: ([v] ++ [])) (upd H a (exo a C none))
      (fun v H2 => v = .non ∧ ∃ (d : Addr) (fs : List (Str × V)), H2 a = some (exo a C (some d)) ∧ H2 d = some (exd d fs) ∧ H d = none ∧ W (.ref C) (some d) (upd (del H2 a) d (.xd fs))) (fun _ _ _ => False) := by
  refine ⟨by show 1 ≤ 1000; decide, fun a ha => ⟨a, v, rfl, upd_same, fun dx hdx hne => ⟨rfl, dx, [(f, v)], upd_same, ?_, ?_, ?_⟩⟩⟩
  · rw [upd_ne hne]
    exact upd_same
  · rw [upd_ne hne] at hdx
    exact hdx
  · rw [upd_ne hne] at hdx
    have e : upd (del (upd (upd (upd H a (exo a C none)) dx (exd dx [(f, v)])) a (exo a C (some dx))) a) dx (.xd [(f, v)]) = upd H dx (.xd [(f, v)]) := by
      funext b
      by_cases h1 : b = dx
      · rw [h1, upd_same, upd_same]
      · rw [upd_ne h1, upd_ne h1]
        by_cases h2 : b = a
        · rw [h2, del_same, ha]
        · rw [del_ne h2, upd_ne h2, upd_ne h1, upd_ne h2]
    rw [e]
    exact q dx hdx
end
theorem Same.mut {H H' : Hp} {p : Addr} {o : HO} (e : Ex H H') (h : H p = none) : Ex H (upd H' p o) := fun a u ha => by
  rw [upd_ne (ne_of_none ha h)]
  exact e a u ha
theorem Same.new {H H' : Hp} {p : Addr} {o : HO} (e : Ex H H') (h : H' p = none) : Ex H (upd H' p o) := fun a u ha => by
  rw [upd_ne (ne_of_none (e a u ha) h)]
  exact e a u ha
/-! ### texts by their codes -/
abbrev cs (z : Str) : List Nat := z.cps.toList
theorem cs_ext {a b : Str} (h : cs a = cs b) : a = b := by
  cases a
  cases b
  exact congrArg Str.mk (Array.toList_inj.mp h)
theorem cs_len (z : Str) : (cs z).length = z.length := Array.length_toList
theorem cs_app (a b : Str) : cs (a ++ b) = cs a ++ cs b := Array.toList_append
theorem cs_join : ∀ ys : List Str, cs (Txt.join "" ys) = (ys.map cs).flatten := fun ys => by
  rw [TL.join_eq]
  induction ys with
  | nil => rfl
  | cons y r ih =>
    cases r with
    | nil => simp [PySem.Str.join, cs]
    | cons x r' =>
      have e : PySem.Str.join "" (y :: x :: r') = y ++ "" ++ PySem.Str.join "" (x :: r') := rfl
      rw [e, cs_app, cs_app, ih]
      have e0 : cs ("" : Str) = [] := by decide
      rw [e0, List.append_nil]
      rfl
theorem cut_list (l : List Nat) (a b : Nat) : (l.drop (min a l.length)).take (min b l.length - min a l.length) = (l.drop a).take (b - a) := by
  by_cases h : a ≤ l.length
  · rw [Nat.min_eq_left h]
    by_cases hb : b ≤ l.length
    · rw [Nat.min_eq_left hb]
    · have hb' : l.length ≤ b := by omega
      rw [Nat.min_eq_right hb', List.take_of_length_le (by rw [List.length_drop]; omega), List.take_of_length_le (by rw [List.length_drop]; omega)]
  · have ha' : l.length ≤ a := by omega
    rw [Nat.min_eq_right ha', List.drop_of_length_le (Nat.le_refl _), List.drop_of_length_le ha', List.take_nil, List.take_nil]
theorem cs_cut (z : Str) (a b : Nat) : cs (cutS z (some (a : Int)) (some (b : Int))) = ((cs z).drop a).take (b - a) := by
  show ((z.cps.toList.drop (HT.sIx z.length 0 (some (a : Int)))).take (HT.sIx z.length z.length (some (b : Int)) - HT.sIx z.length 0 (some (a : Int)))) = _
  rw [HT.sIx_nat, HT.sIx_nat, ← cs_len z]
  exact cut_list _ a b
theorem cs_from (z : Str) (a : Nat) : cs (cutS z (some (a : Int)) none) = (cs z).drop a := by
  show ((z.cps.toList.drop (HT.sIx z.length 0 (some (a : Int)))).take (HT.sIx z.length z.length none - HT.sIx z.length 0 (some (a : Int)))) = _
  rw [HT.sIx_nat, HT.sIx_none, ← cs_len z]
  have h := cut_list (cs z) a (cs z).length
  rw [Nat.min_self] at h
  rw [h, List.take_of_length_le (by rw [List.length_drop]; omega)]
theorem cs_to (z : Str) (b : Nat) : cs (cutS z none (some (b : Int))) = (cs z).take b := by
  show ((z.cps.toList.drop (HT.sIx z.length 0 none)).take (HT.sIx z.length z.length (some (b : Int)) - HT.sIx z.length 0 none)) = _
  rw [HT.sIx_nat, HT.sIx_none, ← cs_len z]
  have h := cut_list (cs z) 0 b
  rw [Nat.zero_min] at h
  exact h
theorem cut_len (z : Str) (lo hi : Option Int) : (cutS z lo hi).length ≤ z.length := cutS_length z lo hi
theorem int_nat {i : Int} (h : 0 ≤ i) : i = ((i.toNat : Nat) : Int) := by omega
theorem at_g {α : Type} {xs : List α} {z : Int} {j : Nat} {v : α} (e : z = (j : Int)) (h : xs[j]? = some v) : atI xs z = some v := by
  rw [e]
  exact atI_nat h
theorem sum_ones {α : Type} : ∀ l : List α, (l.map fun _ => 1).sum = l.length
  | [] => rfl
  | _ :: r => by rw [List.map_cons, List.sum_cons, sum_ones r, List.length_cons, Nat.add_comm]
theorem nsz {xs : List V} (h : Nat.ble xs.length 1000 = true := by rfl) : xs.length ≤ 1000 := Nat.le_of_ble_eq_true h
/-! ### loops -/
section
variable {K : PySem.W.Frag} {σ : L2.St} {H : Hp} {tl : TE} {ta : TA} {g : TG} {tb : TS} {D : Ends}
theorem r_forT (h : tl σ H fun x H1 => ∃ (a : Addr) (xs : List V), x = .ref a ∧ SqT K H1 a xs ∧ ∃ Pv : Nat → L2.St → Hp → Prop, Pv 0 σ H1 ∧ (∀ i σ H, Pv i σ H → SqT K H a xs) ∧
    (∀ i x σ H, xs[i]? = some x → Pv i σ H → g x σ H fun σ2 H2 => tb { D with nx := Pv (i + 1), ct := Pv (i + 1), bk := D.nx } σ2 H2) ∧ ∀ σ H, Pv xs.length σ H → D.nx σ H)
    (mono : ∀ Q Q' : VK, (∀ v H, Q v H → Q' v H) → tl σ H Q → tl σ H Q') : tFor (iTup K tl) g tb D σ H := by
  refine mono _ _ (fun v H1 hh => ?_) h
  obtain ⟨a, xs, rfl, hs, Pv, p0, hl, ht, hd⟩ := hh
  exact ⟨a, rfl, ⟨xs, hs⟩, for_it walk_tup Pv p0 (fun i σ H _ p => hl i σ H p) (fun i x σ H H' hi p y => by
    obtain ⟨rfl, hx⟩ := y
    exact ht i x σ _ hx p) hd⟩
theorem r_forL (h : tl σ H fun x H1 => ∃ (a : Addr) (xs : List V), x = .ref a ∧ SqL K H1 a xs ∧ ∃ Pv : Nat → L2.St → Hp → Prop, Pv 0 σ H1 ∧ (∀ i σ H, Pv i σ H → SqL K H a xs) ∧
    (∀ i x σ H, xs[i]? = some x → Pv i σ H → g x σ H fun σ2 H2 => tb { D with nx := Pv (i + 1), ct := Pv (i + 1), bk := D.nx } σ2 H2) ∧ ∀ σ H, Pv xs.length σ H → D.nx σ H)
    (mono : ∀ Q Q' : VK, (∀ v H, Q v H → Q' v H) → tl σ H Q → tl σ H Q') : tFor (iList K tl) g tb D σ H := by
  refine mono _ _ (fun v H1 hh => ?_) h
  obtain ⟨a, xs, rfl, hs, Pv, p0, hl, ht, hd⟩ := hh
  exact ⟨a, rfl, ⟨xs, hs⟩, for_it walk_list Pv p0 (fun i σ H _ p => hl i σ H p) (fun i x σ H H' hi p y => by
    obtain ⟨rfl, hx⟩ := y
    exact ht i x σ _ hx p) hd⟩
theorem m_var {n : Nat} : ∀ Q Q' : VK, (∀ v H, Q v H → Q' v H) → tVar n σ H Q → tVar n σ H Q' := fun Q Q' h t => by
  obtain ⟨v, e, q⟩ := t
  exact ⟨v, e, h v _ q⟩
/-- over a name's list, tuple, text -/
theorem r_forTv {n : Nat} {a : Addr} {xs : List V} (e : σ[n]? = some (some (.ref a))) (hs : SqT K H a xs) (Pv : Nat → L2.St → Hp → Prop) (p0 : Pv 0 σ H) (hl : ∀ i σ H, Pv i σ H → SqT K H a xs)
    (ht : ∀ i x σ H, xs[i]? = some x → Pv i σ H → g x σ H fun σ2 H2 => tb { D with nx := Pv (i + 1), ct := Pv (i + 1), bk := D.nx } σ2 H2) (hd : ∀ σ H, Pv xs.length σ H → D.nx σ H) : tFor (iTup K (tVar n)) g tb D σ H :=
  r_forT ⟨_, e, a, xs, rfl, hs, Pv, p0, hl, ht, hd⟩ m_var
theorem r_forLv {n : Nat} {a : Addr} {xs : List V} (e : σ[n]? = some (some (.ref a))) (hs : SqL K H a xs) (Pv : Nat → L2.St → Hp → Prop) (p0 : Pv 0 σ H) (hl : ∀ i σ H, Pv i σ H → SqL K H a xs)
    (ht : ∀ i x σ H, xs[i]? = some x → Pv i σ H → g x σ H fun σ2 H2 => tb { D with nx := Pv (i + 1), ct := Pv (i + 1), bk := D.nx } σ2 H2) (hd : ∀ σ H, Pv xs.length σ H → D.nx σ H) : tFor (iList K (tVar n)) g tb D σ H :=
  r_forL ⟨_, e, a, xs, rfl, hs, Pv, p0, hl, ht, hd⟩ m_var
theorem r_forSv {n : Nat} {z : Str} (e : σ[n]? = some (some (.str z))) (Pv : Nat → L2.St → Hp → Prop) (p0 : Pv 0 σ H)
    (ht : ∀ i c σ H, (cs z)[i]? = some c → Pv i σ H → g (.str ⟨#[c]⟩) σ H fun σ2 H2 => tb { D with nx := Pv (i + 1), ct := Pv (i + 1), bk := D.nx } σ2 H2) (hd : ∀ σ H, Pv z.length σ H → D.nx σ H) : tFor (iStr (tVar n)) g tb D σ H := by
  refine ⟨_, e, z, rfl, for_it walk_str Pv p0 (fun _ _ _ _ _ => trivial) (fun i x σ H H' hi p y => ?_) hd⟩
  obtain ⟨rfl, c, hc, rfl⟩ := y
  exact ht i c σ _ (by rw [Array.getElem?_toList]; exact hc) p
theorem walk_E {G : Hp → Prop} {n : Nat} {Y : Nat → Hp → V → Prop} : Walk (ItE G n Y) n G (fun i H v H' => ∃ T x, v = .ref T ∧ H T = none ∧ H' = upd H T (.tup [.int (i : Nat), x]) ∧ Y i H x) :=
  ⟨fun i H hi g => ⟨g, hi⟩, fun H g => ⟨g, rfl⟩, fun i H x H' hi g y => y⟩
theorem r_forETv {n : Nat} {a : Addr} {xs : List V} (e : σ[n]? = some (some (.ref a))) (hs : SqT K H a xs) (Pv : Nat → L2.St → Hp → Prop) (p0 : Pv 0 σ H) (hl : ∀ i σ H, Pv i σ H → SqT K H a xs)
    (ht : ∀ i x σ H p, xs[i]? = some x → Pv i σ H → H p = none → g (.ref p) σ (upd H p (.tup [.int (i : Nat), x])) fun σ2 H2 => tb { D with nx := Pv (i + 1), ct := Pv (i + 1), bk := D.nx } σ2 H2)
    (hd : ∀ σ H, Pv xs.length σ H → D.nx σ H) : tFor (Dk.iEnumT K (tCons (tVar n) tNil)) g tb D σ H := by
  refine ⟨_, e, a, xs, rfl, hs, for_it walk_E Pv p0 (fun i σ H _ p => hl i σ H p) (fun i x σ H H' hi p y => ?_) hd⟩
  obtain ⟨T, x', rfl, hT, rfl, hx⟩ := y
  exact ht i x' σ H T hx p hT
theorem r_forESv {n : Nat} {z : Str} (e : σ[n]? = some (some (.str z))) (Pv : Nat → L2.St → Hp → Prop) (p0 : Pv 0 σ H)
    (ht : ∀ i c σ H p, (cs z)[i]? = some c → Pv i σ H → H p = none → g (.ref p) σ (upd H p (.tup [.int (i : Nat), .str ⟨#[c]⟩])) fun σ2 H2 => tb { D with nx := Pv (i + 1), ct := Pv (i + 1), bk := D.nx } σ2 H2)
    (hd : ∀ σ H, Pv z.length σ H → D.nx σ H) : tFor (Dk.iEnumS (tCons (tVar n) tNil)) g tb D σ H := by
  refine ⟨_, e, z, rfl, for_it walk_E Pv p0 (fun _ _ _ _ _ => trivial) (fun i x σ H H' hi p y => ?_) hd⟩
  obtain ⟨T, x', rfl, hT, rfl, c, hc, rfl⟩ := y
  exact ht i c σ H T (by rw [Array.getElem?_toList]; exact hc) p hT
/-- over range(n) -/
theorem r_forR1 (h : ta σ H fun vs H1 => ∃ n : Int, vs = [.int n] ∧ -1000000 ≤ n ∧ n ≤ 1000000 ∧ ∃ Pv : Nat → L2.St → Hp → Prop, Pv 0 σ H1 ∧
    (∀ (i : Nat) σ H, (i : Int) < n → Pv i σ H → g (.int (i : Nat)) σ H fun σ2 H2 => tb { D with nx := Pv (i + 1), ct := Pv (i + 1), bk := D.nx } σ2 H2) ∧ ∀ σ H, Pv n.toNat σ H → D.nx σ H)
    (mono : ∀ Q Q' : List V → Hp → Prop, (∀ v H, Q v H → Q' v H) → ta σ H Q → ta σ H Q') : tFor (iRng1 ta) g tb D σ H := by
  refine mono _ _ (fun v H1 hh => ?_) h
  obtain ⟨n, rfl, h1, h2, Pv, p0, ht, hd⟩ := hh
  refine ⟨n, rfl, by omega, by omega, for_range Pv p0 (fun i σ H hi p => ?_) hd⟩
  have z := ht i σ H (by omega) p
  rw [Int.zero_add]
  exact z
end
section
variable {K : PySem.W.Frag} {σ : L2.St} {H : Hp} {N : L2.St → Hp → Prop} {v : V} {vs : List V} {t : TG} {u : TGs}
theorem r_gtup {n : Nat} {a : Addr} (h : SqT K H a vs) (hl : vs.length = n) (k : u vs σ H N) : gTup K n u (.ref a) σ H N := ⟨a, vs, rfl, h, hl, k⟩
theorem r_gcons (k : t v σ H fun σ' H' => u vs σ' H' N) : gCons t u (v :: vs) σ H N := ⟨v, vs, rfl, k⟩
theorem r_gnil (k : N σ H) : gNil [] σ H N := ⟨rfl, k⟩
theorem r_mkO {C : Addr} {sp : Sp} {dvs : List V} {ta : TA} {Q : XK} (h : ta σ H fun vs H1 => vs.length ≤ 1000 ∧ ∀ a, H1 a = none → sp (.ref a :: (vs ++ dvs)) (upd H1 a (exo a C none))
  (fun v H2 => v = .non ∧ ∃ (d : Addr) (fs : List (Str × V)), H2 a = some (exo a C (some d)) ∧ H2 d = some (exd d fs) ∧ H1 d = none ∧ Q (.ref C) (some d) (upd (del H2 a) d (.xd fs))) (fun _ _ _ => False)) : tMkO C sp dvs ta σ H Q := h
theorem r_xfo {a C : Addr} {cls : Value} {d : Option Addr} {f : Str} {te : TE} {Q : VK} (h : te σ H fun x H1 => x = .ref a ∧ cls = .ref C ∧ ∃ (dd : Addr) (fs : List (Str × V)) (v : V), d = some dd ∧ H1 dd = some (.xd fs) ∧ fs.lookup f = some v ∧ Q v H1) : tXf a cls d C f te σ H Q := h
theorem r_noP {QO : Option Int → Hp → Prop} (q : QO none H) : tNoPart σ H QO := q
theorem r_part {te : TE} {QO : Option Int → Hp → Prop} (h : te σ H fun x H1 => ∃ i, x = .int i ∧ QO (some i) H1) : tPart te σ H QO := h
theorem r_pI {i : Int} {PO : Int → Prop} (q : PO i) : ∃ j, V.int i = .int j ∧ PO j := ⟨i, rfl, q⟩
end
/-! ### draws -/
def M61 : Int := 2305843009213693951
/-- the state of the draws stands at a -/
def Stt (H : Hp) (a : Addr) : Prop := ∃ z : Int, H a = some (.lst [.int z]) ∧ 0 ≤ z ∧ z < M61
theorem nat61 {z : Int} (h0 : 0 ≤ z) (h : z < M61) : z.natAbs < 2 ^ 61 := by
  unfold M61 at h
  have e : (2 : Nat) ^ 61 = 2305843009213693952 := by decide
  omega
/-- draws were made: the state at a turned, all else is as it was -/
structure Dr (a : Addr) (H H' : Hp) : Prop where
  hh : ∀ b o, b ≠ a → H b = some o → H' b = some o
  st : Stt H' a
section
variable {A : Addr → Prop} {a p : Addr} {G H G1 H1 H2 : Hp} {o : HO}
theorem Stt.up (s : Stt H a) (e : Ex H H1) : Stt H1 a := s.imp fun _ z => ⟨e _ _ z.1, z.2⟩
theorem Stt.ne (s : Stt H a) (h : H p = none) : p ≠ a := fun z => by
  obtain ⟨v, e, _⟩ := s
  rw [← z, h] at e
  cases e
theorem Stt.put (s : Stt H a) (h : p ≠ a) : Stt (upd H p o) a := s.imp fun _ z => ⟨by rw [upd_ne (Ne.symm h)]; exact z.1, z.2⟩
theorem Dr.refl (s : Stt H a) : Dr a H H := ⟨fun _ _ _ h => h, s⟩
theorem Dr.trans (x : Dr a H H1) (y : Dr a H1 H2) : Dr a H H2 := ⟨fun b o n h => y.hh b o n (x.hh b o n h), y.st⟩
theorem Dr.ex (s : Stt H a) (e : Ex H H1) : Dr a H H1 := ⟨fun b o _ h => e b o h, s.up e⟩
theorem Dr.then (x : Dr a H H1) (e : Ex H1 H2) : Dr a H H2 := x.trans (.ex x.st e)
theorem Dr.set {z : Int} (h0 : 0 ≤ z) (h : z < M61) : Dr a H (upd H a (.lst [.int z])) := ⟨fun b o n e => by rw [upd_ne n]; exact e, z, upd_same, h0, h⟩
theorem Dr.mut (x : Dr a H H1) (hp : H p = none) (ne : p ≠ a) : Dr a H (upd H1 p o) :=
  ⟨fun b u n e => by rw [upd_ne (ne_of_none e hp)]; exact x.hh b u n e, x.st.put ne⟩
theorem Dr.new (x : Dr a H H1) (hp : H1 p = none) : Dr a H (upd H1 p o) := x.then (Same.new (Same.refl H1) hp)
theorem Dr.gr (g : Ex G H) (n : G a = none) (s : Stt H a) (d : Dr a H H1) : Gr (· = a) G H G H1 where
  gg := Same.refl G
  gh := fun b x e => d.hh b x (ne_of_none e n) (g b x e)
  hh := fun b x z e => d.hh b x z e
  th := fun b x e => by
    by_cases h : b = a
    · obtain ⟨v, z, _⟩ := d.st
      exact ⟨_, by rw [h]; exact z⟩
    · exact ⟨x, d.hh b x h e⟩
  nw := fun b x e z => z
theorem Gr.na (t : Gr A G H G1 H1) (n : G a = none) (s : Stt H a) : G1 a = none := by
  obtain ⟨z, e, _⟩ := s
  exact t.nw a _ e n
theorem Gr.dr (t : Gr (· = a) G H G1 H1) (n : G a = none) (s : Stt H a) (s1 : Stt H1 a) (d : Dr a H1 H2) : Gr (· = a) G H G1 H2 :=
  t.trans (Dr.gr t.gh (t.na n s) s1 d)
end
/-! ### the laws' own draws -/
def AL : Str := "\n !\"#$&'()*+,-./0123456789:;<=>?@ABCDEFGHIJKLMNOPQRSTUVWXYZ[\\]^_`abcdefghijklmnopqrstuvwxyz{|}~"
def InAL (z : Str) : Prop := ∀ c ∈ cs z, c ∈ cs AL
theorem AL_len : AL.length = 95 := by decide +kernel
def spDraw : Sp := fun vs H Q _ => ∃ (a : Addr) (n : Int), vs = [.ref a, .int n] ∧ Stt H a ∧ 0 < n ∧ ∀ (d : Int) H', 0 ≤ d → d < n → Dr a H H' → Q (.int d) H'
def spStart (K : PySem.W.Frag) : Sp := fun vs H Q _ => ∃ (s : Addr) (ns : List Int), vs = [.ref s] ∧ SqL K H s (ns.map V.int) ∧ ∀ p H', Ex H H' → H p = none → Stt H' p → Q (.ref p) H'
def spSigns : Sp := fun vs H Q _ => vs = [] ∧ Q (.str AL) H
def spText : Sp := fun vs H Q _ => ∃ (a : Addr) (n : Int), vs = [.ref a, .int n] ∧ Stt H a ∧ 0 ≤ n ∧ n ≤ 8000 ∧ ∀ o H', Dr a H H' → (o.length : Int) = n → InAL o → Q (.str o) H'
theorem mix_next {z : Int} (e : Int) : 0 ≤ e % M61 ∧ e % M61 < M61 := ⟨Int.emod_nonneg _ (by decide), Int.emod_lt_of_pos _ (by decide)⟩
/-! ### what is known at a place of a drawing def -/
structure Wd (a : Addr) (G H : Hp) : Prop where
  g : Ex G H
  na : G a = none
  st : Stt H a
section
variable {a p : Addr} {G H G1 H1 G2 H2 : Hp} {o : HO} {xs : List V} {Q : VK}
theorem Wd.step (x : Wd a G H) (t : Gr (· = a) G H G1 H1) (s : Stt H1 a) : Wd a G1 H1 := ⟨t.gh, t.na x.na x.st, s⟩
theorem Wd.pure (x : Wd a G H) (t : Gr A0 G H G1 H1) : Wd a G1 H1 := ⟨t.gh, t.na x.na x.st, x.st.up t.same⟩
theorem Wd.ex (x : Wd a G H) (e : Ex H H1) : Wd a G H1 := ⟨x.g.trans e, x.na, x.st.up e⟩
theorem Wd.dr (x : Wd a G H) (d : Dr a H H1) : Wd a G H1 := ⟨(Dr.gr x.g x.na x.st d).gh, x.na, d.st⟩
theorem Wd.gdr (x : Wd a G H) (d : Dr a H H1) : Gr (· = a) G H G H1 := Dr.gr x.g x.na x.st d
/-- a new list, known for good -/
theorem w_lst (x : Wd a G H) (k : ∀ p G' H', Gr A0 G H G' H' → Wd a G' H' → G' p = some (.lst xs) → Q (.ref p) H') :
    ∀ p, H p = none → Q (.ref p) (upd H p (.lst xs)) := fun p hp => k p _ _ (Gr.new x.g hp) (x.pure (Gr.new x.g hp)) upd_same
theorem w_tup (x : Wd a G H) (k : ∀ p G' H', Gr A0 G H G' H' → Wd a G' H' → G' p = some (.tup xs) → Q (.ref p) H') :
    ∀ p, H p = none → Q (.ref p) (upd H p (.tup xs)) := fun p hp => k p _ _ (Gr.new x.g hp) (x.pure (Gr.new x.g hp)) upd_same
end
theorem new_ex {G H : Hp} {p : Addr} (g : Ex G H) (hp : H p = none) (o : HO) : ∃ G' H', H' = upd H p o ∧ Gr A0 G H G' H' ∧ G' p = some o :=
  ⟨_, _, rfl, Gr.new g hp, upd_same⟩
theorem w_new {a p : Addr} {G H : Hp} (x : Wd a G H) (hp : H p = none) (o : HO) : ∃ G' H', H' = upd H p o ∧ Gr A0 G H G' H' ∧ Wd a G' H' ∧ G' p = some o :=
  ⟨_, _, rfl, Gr.new x.g hp, x.pure (Gr.new x.g hp), upd_same⟩
theorem atI_m1 {xs : List V} (h : xs ≠ []) : ∃ x, atI xs (-1) = some x ∧ x ∈ xs := by
  obtain ⟨l, y, rfl⟩ : ∃ l y, xs = l ++ [y] := ⟨_, _, (List.dropLast_concat_getLast h).symm⟩
  exact ⟨y, atI_last _ _, by simp⟩
theorem own_ex {G H : Hp} {p : Addr} (g : Ex G H) (hp : H p = none) (o : HO) : ∃ H', H' = upd H p o ∧ Gr A0 G H G H' ∧ H' p = some o ∧ G p = none :=
  ⟨_, rfl, Gr.own g hp, upd_same, g.free hp⟩
theorem Gr.fresh {A : Addr → Prop} {G H G1 H1 : Hp} {p : Addr} (t : Gr A G H G1 H1) (h : H1 p = none) : H p = none := by
  cases e : H p with
  | none => rfl
  | some o =>
    obtain ⟨o', z⟩ := t.th p o e
    rw [h] at z
    cases z
theorem ixN_nat {n : Nat} {i : Int} (h0 : 0 ≤ i) (h : i < (n : Int)) : ixN n i = some i.toNat := by
  unfold ixN
  rw [if_pos h0, if_pos h]
/-! loops whose source is reckoned -/
section
variable {K : PySem.W.Frag} {σ : L2.St} {H : Hp} {tl : TE} {ta : TA} {g : TG} {tb : TS} {D : Ends}
def LoopW (J : It) (g : TG) (tb : TS) (D : Ends) (σ : L2.St) (H1 : Hp) : Prop := ∃ W : Nat → Nat → L2.St → Hp → Prop, (∃ m, W 0 m σ H1) ∧ ∀ i m σ H, W i m σ H →
  (J.stop i H ∧ D.nx σ H) ∨ (J.go i H ∧ ∃ N : L2.St → Hp → Prop, (∀ σ' H', N σ' H' → ∃ m', m' < m ∧ W (i + 1) m' σ' H') ∧ ∀ x H', J.yld i H x H' → g x σ H' fun σ2 H2 => tb { D with nx := N, ct := N, bk := D.nx } σ2 H2)
theorem r_forLo (h : tl σ H fun x H1 => ∃ a, x = .ref a ∧ (∃ xs, SqL K H1 a xs) ∧ LoopW (Itl K a) g tb D σ H1) : tFor (iList K tl) g tb D σ H := h
theorem r_forTo (h : tl σ H fun x H1 => ∃ a, x = .ref a ∧ (∃ xs, SqT K H1 a xs) ∧ LoopW (Itt K a) g tb D σ H1) : tFor (iTup K tl) g tb D σ H := h
theorem r_forSo (h : tl σ H fun x H1 => ∃ z, x = .str z ∧ LoopW (Its z) g tb D σ H1) : tFor (iStr tl) g tb D σ H := h
theorem r_forRo (h : ta σ H fun vs H1 => ∃ j : Int, vs = [.int j] ∧ -(2 ^ 62) ≤ j ∧ j < 2 ^ 62 ∧ LoopW (Itr 0 j.toNat) g tb D σ H1) : tFor (iRng1 ta) g tb D σ H := h
theorem r_forR2o (h : ta σ H fun vs H1 => ∃ i j : Int, vs = [.int i, .int j] ∧ (-(2 ^ 62) ≤ i ∧ i < 2 ^ 62 ∧ -(2 ^ 62) ≤ j ∧ j < 2 ^ 62) ∧ LoopW (Itr i (j - i).toNat) g tb D σ H1) : tFor (iRng2 ta) g tb D σ H := h
theorem r_forEo (h : ta σ H fun vs H1 => ∃ a xs, vs = [.ref a] ∧ SqT K H1 a xs ∧ LoopW (ItE (fun H => SqT K H a xs) xs.length fun i _ x => xs[i]? = some x) g tb D σ H1) : tFor (Dk.iEnumT K ta) g tb D σ H := h
theorem r_forESo (h : ta σ H fun vs H1 => ∃ z, vs = [.str z] ∧ LoopW (ItE (fun _ => True) z.cps.size fun i _ x => ∃ c, z.cps[i]? = some c ∧ x = .str ⟨#[c]⟩) g tb D σ H1) : tFor (Dk.iEnumS ta) g tb D σ H := h
theorem l_L {a : Addr} {xs : List V} (hs : SqL K H a xs) (Pv : Nat → L2.St → Hp → Prop) (p0 : Pv 0 σ H) (hl : ∀ i σ H, Pv i σ H → SqL K H a xs)
    (ht : ∀ i x σ H, xs[i]? = some x → Pv i σ H → g x σ H fun σ2 H2 => tb { D with nx := Pv (i + 1), ct := Pv (i + 1), bk := D.nx } σ2 H2) (hd : ∀ σ H, Pv xs.length σ H → D.nx σ H) :
    ∃ b, V.ref a = .ref b ∧ (∃ xs, SqL K H b xs) ∧ LoopW (Itl K b) g tb D σ H :=
  ⟨a, rfl, ⟨xs, hs⟩, for_it walk_list Pv p0 (fun i σ H _ p => hl i σ H p) (fun i x σ H H' hi p y => by
    obtain ⟨rfl, hx⟩ := y
    exact ht i x σ _ hx p) hd⟩
theorem l_T {a : Addr} {xs : List V} (hs : SqT K H a xs) (Pv : Nat → L2.St → Hp → Prop) (p0 : Pv 0 σ H) (hl : ∀ i σ H, Pv i σ H → SqT K H a xs)
    (ht : ∀ i x σ H, xs[i]? = some x → Pv i σ H → g x σ H fun σ2 H2 => tb { D with nx := Pv (i + 1), ct := Pv (i + 1), bk := D.nx } σ2 H2) (hd : ∀ σ H, Pv xs.length σ H → D.nx σ H) :
    ∃ b, V.ref a = .ref b ∧ (∃ xs, SqT K H b xs) ∧ LoopW (Itt K b) g tb D σ H :=
  ⟨a, rfl, ⟨xs, hs⟩, for_it walk_tup Pv p0 (fun i σ H _ p => hl i σ H p) (fun i x σ H H' hi p y => by
    obtain ⟨rfl, hx⟩ := y
    exact ht i x σ _ hx p) hd⟩
theorem l_S {z : Str} (Pv : Nat → L2.St → Hp → Prop) (p0 : Pv 0 σ H)
    (ht : ∀ i c σ H, (cs z)[i]? = some c → Pv i σ H → g (.str ⟨#[c]⟩) σ H fun σ2 H2 => tb { D with nx := Pv (i + 1), ct := Pv (i + 1), bk := D.nx } σ2 H2) (hd : ∀ σ H, Pv z.length σ H → D.nx σ H) :
    ∃ y, V.str z = .str y ∧ LoopW (Its y) g tb D σ H := by
  refine ⟨z, rfl, for_it walk_str Pv p0 (fun _ _ _ _ _ => trivial) (fun i x σ H H' hi p y => ?_) hd⟩
  obtain ⟨rfl, c, hc, rfl⟩ := y
  exact ht i c σ _ (by rw [Array.getElem?_toList]; exact hc) p
theorem l_R {n : Int} (h1 : -1000000 ≤ n) (h2 : n ≤ 1000000) (Pv : Nat → L2.St → Hp → Prop) (p0 : Pv 0 σ H)
    (ht : ∀ (i : Nat) σ H, (i : Int) < n → Pv i σ H → g (.int (i : Nat)) σ H fun σ2 H2 => tb { D with nx := Pv (i + 1), ct := Pv (i + 1), bk := D.nx } σ2 H2) (hd : ∀ σ H, Pv n.toNat σ H → D.nx σ H) :
    ∃ j : Int, [V.int n] = [.int j] ∧ -(2 ^ 62) ≤ j ∧ j < 2 ^ 62 ∧ LoopW (Itr 0 j.toNat) g tb D σ H := by
  refine ⟨n, rfl, by omega, by omega, for_range Pv p0 (fun i σ H hi p => ?_) hd⟩
  have z := ht i σ H (by omega) p
  rw [Int.zero_add]
  exact z
theorem l_E {a : Addr} {xs : List V} (hs : SqT K H a xs) (Pv : Nat → L2.St → Hp → Prop) (p0 : Pv 0 σ H) (hl : ∀ i σ H, Pv i σ H → SqT K H a xs)
    (ht : ∀ i x σ H p, xs[i]? = some x → Pv i σ H → H p = none → g (.ref p) σ (upd H p (.tup [.int (i : Nat), x])) fun σ2 H2 => tb { D with nx := Pv (i + 1), ct := Pv (i + 1), bk := D.nx } σ2 H2)
    (hd : ∀ σ H, Pv xs.length σ H → D.nx σ H) : ∃ b ys, [V.ref a] = [.ref b] ∧ SqT K H b ys ∧ LoopW (ItE (fun H => SqT K H b ys) ys.length fun i _ x => ys[i]? = some x) g tb D σ H := by
  refine ⟨a, xs, rfl, hs, for_it walk_E Pv p0 (fun i σ H _ p => hl i σ H p) (fun i x σ H H' hi p y => ?_) hd⟩
  obtain ⟨T, x', rfl, hT, rfl, hx⟩ := y
  exact ht i x' σ H T hx p hT
end
theorem cutV_mem {xs : List V} {lo hi : Option Int} {x : V} (h : x ∈ cutV xs lo hi) : x ∈ xs := List.mem_of_mem_drop (List.mem_of_mem_take h)
theorem cutV_len {xs : List V} {lo hi : Option Int} : (cutV xs lo hi).length ≤ xs.length := by
  unfold cutV
  rw [List.length_take, List.length_drop]
  omega
theorem cutV_to (xs : List V) (n : Nat) : cutV xs none (some (n : Int)) = xs.take n := by
  unfold cutV
  rw [HT.sIx_nat, HT.sIx_none, List.drop_zero, Nat.sub_zero]
  by_cases h : n ≤ xs.length
  · rw [Nat.min_eq_left h]
  · rw [Nat.min_eq_right (by omega), List.take_of_length_le (Nat.le_refl _), List.take_of_length_le (by omega)]
theorem atI_lt {xs : List V} {i : Int} (h0 : 0 ≤ i) (h : i < (xs.length : Int)) : ∃ x, atI xs i = some x ∧ x ∈ xs := by
  have hi : i.toNat < xs.length := by omega
  exact ⟨xs[i.toNat], at_g (by omega) (List.getElem?_eq_getElem hi), List.getElem_mem _⟩
end Dk

/-! the told order: signs, the relation by its hops, its closure by rounds over a table of bits -/
namespace Tl
abbrev Sg := Nat × Nat
section
variable (L R : Nat → Sg)
/-- told ahead, by hops -/
inductive A : Sg → Sg → Prop where
  | same {x y : Sg} (h : x.1 = y.1) (i : x.2 < y.2) : A x y
  | rEq {x y : Sg} (h : y.1 < x.1) (e : R x.1 = y) : A x y
  | rGo {x y : Sg} (h : y.1 < x.1) (a : A (R x.1) y) : A x y
  | lEq {x y : Sg} (h : x.1 < y.1) (e : x = L y.1) : A x y
  | lGo {x y : Sg} (h : x.1 < y.1) (a : A x (L y.1)) : A x y
def E (x y : Sg) : Prop := x = y ∨ A L R x y
end
section
variable {L R : Nat → Sg} {x y z : Sg}
theorem A.same_iff (h : x.1 = y.1) : A L R x y ↔ x.2 < y.2 :=
  ⟨fun a => by cases a with
    | same _ i => exact i
    | rEq g _ => omega
    | rGo g _ => omega
    | lEq g _ => omega
    | lGo g _ => omega, fun i => .same h i⟩
theorem A.r_iff (h : y.1 < x.1) : A L R x y ↔ E L R (R x.1) y :=
  ⟨fun a => by cases a with
    | same g _ => omega
    | rEq _ e => exact .inl e
    | rGo _ a => exact .inr a
    | lEq g _ => omega
    | lGo g _ => omega, fun e => e.elim (.rEq h) (.rGo h)⟩
theorem A.l_iff (h : x.1 < y.1) : A L R x y ↔ E L R x (L y.1) :=
  ⟨fun a => by cases a with
    | same g _ => omega
    | rEq g _ => omega
    | rGo g _ => omega
    | lEq _ e => exact .inl e
    | lGo _ a => exact .inr a, fun e => e.elim (.lEq h) (.lGo h)⟩
theorem A.irr : ¬ A L R x x := fun a => by
  have z := (A.same_iff (L := L) (R := R) (rfl : x.1 = x.1)).mp a
  omega
/-- births below n: left and right of lesser chunks, the left told ahead of the right -/
structure Bs (L R : Nat → Sg) (n : Nat) : Prop where
  l : ∀ c, 0 < c → c < n → (L c).1 < c
  r : ∀ c, 0 < c → c < n → (R c).1 < c
  lr : ∀ c, 0 < c → c < n → A L R (L c) (R c)
theorem Bs.mono {n m : Nat} (b : Bs L R n) (h : m ≤ n) : Bs L R m := ⟨fun c h0 h1 => b.l c h0 (by omega), fun c h0 h1 => b.r c h0 (by omega), fun c h0 h1 => b.lr c h0 (by omega)⟩
theorem Bs.trans {n : Nat} (b : Bs L R n) : ∀ m, m ≤ n → ∀ x y z : Sg, x.1 < m → y.1 < m → z.1 < m → A L R x y → A L R y z → A L R x z := by
  intro m
  induction m with
  | zero => intro _ x y z h; omega
  | succ m ih =>
    intro hm x y z hx hy hz a1 a2
    have ih' := ih (by omega)
    have eT : ∀ {u v t : Sg}, u.1 < m → v.1 < m → t.1 < m → E L R u v → A L R v t → A L R u t := fun h1 h2 h3 e a => by
      rcases e with rfl | e
      · exact a
      · exact ih' _ _ _ h1 h2 h3 e a
    have tE : ∀ {u v t : Sg}, u.1 < m → v.1 < m → t.1 < m → A L R u v → E L R v t → A L R u t := fun h1 h2 h3 a e => by
      rcases e with rfl | e
      · exact a
      · exact ih' _ _ _ h1 h2 h3 a e
    by_cases cx : x.1 = m
    · by_cases cy : y.1 = m
      · by_cases cz : z.1 = m
        · have i1 := (A.same_iff (by omega)).mp a1
          have i2 := (A.same_iff (by omega)).mp a2
          exact .same (by omega) (by omega)
        · have e2 := (A.r_iff (by omega)).mp a2
          exact (A.r_iff (by omega)).mpr (by rw [show x.1 = y.1 by omega]; exact e2)
      · by_cases cz : z.1 = m
        · exfalso
          have m0 : 0 < m := by omega
          have hl := b.l m m0 (by omega)
          have hr := b.r m m0 (by omega)
          have hlr := b.lr m m0 (by omega)
          have e1 := (A.r_iff (by omega)).mp a1
          have e2 := (A.l_iff (by omega)).mp a2
          rw [cx] at e1
          rw [cz] at e2
          have a3 : A L R (L m) y := tE hl hr (by omega) hlr e1
          have a4 : A L R (L m) (L m) := tE hl (by omega) hl a3 e2
          exact A.irr a4
        · have e1 := (A.r_iff (by omega)).mp a1
          have hr := b.r x.1 (by omega) (by omega)
          exact (A.r_iff (by omega)).mpr (.inr (eT (by omega) (by omega) (by omega) e1 a2))
    · by_cases cy : y.1 = m
      · by_cases cz : z.1 = m
        · have e1 := (A.l_iff (by omega)).mp a1
          exact (A.l_iff (by omega)).mpr (by rw [show z.1 = y.1 by omega]; exact e1)
        · have e1 := (A.l_iff (by omega)).mp a1
          have e2 := (A.r_iff (by omega)).mp a2
          have hl := b.l y.1 (by omega) (by omega)
          have hr := b.r y.1 (by omega) (by omega)
          have hlr := b.lr y.1 (by omega) (by omega)
          have a3 := eT (by omega) (by omega) (by omega) e1 hlr
          exact tE (by omega) (by omega) (by omega) a3 e2
      · by_cases cz : z.1 = m
        · have e2 := (A.l_iff (by omega)).mp a2
          have hl := b.l z.1 (by omega) (by omega)
          exact (A.l_iff (by omega)).mpr (.inr (tE (by omega) (by omega) (by omega) a1 e2))
        · exact ih' x y z (by omega) (by omega) (by omega) a1 a2
theorem Bs.tr {n : Nat} (b : Bs L R n) (hx : x.1 < n) (hy : y.1 < n) (hz : z.1 < n) (a1 : A L R x y) (a2 : A L R y z) : A L R x z := b.trans n (Nat.le_refl n) x y z hx hy hz a1 a2
/-- only births up to the greater chunk count -/
theorem A.congr {L' R' : Nat → Sg} {n : Nat} (hl : ∀ c, 0 < c → c < n → L c = L' c) (hr : ∀ c, 0 < c → c < n → R c = R' c) (b : ∀ c, 0 < c → c < n → (L c).1 < c ∧ (R c).1 < c) :
    ∀ {x y : Sg}, A L R x y → x.1 < n → y.1 < n → A L' R' x y := fun {x y} a => by
  induction a with
  | same h i => exact fun _ _ => .same h i
  | @rEq x y h e => exact fun hx hy => .rEq h ((hr x.1 (by omega) hx).symm.trans e)
  | @rGo x y h a ih =>
    intro hx hy
    have e := hr x.1 (by omega) hx
    have w := (b x.1 (by omega) hx).2
    exact .rGo h (e ▸ ih (by omega) hy)
  | @lEq x y h e => exact fun hx hy => .lEq h (e.trans (hl y.1 (by omega) hy))
  | @lGo x y h a ih =>
    intro hx hy
    have e := hl y.1 (by omega) hy
    have w := (b y.1 (by omega) hy).1
    exact .lGo h (e ▸ ih hx (by omega))
end
/-! ### paths -/
inductive Pth (S : List (Nat × Nat)) : Nat → Nat → Nat → Prop where
  | one {a b : Nat} (h : (a, b) ∈ S) : Pth S 1 a b
  | step {k a b c : Nat} (h : (a, b) ∈ S) (p : Pth S k b c) : Pth S (k + 1) a c
def Rch (S : List (Nat × Nat)) (a b : Nat) : Prop := ∃ k, Pth S k a b
section
variable {S : List (Nat × Nat)} {a b c : Nat}
theorem Pth.app {k m : Nat} (p : Pth S k a b) (q : Pth S m b c) : Rch S a c := by
  induction p with
  | one h => exact ⟨_, .step h q⟩
  | step h p ih =>
    obtain ⟨k', r⟩ := ih q
    exact ⟨_, .step h r⟩
theorem Rch.tr (p : Rch S a b) (q : Rch S b c) : Rch S a c := by
  obtain ⟨k, p⟩ := p
  obtain ⟨m, q⟩ := q
  exact p.app q
/-- a list without repeats within another one is no longer -/
theorem nodup_le : ∀ {l m : List Nat}, l.Nodup → (∀ x ∈ l, x ∈ m) → l.length ≤ m.length
  | [], m, _, _ => Nat.zero_le _
  | x :: r, m, hn, hm => by
    have hx : x ∈ m := hm x (List.mem_cons_self ..)
    have hn' := List.nodup_cons.mp hn
    have h1 : ∀ y ∈ r, y ∈ m.erase x := fun y hy => (List.mem_erase_of_ne (by
      rintro rfl
      exact hn'.1 hy)).mpr (hm y (List.mem_cons_of_mem _ hy))
    have h2 := nodup_le hn'.2 h1
    rw [List.length_erase_of_mem hx] at h2
    have h3 : 0 < m.length := List.length_pos_of_mem hx
    rw [List.length_cons]
    omega
theorem Pth.bound {k n : Nat} {lt : Nat → Nat → Prop} (hS : ∀ a b, (a, b) ∈ S → lt a b ∧ a < n ∧ b < n) (tr : ∀ a b c, a < n → b < n → c < n → lt a b → lt b c → lt a c) (ir : ∀ a, ¬ lt a a) (p : Pth S k a b) : k + 1 ≤ n := by
  have key : ∀ {k a b}, Pth S k a b → ∃ l : List Nat, l.length = k ∧ (a :: l).Nodup ∧ (∀ x ∈ l, lt a x) ∧ ∀ x ∈ a :: l, x < n := by
    intro k a b p
    induction p with
    | @one a b h =>
      obtain ⟨h1, h2, h3⟩ := hS _ _ h
      refine ⟨[b], rfl, ?_, by simpa using h1, by simp [h2, h3]⟩
      simp
      exact fun e => ir a (e ▸ h1)
    | @step k a b c h p ih =>
      obtain ⟨l, hl, hn, hlt, hb⟩ := ih
      obtain ⟨h1, h2, h3⟩ := hS _ _ h
      have all : ∀ x ∈ b :: l, lt a x := fun x hx => by
        rcases List.mem_cons.mp hx with rfl | hx
        · exact h1
        · exact tr a b x h2 h3 (hb x (List.mem_cons_of_mem _ hx)) h1 (hlt x hx)
      refine ⟨b :: l, by rw [List.length_cons, hl], List.nodup_cons.mpr ⟨fun hm => ir a (all a hm), hn⟩, all, fun x hx => ?_⟩
      rcases List.mem_cons.mp hx with rfl | hx
      · exact h2
      · exact hb x hx
  obtain ⟨l, hl, hn, _, hb⟩ := key p
  have z := nodup_le (m := List.range n) hn fun x hx => List.mem_range.mpr (hb x hx)
  rw [List.length_cons, hl, List.length_range] at z
  exact z
end
/-! ### the table -/
def put (T : List Nat) (e : Nat × Nat) : List Nat := T.set e.1 (T.getD e.1 0 ||| 1 <<< e.2 ||| T.getD e.2 0)
def lap (S : List (Nat × Nat)) (T : List Nat) : List Nat := S.foldl put T
/-- T has b behind a -/
def Bit (T : List Nat) (a b : Nat) : Prop := (T.getD a 0).testBit b = true
section
variable {S : List (Nat × Nat)} {T : List Nat} {n : Nat}
theorem put_len (e : Nat × Nat) : (put T e).length = T.length := List.length_set ..
theorem lap_len : ∀ (S : List (Nat × Nat)) (T : List Nat), (lap S T).length = T.length
  | [], _ => rfl
  | e :: r, T => (lap_len r (put T e)).trans (put_len e)
theorem bit_put {e : Nat × Nat} (h : e.1 < T.length) {a b : Nat} : Bit (put T e) a b ↔ Bit T a b ∨ (a = e.1 ∧ (b = e.2 ∨ Bit T e.2 b)) := by
  unfold Bit put
  by_cases ha : a = e.1
  · subst ha
    have g : (T.set e.1 (T.getD e.1 0 ||| 1 <<< e.2 ||| T.getD e.2 0)).getD e.1 0 = T.getD e.1 0 ||| 1 <<< e.2 ||| T.getD e.2 0 := by
      simp [List.getD, List.getElem?_set, h]
    rw [g, Nat.testBit_or, Nat.testBit_or, Nat.one_shiftLeft, Nat.testBit_two_pow, Bool.or_eq_true, Bool.or_eq_true, decide_eq_true_iff]
    constructor
    · rintro ((h | h) | h)
      · exact .inl h
      · exact .inr ⟨rfl, .inl h.symm⟩
      · exact .inr ⟨rfl, .inr h⟩
    · rintro (h | ⟨_, h | h⟩)
      · exact .inl (.inl h)
      · exact .inl (.inr h.symm)
      · exact .inr h
  · have g : (T.set e.1 (T.getD e.1 0 ||| 1 <<< e.2 ||| T.getD e.2 0)).getD a 0 = T.getD a 0 := by
      simp [List.getD, List.getElem?_set, Ne.symm ha]
    rw [g]
    constructor
    · exact fun h => .inl h
    · rintro (h | ⟨h, _⟩)
      · exact h
      · exact absurd h ha
theorem lap_mono : ∀ (S : List (Nat × Nat)) {T : List Nat}, (∀ e ∈ S, e.1 < T.length) → ∀ {a b}, Bit T a b → Bit (lap S T) a b
  | [], _, _, _, _, h => h
  | e :: r, T, hS, a, b, h => lap_mono r (fun e' he => by rw [put_len]; exact hS e' (List.mem_cons_of_mem _ he)) ((bit_put (hS e (List.mem_cons_self ..))).mpr (.inl h))
theorem lap_edge : ∀ (S : List (Nat × Nat)) {T : List Nat}, (∀ e ∈ S, e.1 < T.length) → ∀ {a b c}, (a, b) ∈ S → c = b ∨ Bit T b c → Bit (lap S T) a c
  | e :: r, T, hS, a, b, c, hm, h => by
    have hr : ∀ e' ∈ r, e'.1 < (put T e).length := fun e' he => by rw [put_len]; exact hS e' (List.mem_cons_of_mem _ he)
    rcases List.mem_cons.mp hm with rfl | hm
    · exact lap_mono r hr ((bit_put (hS _ (List.mem_cons_self ..))).mpr (.inr ⟨rfl, h⟩))
    · refine lap_edge r hr hm (h.imp id fun h => (bit_put (hS e (List.mem_cons_self ..))).mpr (.inl h))
theorem lap_sound : ∀ (S : List (Nat × Nat)) {S0 : List (Nat × Nat)} {T : List Nat}, (∀ e ∈ S, e ∈ S0) → (∀ e ∈ S, e.1 < T.length) → (∀ a b, Bit T a b → Rch S0 a b) → ∀ a b, Bit (lap S T) a b → Rch S0 a b
  | [], _, _, _, _, h => h
  | e :: r, S0, T, h0, hS, h => lap_sound r (fun e' he => h0 e' (List.mem_cons_of_mem _ he)) (fun e' he => by rw [put_len]; exact hS e' (List.mem_cons_of_mem _ he)) fun a b hb => by
    refine Or.elim ((bit_put (hS e (List.mem_cons_self ..))).mp hb) (fun hb => h a b hb) fun hb => ?_
    · obtain ⟨ea, hb2⟩ := hb
      subst ea
      have he : Rch S0 e.1 e.2 := ⟨1, .one (h0 e (List.mem_cons_self ..))⟩
      refine Or.elim hb2 (fun e1 => ?_) (fun hb => he.tr (h _ _ hb))
      rw [e1]
      exact he
/-- behind r laps all paths of at most r steps are there -/
def Upto (S : List (Nat × Nat)) (T : List Nat) (r : Nat) : Prop := ∀ k a b, Pth S k a b → k ≤ r → Bit T a b
theorem Upto.lap {r : Nat} (hS : ∀ e ∈ S, e.1 < T.length) (u : Upto S T r) : Upto S (lap S T) (r + 1) := fun k a b p hk => by
  cases p with
  | one h => exact lap_edge S hS h (.inl rfl)
  | step h p => exact lap_edge S hS h (.inr (u _ _ _ p (by omega)))
/-- where a lap changes nothing all paths are there -/
theorem still_all (hS : ∀ e ∈ S, e.1 < T.length) (h : ∀ a b c, (a, b) ∈ S → c = b ∨ Bit T b c → Bit T a c) {a b : Nat} (p : Rch S a b) : Bit T a b := by
  obtain ⟨k, p⟩ := p
  induction p with
  | one h' => exact h _ _ _ h' (.inl rfl)
  | step h' p ih => exact h _ _ _ h' (.inr ih)
end
end Tl

namespace Tl
/-! ### signs in a row, steps -/
section
variable (sz : Nat → Nat)
def off : Nat → Nat
  | 0 => 0
  | c + 1 => off c + sz c
def rowOf (c : Nat) : List Sg := (List.range (sz c)).map fun i => (c, i)
def marks : Nat → List Sg
  | 0 => []
  | c + 1 => marks c ++ rowOf sz c
def ps (x : Sg) : Nat := off sz x.1 + x.2
/-- a sign of the births below n -/
def Ok (n : Nat) (x : Sg) : Prop := x.1 < n ∧ x.2 < sz x.1
end
section
variable {sz : Nat → Nat} {n : Nat} {x y : Sg}
theorem rowOf_len (c : Nat) : (rowOf sz c).length = sz c := by simp [rowOf]
theorem marks_len : ∀ n, (marks sz n).length = off sz n
  | 0 => rfl
  | n + 1 => by
    show (marks sz n ++ rowOf sz n).length = off sz n + sz n
    rw [List.length_append, marks_len n, rowOf_len]
theorem marks_at : ∀ {n : Nat} {x : Sg}, Ok sz n x → (marks sz n)[ps sz x]? = some x
  | 0, x, h => absurd h.1 (Nat.not_lt_zero _)
  | n + 1, x, h => by
    show (marks sz n ++ rowOf sz n)[ps sz x]? = some x
    by_cases hx : x.1 < n
    · have ih := marks_at (n := n) ⟨hx, h.2⟩
      obtain ⟨hl, _⟩ := List.getElem?_eq_some_iff.mp ih
      rw [List.getElem?_append_left hl]
      exact ih
    · have e : x.1 = n := by have := h.1; omega
      have e2 : ps sz x = (marks sz n).length + x.2 := by unfold ps; rw [marks_len, e]
      rw [e2, List.getElem?_append_right (by omega), Nat.add_sub_cancel_left]
      unfold rowOf
      rw [List.getElem?_map, List.getElem?_range (by rw [← e]; exact h.2)]
      show some (n, x.2) = some x
      rw [← e]
theorem mem_marks : ∀ {n : Nat} {x : Sg}, x ∈ marks sz n ↔ Ok sz n x
  | 0, x => by simp [marks, Ok]
  | n + 1, x => by
    show x ∈ marks sz n ++ rowOf sz n ↔ _
    rw [List.mem_append, mem_marks]
    unfold rowOf Ok
    simp only [List.mem_map, List.mem_range]
    constructor
    · rintro (⟨h1, h2⟩ | ⟨i, hi, rfl⟩)
      · exact ⟨by omega, h2⟩
      · exact ⟨by show n < n + 1; omega, hi⟩
    · rintro ⟨h1, h2⟩
      by_cases hx : x.1 < n
      · exact .inl ⟨hx, h2⟩
      · have e : x.1 = n := by omega
        refine .inr ⟨x.2, by rw [← e]; exact h2, ?_⟩
        rw [← e]
theorem ps_lt (h : Ok sz n x) : ps sz x < off sz n := by
  have := (List.getElem?_eq_some_iff.mp (marks_at h)).1
  rw [marks_len] at this
  exact this
theorem ps_inj (hx : Ok sz n x) (hy : Ok sz n y) (e : ps sz x = ps sz y) : x = y := by
  have h1 := marks_at hx
  rw [e, marks_at hy] at h1
  exact (Option.some.inj h1).symm
theorem sign_at {j : Nat} (h : j < off sz n) : ∃ x, Ok sz n x ∧ ps sz x = j := by
  have hj : j < (marks sz n).length := by rw [marks_len]; exact h
  have hm : (marks sz n)[j] ∈ marks sz n := List.getElem_mem hj
  have ok := mem_marks.mp hm
  refine ⟨_, ok, ?_⟩
  have key : ∀ {n j : Nat} {x : Sg}, (marks sz n)[j]? = some x → ps sz x = j := by
    intro n
    induction n with
    | zero => intro j x h; simp [marks] at h
    | succ n ih =>
      intro j x h
      have h' : (marks sz n ++ rowOf sz n)[j]? = some x := h
      by_cases hl : j < (marks sz n).length
      · rw [List.getElem?_append_left hl] at h'
        exact ih h'
      · rw [List.getElem?_append_right (by omega)] at h'
        unfold rowOf at h'
        rw [List.getElem?_map] at h'
        obtain ⟨i, hi, rfl⟩ := Option.map_eq_some_iff.mp h'
        have e := (List.getElem?_eq_some_iff.mp hi).2
        simp at e
        unfold ps
        show off sz n + i = j
        rw [marks_len] at e hl
        omega
  exact key (List.getElem?_eq_getElem hj)
end
section
variable (L R : Nat → Sg) (sz : Nat → Nat)
def stepsOf (c : Nat) : List (Nat × Nat) := (ps sz (L c), off sz c) :: ((List.range (sz c - 1)).map fun i => (off sz c + i, off sz c + i + 1)) ++ [(off sz c + sz c - 1, ps sz (R c))]
/-- the steps of the births 1 to n -/
def steps : Nat → List (Nat × Nat)
  | 0 => [(0, 1)]
  | n + 1 => steps n ++ stepsOf L R sz (n + 1)
/-- births below n, as a sheet may make them -/
structure Wv (n : Nat) : Prop extends Bs L R n where
  n0 : 0 < n
  s0 : sz 0 = 2
  s1 : ∀ c, 0 < c → c < n → 0 < sz c
  lo : ∀ c, 0 < c → c < n → (L c).2 < sz (L c).1
  ro : ∀ c, 0 < c → c < n → (R c).2 < sz (R c).1
end
section
variable {L R : Nat → Sg} {sz : Nat → Nat} {n : Nat}
theorem Wv.okL (w : Wv L R sz n) {c : Nat} (h0 : 0 < c) (h : c < n) : Ok sz n (L c) := ⟨Nat.lt_trans (w.l c h0 h) h, w.lo c h0 h⟩
theorem Wv.okR (w : Wv L R sz n) {c : Nat} (h0 : 0 < c) (h : c < n) : Ok sz n (R c) := ⟨Nat.lt_trans (w.r c h0 h) h, w.ro c h0 h⟩
theorem Wv.mono (w : Wv L R sz n) {m : Nat} (h0 : 0 < m) (h : m ≤ n) : Wv L R sz m :=
  { Bs.mono w.toBs h with n0 := h0, s0 := w.s0, s1 := fun c h1 h2 => w.s1 c h1 (by omega), lo := fun c h1 h2 => w.lo c h1 (by omega), ro := fun c h1 h2 => w.ro c h1 (by omega) }
theorem mem_steps {m : Nat} {e : Nat × Nat} : e ∈ steps L R sz m ↔ e = (0, 1) ∨ ∃ c, 0 < c ∧ c ≤ m ∧ e ∈ stepsOf L R sz c := by
  induction m with
  | zero =>
    show e ∈ [(0, 1)] ↔ _
    rw [List.mem_singleton]
    constructor
    · exact .inl
    · rintro (h | ⟨c, h1, h2, _⟩)
      · exact h
      · omega
  | succ m ih =>
    show e ∈ steps L R sz m ++ stepsOf L R sz (m + 1) ↔ _
    rw [List.mem_append, ih]
    constructor
    · rintro ((h | ⟨c, h1, h2, h3⟩) | h)
      · exact .inl h
      · exact .inr ⟨c, h1, by omega, h3⟩
      · exact .inr ⟨m + 1, by omega, by omega, h⟩
    · rintro (h | ⟨c, h1, h2, h3⟩)
      · exact .inl (.inl h)
      · by_cases hc : c ≤ m
        · exact .inl (.inr ⟨c, h1, hc, h3⟩)
        · have e : c = m + 1 := by omega
          rw [e] at h3
          exact .inr h3
theorem mem_stepsOf {c : Nat} {e : Nat × Nat} : e ∈ stepsOf L R sz c ↔ e = (ps sz (L c), off sz c) ∨ (∃ i, i < sz c - 1 ∧ e = (off sz c + i, off sz c + i + 1)) ∨ e = (off sz c + sz c - 1, ps sz (R c)) := by
  unfold stepsOf
  simp only [List.cons_append, List.mem_cons, List.mem_append, List.mem_map, List.mem_range, List.not_mem_nil, or_false]
  constructor
  · rintro (h | ⟨i, hi, rfl⟩ | h)
    · exact .inl h
    · exact .inr (.inl ⟨i, hi, rfl⟩)
    · exact .inr (.inr h)
  · rintro (h | ⟨i, hi, rfl⟩ | h)
    · exact .inl h
    · exact .inr (.inl ⟨i, hi, rfl⟩)
    · exact .inr (.inr h)
/-- each step is one of the order -/
theorem step_A (w : Wv L R sz n) {a b : Nat} (h : (a, b) ∈ steps L R sz (n - 1)) : ∃ x y, Ok sz n x ∧ Ok sz n y ∧ ps sz x = a ∧ ps sz y = b ∧ A L R x y := by
  have n0 := w.n0
  rcases mem_steps.mp h with h | ⟨c, h1, h2, h3⟩
  · cases h
    refine ⟨(0, 0), (0, 1), ⟨n0, by rw [w.s0]; decide⟩, ⟨n0, by rw [w.s0]; decide⟩, rfl, rfl, .same rfl (by decide)⟩
  · have hc : c < n := by omega
    have hs := w.s1 c h1 hc
    rcases mem_stepsOf.mp h3 with e | ⟨i, hi, e⟩ | e
    · cases e
      exact ⟨L c, (c, 0), w.okL h1 hc, ⟨hc, hs⟩, rfl, rfl, .lEq (w.l c h1 hc) rfl⟩
    · cases e
      exact ⟨(c, i), (c, i + 1), ⟨hc, by show i < sz c; omega⟩, ⟨hc, by show i + 1 < sz c; omega⟩, rfl, by unfold ps; show off sz c + (i + 1) = _; omega, .same rfl (by show i < i + 1; omega)⟩
    · cases e
      exact ⟨(c, sz c - 1), R c, ⟨hc, by show sz c - 1 < sz c; omega⟩, w.okR h1 hc, by unfold ps; show off sz c + (sz c - 1) = _; omega, rfl, .rEq (w.r c h1 hc) rfl⟩
theorem rch_row (w : Wv L R sz n) {c : Nat} (hc : c < n) : ∀ {i j : Nat}, i < j → j < sz c → Rch (steps L R sz (n - 1)) (off sz c + i) (off sz c + j) := by
  intro i j hij
  obtain ⟨d, rfl⟩ : ∃ d, j = i + 1 + d := ⟨j - (i + 1), by omega⟩
  clear hij
  have one : ∀ i, i + 1 < sz c → Rch (steps L R sz (n - 1)) (off sz c + i) (off sz c + i + 1) := by
    intro i hi
    refine ⟨1, .one (mem_steps.mpr ?_)⟩
    by_cases h0 : c = 0
    · subst h0
      have z := w.s0
      have e : i = 0 := by omega
      subst e
      exact .inl rfl
    · exact .inr ⟨c, by omega, by omega, mem_stepsOf.mpr (.inr (.inl ⟨i, by omega, rfl⟩))⟩
  induction d with
  | zero => intro h; exact one i h
  | succ d ih =>
    intro h
    have p := ih (by omega)
    have q := one (i + 1 + d) (by omega)
    exact p.tr q
theorem rch_A (w : Wv L R sz n) {x y : Sg} (a : A L R x y) : Ok sz n x → Ok sz n y → Rch (steps L R sz (n - 1)) (ps sz x) (ps sz y) := by
  have toR : ∀ {x : Sg}, Ok sz n x → 0 < x.1 → Rch (steps L R sz (n - 1)) (ps sz x) (ps sz (R x.1)) := by
    intro x hx h0
    have e : Rch (steps L R sz (n - 1)) (off sz x.1 + sz x.1 - 1) (ps sz (R x.1)) := ⟨1, .one (mem_steps.mpr (.inr ⟨x.1, h0, by have := hx.1; omega, mem_stepsOf.mpr (.inr (.inr rfl))⟩))⟩
    by_cases hl : x.2 = sz x.1 - 1
    · have e2 : ps sz x = off sz x.1 + sz x.1 - 1 := by unfold ps; have := hx.2; omega
      rw [e2]
      exact e
    · have p := rch_row w hx.1 (i := x.2) (j := sz x.1 - 1) (by have := hx.2; omega) (by have := hx.2; omega)
      have e2 : off sz x.1 + (sz x.1 - 1) = off sz x.1 + sz x.1 - 1 := by have := hx.2; omega
      rw [e2] at p
      exact p.tr e
  have toL : ∀ {y : Sg}, Ok sz n y → 0 < y.1 → Rch (steps L R sz (n - 1)) (ps sz (L y.1)) (ps sz y) := by
    intro y hy h0
    have e : Rch (steps L R sz (n - 1)) (ps sz (L y.1)) (off sz y.1) := ⟨1, .one (mem_steps.mpr (.inr ⟨y.1, h0, by have := hy.1; omega, mem_stepsOf.mpr (.inl rfl)⟩))⟩
    by_cases hl : y.2 = 0
    · have e2 : ps sz y = off sz y.1 := by unfold ps; omega
      rw [e2]
      exact e
    · exact e.tr (rch_row w hy.1 (i := 0) (j := y.2) (by omega) hy.2)
  induction a with
  | @same x y h i =>
    intro hx hy
    unfold ps
    rw [← h]
    exact rch_row w hx.1 i (by rw [h]; exact hy.2)
  | @rEq x y h e => intro hx hy; exact e ▸ toR hx (by omega)
  | @rGo x y h a ih => intro hx hy; exact (toR hx (by omega)).tr (ih (w.okR (by omega) hx.1) hy)
  | @lEq x y h e => intro hx hy; exact e ▸ toL hy (by omega)
  | @lGo x y h a ih => intro hx hy; exact (ih hx (w.okL (by omega) hy.1)).tr (toL hy (by omega))
theorem A_rch (w : Wv L R sz n) {x y : Sg} (hx : Ok sz n x) (hy : Ok sz n y) (p : Rch (steps L R sz (n - 1)) (ps sz x) (ps sz y)) : A L R x y := by
  obtain ⟨k, p⟩ := p
  have key : ∀ {k a b}, Pth (steps L R sz (n - 1)) k a b → ∃ u v, Ok sz n u ∧ Ok sz n v ∧ ps sz u = a ∧ ps sz v = b ∧ A L R u v := by
    intro k a b p
    induction p with
    | one h => exact step_A w h
    | step h p ih =>
      obtain ⟨u, v, h1, h2, h3, h4, h5⟩ := step_A w h
      obtain ⟨u', v', g1, g2, g3, g4, g5⟩ := ih
      have e := ps_inj h2 g1 (h4.trans g3.symm)
      subst e
      exact ⟨u, v', h1, g2, h3, g4, w.tr h1.1 h2.1 g2.1 h5 g5⟩
  obtain ⟨u, v, h1, h2, h3, h4, h5⟩ := key p
  have e1 := ps_inj hx h1 h3.symm
  have e2 := ps_inj hy h2 h4.symm
  subst e1 e2
  exact h5
theorem rch_iff (w : Wv L R sz n) {x y : Sg} (hx : Ok sz n x) (hy : Ok sz n y) : Rch (steps L R sz (n - 1)) (ps sz x) (ps sz y) ↔ A L R x y := ⟨A_rch w hx hy, fun a => rch_A w a hx hy⟩
theorem step_lt (w : Wv L R sz n) {a b : Nat} (h : (a, b) ∈ steps L R sz (n - 1)) : a < off sz n ∧ b < off sz n := by
  obtain ⟨x, y, hx, hy, rfl, rfl, _⟩ := step_A w h
  exact ⟨ps_lt hx, ps_lt hy⟩
theorem path_bound (w : Wv L R sz n) {k a b : Nat} (p : Pth (steps L R sz (n - 1)) k a b) : k + 1 ≤ off sz n := by
  refine Pth.bound (lt := fun a b => ∃ x y, Ok sz n x ∧ Ok sz n y ∧ ps sz x = a ∧ ps sz y = b ∧ A L R x y) (fun a b h => ⟨step_A w h, step_lt w h⟩) (fun a b c ha hb hc h1 h2 => ?_) (fun a h => ?_) p
  · obtain ⟨x, y, hx, hy, rfl, rfl, a1⟩ := h1
    obtain ⟨y', z, hy', hz, e, rfl, a2⟩ := h2
    have e' := ps_inj hy' hy e
    subst e'
    exact ⟨x, z, hx, hz, rfl, rfl, w.tr hx.1 hy.1 hz.1 a1 a2⟩
  · obtain ⟨x, y, hx, hy, rfl, e, a1⟩ := h
    have e' := ps_inj hy hx e
    subst e'
    exact A.irr a1
theorem steps_len (w : Wv L R sz n) : off sz n ≤ (steps L R sz (n - 1)).length + 1 := by
  have key : ∀ m, m < n → off sz (m + 1) ≤ (steps L R sz m).length + 1 := by
    intro m
    induction m with
    | zero =>
      intro _
      show 0 + sz 0 ≤ 1 + 1
      rw [w.s0]
      decide
    | succ m ih =>
      intro h
      have z := ih (by omega)
      show off sz (m + 1) + sz (m + 1) ≤ (steps L R sz m ++ stepsOf L R sz (m + 1)).length + 1
      rw [List.length_append]
      have e : (stepsOf L R sz (m + 1)).length = sz (m + 1) - 1 + 2 := by
        unfold stepsOf
        simp
      rw [e]
      omega
  have n0 := w.n0
  have z := key (n - 1) (by omega)
  rw [Nat.sub_add_cancel n0] at z
  exact z
/-- the table tells the order -/
def Tells (L R : Nat → Sg) (sz : Nat → Nat) (n : Nat) (T : List Nat) : Prop := T.length = off sz n ∧ ∀ x y, Ok sz n x → Ok sz n y → (Bit T (ps sz x) (ps sz y) ↔ A L R x y)
/-- the table under way: sound, all paths of at most r steps -/
structure Under (L R : Nat → Sg) (sz : Nat → Nat) (n : Nat) (T : List Nat) (r : Nat) : Prop where
  len : T.length = off sz n
  snd : ∀ a b, Bit T a b → Rch (steps L R sz (n - 1)) a b
  upto : Upto (steps L R sz (n - 1)) T r
theorem Under.zero : Under L R sz n (List.replicate (off sz n) 0) 0 := by
  refine ⟨List.length_replicate, fun a b h => ?_, fun k a b p hk => ?_⟩
  · exfalso
    unfold Bit at h
    have e : (List.replicate (off sz n) 0).getD a 0 = 0 := by
      simp [List.getD, List.getElem?_replicate]
      split <;> rfl
    rw [e] at h
    simp at h
  · cases p <;> omega
theorem Under.fst (w : Wv L R sz n) {T : List Nat} {r : Nat} (u : Under L R sz n T r) : ∀ e ∈ steps L R sz (n - 1), e.1 < T.length := fun e he => by
  rw [u.len]
  exact (step_lt w (a := e.1) (b := e.2) he).1
theorem Under.lap (w : Wv L R sz n) {T : List Nat} {r : Nat} (u : Under L R sz n T r) : Under L R sz n (lap (steps L R sz (n - 1)) T) (r + 1) :=
  ⟨(lap_len _ _).trans u.len, lap_sound _ (fun _ h => h) (u.fst w) u.snd, u.upto.lap (u.fst w)⟩
theorem Under.done (w : Wv L R sz n) {T : List Nat} {r : Nat} (u : Under L R sz n T r) (h : off sz n ≤ r + 1) : Tells L R sz n T :=
  ⟨u.len, fun x y hx hy => ⟨fun b => A_rch w hx hy (u.snd _ _ b), fun a => by
    obtain ⟨k, p⟩ := rch_A w a hx hy
    have z := path_bound w p
    exact u.upto k _ _ p (by omega)⟩⟩
theorem Under.still (w : Wv L R sz n) {T : List Nat} {r : Nat} (u : Under L R sz n T r) (h : ∀ a b c, (a, b) ∈ steps L R sz (n - 1) → c = b ∨ Bit T b c → Bit T a c) : Tells L R sz n T :=
  ⟨u.len, fun x y hx hy => ⟨fun b => A_rch w hx hy (u.snd _ _ b), fun a => still_all (u.fst w) h (rch_A w a hx hy)⟩⟩
end
end Tl

namespace Dk
open PySem PySem.Spec PyProof.Rows L2
/-! ### what never runs -/
def tNv : TE := fun _ _ _ => False
theorem pe_never {X : Cx} {e : Expr} : PE X e tNv := ⟨fun _ _ _ _ _ _ h => h.elim⟩
/-! ### keywords alone -/
section
variable {X : Cx} {CX : CXT} {k : Nat} {f : Addr} {fd : FuncData} {ps ks : List Str} {sp : Sp} {E : XK} {x : Str} {p pos : Pos} {kws : List Keyword} {tk : TA} {g : List Value → List Value → List Value} {gV : List V → List V → List V}
def tCallK0 (sp : Sp) (gV : List V → List V → List V) (E : XK) (tk : TA) : TE := fun σ H Q => tk σ H fun zs H2 => sp (gV [] zs) H2 Q E
theorem pe_callK0 (F : FnOk X.prog X.w X.K X.mg X.base CX k f fd ps sp) (hr : Room k X.A) (hg : Gl X x) (hm : X.mg x = some (.ref f)) (hk : PySem.W.keepIn X.K (.ref f) = true) (hb : KBinds X.K fd ps ks g gV) (hx : Passes CX X E)
    (hkw : PK X kws tk) (hall : (backToKw pos (keywordEach kws X.env)).all (·.1.isSome) = true := by rfl) (hks : (backToKw pos (keywordEach kws X.env)).filterMap (·.1) = ks := by rfl)
    (hdb : (x == ("__debug__" : Str)) = false := by decide)
    (hpl : ((backTo pos (starEach [] X.env)).any (·.1) || (backToKw pos (keywordEach kws X.env)).any (·.1.isNone)) = false := by rfl) :
    PE X (.Call (.Name x p) [] kws pos) (tCallK0 sp gV E tk) := by
  refine ⟨fun pins s σ H Q I h => ?_⟩
  refine wpAny_Call_Name_kw (ld_glob I hg hm ?_ hdb)
  refine PySem.W.callWith_KW0 (h₀ := X.base) I.ok.mod.kin hk hall (thn (hkw.run pos pins s σ H _ I h) fun ws s2 ⟨zs, H2, I2, rz, q2⟩ => ⟨I2.kIn, ?_⟩) hpl
  rw [hks]
  exact run_fnk (us := []) (vs := []) F hr hb hx I2 .nil rz q2
theorem r_callK0 {σ : L2.St} {H : Hp} {Q : VK} (h : tk σ H fun zs H2 => sp (gV [] zs) H2 Q E) : tCallK0 sp gV E tk σ H Q := h
end
/-- three values put in another order -/
def p201 {α : Type} : List α → List α → List α
  | [], [a, b, c] => [b, c, a]
  | _, _ => []
def p210 {α : Type} : List α → List α → List α
  | [], [a, b, c] => [c, b, a]
  | _, _ => []
def p120 {α : Type} : List α → List α → List α
  | [], [a, b, c] => [c, a, b]
  | _, _ => []
theorem p201_rel {vs zs : List V} {us ws : List Value} (r : Vals vs us) (q : Vals zs ws) : Vals (p201 vs zs) (p201 us ws) := by
  cases r with
  | cons => exact .nil
  | nil => rcases q with _ | ⟨a, _ | ⟨b, _ | ⟨c, _ | _⟩⟩⟩
           · exact .nil
           · exact .nil
           · exact .nil
           · exact .cons b (.cons c (.cons a .nil))
           · exact .nil
theorem p210_rel {vs zs : List V} {us ws : List Value} (r : Vals vs us) (q : Vals zs ws) : Vals (p210 vs zs) (p210 us ws) := by
  cases r with
  | cons => exact .nil
  | nil => rcases q with _ | ⟨a, _ | ⟨b, _ | ⟨c, _ | _⟩⟩⟩
           · exact .nil
           · exact .nil
           · exact .nil
           · exact .cons c (.cons b (.cons a .nil))
           · exact .nil
theorem p120_rel {vs zs : List V} {us ws : List Value} (r : Vals vs us) (q : Vals zs ws) : Vals (p120 vs zs) (p120 us ws) := by
  cases r with
  | cons => exact .nil
  | nil => rcases q with _ | ⟨a, _ | ⟨b, _ | ⟨c, _ | _⟩⟩⟩
           · exact .nil
           · exact .nil
           · exact .nil
           · exact .cons c (.cons a (.cons b .nil))
           · exact .nil
def rAbs : List V → Hp → VK → Prop := fun xs H Q => ∃ i, xs = [.int i] ∧ Q (.int (if i < 0 then -i else i)) H
theorem call_absU {X : Cx} : CallR X (.builtin "abs") rAbs := call_abs
/-! ### steps -/
section
variable {K : PySem.W.Frag} {σ : L2.St} {H H' : Hp} {Q : VK} {v x y : V} {i j : Int}
theorem r_bool {b : Bool} (q : Q (.int (if b then 1 else 0)) H) : rInt1 [.bl b] H Q := .inr ⟨b, rfl, q⟩
theorem r_abs (q : Q (.int (i.natAbs : Nat)) H) : rAbs [.int i] H Q := ⟨i, rfl, by
  have e : (if i < 0 then -i else i) = (i.natAbs : Int) := by split <;> omega
  rw [e]
  exact q⟩
theorem r_catT {p q : Addr} {xs ys : List V} (hp : SqT K H p xs) (hq : SqT K H q ys) (nx : xs ≠ []) (ny : ys ≠ []) (hz : xs.length + ys.length ≤ 1000) (k : ∀ l, H l = none → Q (.ref l) (upd H l (.tup (xs ++ ys)))) : rAddU K (.ref p) (.ref q) H Q :=
  .inr (.inr (.inr ⟨p, q, xs, ys, rfl, rfl, hp, hq, by rw [sizeLine_eq]; omega, fun z => absurd z nx, fun _ z => absurd z ny, fun _ _ => k⟩))
theorem r_pop0 {p : Addr} {xs : List V} (h : H p = some (.lst (x :: xs))) (q : Q x (upd H p (.lst xs))) : rPopAt (.ref p) [.int 0] H Q :=
  ⟨p, x :: xs, 0, 0, x, rfl, rfl, h, by decide, by decide, by
    show (if _ then _ else _) = _
    simp, rfl, q⟩
theorem r_isiT2 {a n m : String} {b c : Bool} {tp : Addr} (hT : H tp = some (.tup [.ty n, .ty m])) (ty : TyX K H x (.type a)) (e1 : kitB a n = some b) (e2 : kitB a m = some c) (q : Q (.bl (b || c)) H) : rIsiT K [x, .ref tp] H Q := by
  refine ⟨x, tp, [.ty n, .ty m], .type a, [.type n, .type m], b || c, rfl, hT, .cons (.ty n) (.cons (.ty m) .nil), ty, ?_, q⟩
  refine kitAny_cons (kit_ty e1) (r := b || c) (fun hb => ?_) (fun hb => by rw [hb]; rfl)
  subst hb
  refine kitAny_cons (kit_ty e2) (fun hc => ?_) (fun hc => by rw [hc]; rfl)
  subst hc
  exact kitAny_nil
end
theorem r_eqP {x y : V} {H : Hp} {Q : VK} (h : scal x y = true) (q : Q (.bl (decide (x = y))) H) : rEq x y H Q := ⟨h, q⟩
theorem r_gunl {K : PySem.W.Frag} {σ : L2.St} {H : Hp} {N : L2.St → Hp → Prop} {vs : List V} {u : TGs} {n : Nat} {a : Addr} (h : SqL K H a vs) (hl : vs.length = n) (k : u vs σ H N) : gUnl K n u (.ref a) σ H N := ⟨a, vs, rfl, h, hl, k⟩
theorem r_slT {K : PySem.W.Frag} {H : Hp} {Q : VK} {p : Addr} {xs : List V} {n : Nat} (h : SqT K H p xs) (k1 : xs.length ≤ n → Q (.ref p) H) (k2 : ∀ l, H l = none → Q (.ref l) (upd H l (.tup (xs.take n)))) : rSlU K (.ref p) none (some (n : Int)) H Q := by
  refine .inr (.inr ⟨p, xs, rfl, h, fun z => k1 ?_, fun _ l hl => ?_⟩)
  · have e := z.2
    rw [HT.sIx_nat] at e
    omega
  · rw [cutV_to]
    exact k2 l hl
theorem cutV_from (xs : List V) (n : Nat) : cutV xs (some (n : Int)) none = xs.drop n := by
  unfold cutV
  rw [HT.sIx_nat, HT.sIx_none]
  by_cases h : n ≤ xs.length
  · rw [Nat.min_eq_left h, List.take_of_length_le (by rw [List.length_drop]; omega)]
  · rw [Nat.min_eq_right (by omega), Nat.sub_self, List.take_zero, List.drop_eq_nil_of_le (by omega)]
theorem r_break {σ : L2.St} {H : Hp} {D : Ends} (q : D.bk σ H) : tBreak D σ H := q
theorem r_yes {σ : L2.St} {H : Hp} {QB : Bool → Hp → Prop} (q : QB true H) : tYes σ H QB := q
theorem _root_.L2.Room.units65 {k : Nat} {A : Around} (r : L2.Room k A) : A.units + 65 < cLine := by
  have := r.un
  omega
theorem r_lcRo {ta : TA} {g : TG} {tt : TT} {te : TE} {vs : List Nat} {σ : L2.St} {H : Hp} {Q : VK} (h : ta σ H fun us H1 => ∃ j : Int, us = [.int j] ∧ -(2 ^ 62) ≤ j ∧ j < 2 ^ 62 ∧ ∀ D, H1 D = none → ∃ W : Nat → Nat → Hp → Prop, (∃ m, W 0 m (upd H1 D (.lst []))) ∧ ∀ i m H, W i m H →
  ((Itr 0 j.toNat).stop i H ∧ Q (.ref D) H) ∨ ((Itr 0 j.toNat).go i H ∧ ∃ Nx : Hp → Prop, (∀ H', Nx H' → ∃ m', m' < m ∧ W (i + 1) m' H') ∧ ∀ x H', (Itr 0 j.toNat).yld i H x H' → g x (wipe σ vs) H' fun σ2 H2 => wipe σ2 vs = wipe σ vs ∧ tt σ2 H2 fun b H3 =>
    if b = true then te σ2 H3 fun y H4 => ∃ acc, H4 D = some (.lst acc) ∧ acc.length < sizeLine ∧ Nx (upd H4 D (.lst (acc ++ [y]))) else Nx H3)) : tLc (iRng1 ta) g tt te vs σ H Q := h
/-- [.. for x in range(n)] -/
theorem l_lcR {n : Int} {g : TG} {tt : TT} {te : TE} {vs : List Nat} {σ : L2.St} {H1 : Hp} {Qd : Addr → Hp → Prop} (n0 : -1000000 ≤ n) (n1 : n ≤ 1000000) (Pv : Addr → Nat → Hp → Prop) (h0 : ∀ D, H1 D = none → Pv D 0 (upd H1 D (.lst [])))
    (hs : ∀ D (i : Nat) H, H1 D = none → (i : Int) < n → Pv D i H → g (.int (i : Nat)) (wipe σ vs) H fun σ2 H2 => wipe σ2 vs = wipe σ vs ∧ tt σ2 H2 fun b H3 =>
      if b = true then te σ2 H3 fun y H4 => ∃ acc, H4 D = some (.lst acc) ∧ acc.length < sizeLine ∧ Pv D (i + 1) (upd H4 D (.lst (acc ++ [y]))) else Pv D (i + 1) H3) (hd : ∀ D H, H1 D = none → Pv D n.toNat H → Qd D H) :
    ∃ j : Int, [V.int n] = [.int j] ∧ -(2 ^ 62) ≤ j ∧ j < 2 ^ 62 ∧ ∀ D, H1 D = none → ∃ W : Nat → Nat → Hp → Prop, (∃ m, W 0 m (upd H1 D (.lst []))) ∧ ∀ i m H, W i m H →
  ((Itr 0 j.toNat).stop i H ∧ Qd D H) ∨ ((Itr 0 j.toNat).go i H ∧ ∃ Nx : Hp → Prop, (∀ H', Nx H' → ∃ m', m' < m ∧ W (i + 1) m' H') ∧ ∀ x H', (Itr 0 j.toNat).yld i H x H' → g x (wipe σ vs) H' fun σ2 H2 => wipe σ2 vs = wipe σ vs ∧ tt σ2 H2 fun b H3 =>
    if b = true then te σ2 H3 fun y H4 => ∃ acc, H4 D = some (.lst acc) ∧ acc.length < sizeLine ∧ Nx (upd H4 D (.lst (acc ++ [y]))) else Nx H3) := by
  refine ⟨n, rfl, by omega, by omega, fun D hD => lc_range (lo := 0) (Pv D) (h0 D hD) (fun i H hi p => ?_) fun H p => hd D H hD p⟩
  have z := hs D i H hD (by omega) p
  rw [Int.zero_add]
  exact z
/-- for c in range(1, n) -/
theorem l_R1n {n : Nat} {g : TG} {tb : TS} {σ : L2.St} {H : Hp} {D : Ends} (h1 : 1 ≤ n) (h2 : n ≤ 1000000) (Pv : Nat → L2.St → Hp → Prop) (p0 : Pv 1 σ H)
    (ht : ∀ (c : Nat) σ H, 1 ≤ c → c < n → Pv c σ H → g (.int (c : Nat)) σ H fun σ2 H2 => tb { D with nx := Pv (c + 1), ct := Pv (c + 1), bk := D.nx } σ2 H2) (hd : ∀ σ H, Pv n σ H → D.nx σ H) :
    ∃ i j : Int, [V.int 1, V.int (n : Nat)] = [.int i, .int j] ∧ (-(2 ^ 62) ≤ i ∧ i < 2 ^ 62 ∧ -(2 ^ 62) ≤ j ∧ j < 2 ^ 62) ∧ LoopW (Itr i (j - i).toNat) g tb D σ H := by
  refine ⟨1, n, rfl, ⟨by omega, by omega, by omega, by omega⟩, for_range (fun i => Pv (i + 1)) p0 (fun i σ H hi p => ?_) fun σ H p => hd σ H ?_⟩
  · have z := ht (i + 1) σ H (by omega) (by omega) p
    rw [show (1 : Int) + (i : Nat) = ((i + 1 : Nat) : Int) by omega]
    exact z
  · have e : ((n : Int) - 1).toNat + 1 = n := by omega
    rw [e] at p
    exact p
theorem r_lcLo {K : PySem.W.Frag} {tl : TE} {g : TG} {tt : TT} {te : TE} {vs : List Nat} {σ : L2.St} {H : Hp} {Q : VK} (h : tl σ H fun x H1 => ∃ a, x = .ref a ∧ (∃ xs, SqL K H1 a xs) ∧ ∀ D, H1 D = none → ∃ W : Nat → Nat → Hp → Prop, (∃ m, W 0 m (upd H1 D (.lst []))) ∧ ∀ i m H, W i m H →
  ((Itl K a).stop i H ∧ Q (.ref D) H) ∨ ((Itl K a).go i H ∧ ∃ Nx : Hp → Prop, (∀ H', Nx H' → ∃ m', m' < m ∧ W (i + 1) m' H') ∧ ∀ x H', (Itl K a).yld i H x H' → g x (wipe σ vs) H' fun σ2 H2 => wipe σ2 vs = wipe σ vs ∧ tt σ2 H2 fun b H3 =>
    if b = true then te σ2 H3 fun y H4 => ∃ acc, H4 D = some (.lst acc) ∧ acc.length < sizeLine ∧ Nx (upd H4 D (.lst (acc ++ [y]))) else Nx H3)) : tLc (iList K tl) g tt te vs σ H Q := h
theorem l_lcL {K : PySem.W.Frag} {a : Addr} {xs : List V} {g : TG} {tt : TT} {te : TE} {vs : List Nat} {σ : L2.St} {H1 : Hp} {Qd : Addr → Hp → Prop} (hs0 : SqL K H1 a xs) (Pv : Addr → Nat → Hp → Prop) (h0 : ∀ D, H1 D = none → Pv D 0 (upd H1 D (.lst []))) (hl : ∀ D i H, Pv D i H → SqL K H a xs)
    (hs : ∀ D (i : Nat) x H, H1 D = none → xs[i]? = some x → Pv D i H → g x (wipe σ vs) H fun σ2 H2 => wipe σ2 vs = wipe σ vs ∧ tt σ2 H2 fun b H3 =>
      if b = true then te σ2 H3 fun y H4 => ∃ acc, H4 D = some (.lst acc) ∧ acc.length < sizeLine ∧ Pv D (i + 1) (upd H4 D (.lst (acc ++ [y]))) else Pv D (i + 1) H3) (hd : ∀ D H, H1 D = none → Pv D xs.length H → Qd D H) :
    ∃ b, V.ref a = .ref b ∧ (∃ xs, SqL K H1 b xs) ∧ ∀ D, H1 D = none → ∃ W : Nat → Nat → Hp → Prop, (∃ m, W 0 m (upd H1 D (.lst []))) ∧ ∀ i m H, W i m H →
  ((Itl K b).stop i H ∧ Qd D H) ∨ ((Itl K b).go i H ∧ ∃ Nx : Hp → Prop, (∀ H', Nx H' → ∃ m', m' < m ∧ W (i + 1) m' H') ∧ ∀ x H', (Itl K b).yld i H x H' → g x (wipe σ vs) H' fun σ2 H2 => wipe σ2 vs = wipe σ vs ∧ tt σ2 H2 fun b H3 =>
    if b = true then te σ2 H3 fun y H4 => ∃ acc, H4 D = some (.lst acc) ∧ acc.length < sizeLine ∧ Nx (upd H4 D (.lst (acc ++ [y]))) else Nx H3) :=
  ⟨a, rfl, ⟨xs, hs0⟩, fun D hD => lc_list (Pv D) (h0 D hD) (fun i H _ p => hl D i H p) (fun i x H hx p => hs D i x H hD hx p) fun H p => hd D H hD p⟩
/-- a test whose outcome does not matter -/
theorem any_test {tt : TT} {σ : L2.St} {H : Hp} {QB : Bool → Hp → Prop} {S : Bool → Hp → Prop} (h : ∀ QB : Bool → Hp → Prop, (∀ c H1, S c H1 → QB c H1) → tt σ H QB) (k : ∀ c H1, S c H1 → QB c H1) : tt σ H QB := h QB k
theorem any_val {te : TE} {σ : L2.St} {H : Hp} {Q : VK} {S : V → Hp → Prop} (h : ∀ Q : VK, (∀ v H1, S v H1 → Q v H1) → te σ H Q) (k : ∀ v H1, S v H1 → Q v H1) : te σ H Q := h Q k
/-! ### bits -/
theorem or_val (x b y : Nat) : Builtin.bitOr (Builtin.bitOr (x : Int) (1 * 2 ^ ((b : Int)).toNat)) (y : Int) = ((x ||| 1 <<< b ||| y : Nat) : Int) := by
  have e : (1 * 2 ^ ((b : Int)).toNat : Int) = ((1 <<< b : Nat) : Int) := by
    rw [Int.toNat_natCast, Nat.one_shiftLeft]
    push_cast
    omega
  have e1 : Builtin.bitOr (x : Int) ((1 <<< b : Nat) : Int) = ((x ||| 1 <<< b : Nat) : Int) := by
    rw [Bits.bitOr_pp (Int.natCast_nonneg _) (Int.natCast_nonneg _), Int.toNat_natCast, Int.toNat_natCast]
  rw [e, e1, Bits.bitOr_pp (Int.natCast_nonneg _) (Int.natCast_nonneg _), Int.toNat_natCast, Int.toNat_natCast]
theorem bit_val (x k : Nat) : decide (V.int (Builtin.bitAnd ((x : Int) / 2 ^ ((k : Int)).toNat) 1) = V.int 1) = x.testBit k := by
  have e : Builtin.bitAnd ((x : Int) / 2 ^ ((k : Int)).toNat) 1 = (x : Int) / 2 ^ k % 2 := by
    have z := Bits.bit_at (x := (x : Int)) k
    have hp : (0 : Int) ≤ 2 ^ k := Int.pow_nonneg (by decide)
    rw [Int.fdiv_eq_ediv_of_nonneg _ hp] at z
    rw [Int.toNat_natCast]
    exact z
  rw [e, Bool.eq_iff_iff, decide_eq_true_iff, Nat.testBit_eq_decide_div_mod_eq, decide_eq_true_iff]
  have e2 : (x : Int) / 2 ^ k % 2 = ((x / 2 ^ k % 2 : Nat) : Int) := by push_cast; rfl
  rw [e2]
  constructor
  · intro h
    have := V.int.inj h
    omega
  · intro h
    rw [h]
    rfl
/-! ### the box of the draws: a number and a list of heaps -/
def M31 : Int := 2147483629
structure Bx (H : Hp) (b h : Addr) : Prop where
  ne : b ≠ h
  ex : ∃ (z : Int) (ns : List Int), H b = some (.lst [.int z, .ref h]) ∧ 0 ≤ z ∧ z < M31 ∧ H h = some (.lst (ns.map V.int)) ∧ ns.length ≤ 63
structure Dr2 (b h : Addr) (H H' : Hp) : Prop where
  hh : ∀ x o, x ≠ b → x ≠ h → H x = some o → H' x = some o
  st : Bx H' b h
abbrev A2 (b h : Addr) : Addr → Prop := fun x => x = b ∨ x = h
structure W2 (b h : Addr) (G H : Hp) : Prop where
  g : Ex G H
  nb : G b = none
  nh : G h = none
  st : Bx H b h
section
variable {A : Addr → Prop} {b h p : Addr} {G H G1 H1 H2 : Hp} {o : HO}
theorem Bx.gb (s : Bx H b h) : ∃ o, H b = some o := by
  obtain ⟨_, z, ns, h1, _⟩ := s
  exact ⟨_, h1⟩
theorem Bx.gh (s : Bx H b h) : ∃ o, H h = some o := by
  obtain ⟨_, z, ns, _, _, _, h1, _⟩ := s
  exact ⟨_, h1⟩
theorem Bx.up (s : Bx H b h) (e : Ex H H1) : Bx H1 b h := by
  obtain ⟨n, z, ns, h1, h2, h3, h4, h5⟩ := s
  exact ⟨n, z, ns, e _ _ h1, h2, h3, e _ _ h4, h5⟩
theorem Bx.nb (s : Bx H b h) (hp : H p = none) : p ≠ b := fun z => by
  obtain ⟨o, e⟩ := s.gb
  rw [← z, hp] at e
  cases e
theorem Bx.nh (s : Bx H b h) (hp : H p = none) : p ≠ h := fun z => by
  obtain ⟨o, e⟩ := s.gh
  rw [← z, hp] at e
  cases e
theorem Bx.put (s : Bx H b h) (h1 : p ≠ b) (h2 : p ≠ h) : Bx (upd H p o) b h := by
  obtain ⟨n, z, ns, e1, e2, e3, e4, e5⟩ := s
  exact ⟨n, z, ns, by rw [upd_ne (Ne.symm h1)]; exact e1, e2, e3, by rw [upd_ne (Ne.symm h2)]; exact e4, e5⟩
theorem Bx.na (s : Bx H b h) (hp : H p = none) : ¬ A2 b h p := fun z => z.elim (s.nb hp) (s.nh hp)
theorem Dr2.refl (s : Bx H b h) : Dr2 b h H H := ⟨fun _ _ _ _ e => e, s⟩
theorem Dr2.trans (x : Dr2 b h H H1) (y : Dr2 b h H1 H2) : Dr2 b h H H2 := ⟨fun u o n m e => y.hh u o n m (x.hh u o n m e), y.st⟩
theorem Dr2.ex (s : Bx H b h) (e : Ex H H1) : Dr2 b h H H1 := ⟨fun u o _ _ q => e u o q, s.up e⟩
theorem Dr2.then (x : Dr2 b h H H1) (e : Ex H1 H2) : Dr2 b h H H2 := x.trans (.ex x.st e)
theorem Dr2.new (x : Dr2 b h H H1) (hp : H1 p = none) : Dr2 b h H (upd H1 p o) := x.then (Same.new (Same.refl H1) hp)
theorem Dr2.mut (x : Dr2 b h H H1) (hp : H p = none) (h1 : p ≠ b) (h2 : p ≠ h) : Dr2 b h H (upd H1 p o) :=
  ⟨fun u q n m e => by rw [upd_ne (ne_of_none e hp)]; exact x.hh u q n m e, x.st.put h1 h2⟩
theorem Dr2.fresh (x : Dr2 b h H H1) (hp : H1 p = none) : H p = none := by
  cases e : H p with
  | none => rfl
  | some o =>
    rw [x.hh p o (x.st.nb hp) (x.st.nh hp) e] at hp
    cases hp
theorem Dr2.gr (g : Ex G H) (nb : G b = none) (nh : G h = none) (s : Bx H b h) (d : Dr2 b h H H1) : Gr (A2 b h) G H G H1 where
  gg := Same.refl G
  gh := fun u x e => d.hh u x (ne_of_none e nb) (ne_of_none e nh) (g u x e)
  hh := fun u x z e => d.hh u x (fun q => z (.inl q)) (fun q => z (.inr q)) e
  th := fun u x e => by
    by_cases h1 : u = b
    · rw [h1]
      exact d.st.gb
    by_cases h2 : u = h
    · rw [h2]
      exact d.st.gh
    exact ⟨x, d.hh u x h1 h2 e⟩
  nw := fun u x e z => z
theorem W2.nb1 (x : W2 b h G H) (t : Gr A G H G1 H1) : G1 b = none := by
  obtain ⟨o, e⟩ := x.st.gb
  exact t.nw b _ e x.nb
theorem W2.nh1 (x : W2 b h G H) (t : Gr A G H G1 H1) : G1 h = none := by
  obtain ⟨o, e⟩ := x.st.gh
  exact t.nw h _ e x.nh
theorem W2.step (x : W2 b h G H) (t : Gr (A2 b h) G H G1 H1) (s : Bx H1 b h) : W2 b h G1 H1 := ⟨t.gh, x.nb1 t, x.nh1 t, s⟩
theorem W2.pure (x : W2 b h G H) (t : Gr A0 G H G1 H1) : W2 b h G1 H1 := ⟨t.gh, x.nb1 t, x.nh1 t, x.st.up t.same⟩
theorem W2.ex (x : W2 b h G H) (e : Ex H H1) : W2 b h G H1 := ⟨x.g.trans e, x.nb, x.nh, x.st.up e⟩
theorem W2.gdr (x : W2 b h G H) (d : Dr2 b h H H1) : Gr (A2 b h) G H G H1 := Dr2.gr x.g x.nb x.nh x.st d
theorem W2.dr (x : W2 b h G H) (d : Dr2 b h H H1) : W2 b h G H1 := x.step (x.gdr d) d.st
end
def spPick : Sp := fun vs H Q _ => ∃ (b h : Addr) (n : Int), vs = [.ref b, .int n] ∧ Bx H b h ∧ 0 < n ∧ n ≤ 1000 ∧ ∀ (d : Int) H', 0 ≤ d → d < n → Dr2 b h H H' → Q (.int d) H'
def spDraws (K : PySem.W.Frag) : Sp := fun vs H Q _ => ∃ (s : Addr) (ns : List Int), vs = [.ref s] ∧ SqL K H s (ns.map V.int) ∧ ns.length ≤ 63 ∧ ∀ b h H', Ex H H' → H b = none → H h = none → Bx H' b h → Q (.ref b) H'
def spSay : Sp := fun vs H Q _ => ∃ (b h : Addr) (n : Int), vs = [.ref b, .int n] ∧ Bx H b h ∧ 0 < n ∧ n ≤ 100 ∧ ∀ (t : Str) H', 0 < t.length → (t.length : Int) ≤ n → Dr2 b h H H' → Q (.str t) H'
theorem nat31 {z : Int} (h0 : 0 ≤ z) (h : z < M31) : z.natAbs < 2 ^ 31 := by
  unfold M31 at h
  have e : (2 : Nat) ^ 31 = 2147483648 := by decide
  omega
theorem mix31 (e : Int) : 0 ≤ e % M31 ∧ e % M31 < M31 := ⟨Int.emod_nonneg _ (by decide), Int.emod_lt_of_pos _ (by decide)⟩
/-! ### signs -/
def Tk (H H' : Hp) : Prop := ∀ p xs, H p = some (.tup xs) → H' p = some (.tup xs)
/-- a tuple, of the heap or of the written part -/
def KT (K : PySem.W.Frag) (a : Addr) (xs : List V) : Prop := ∃ (o : Obj) (its : Array Value) (n : Nat), K.lookup a = some o ∧ o.cls = .type "tuple" ∧ o.data = .seq its n ∧ its.size ≤ sizeLine ∧ Vals xs its.toList
def Tu (K : PySem.W.Frag) (H : Hp) (a : Addr) (xs : List V) : Prop := H a = some (.tup xs) ∨ KT K a xs
theorem Tu.sq {K : PySem.W.Frag} {H : Hp} {a : Addr} {xs : List V} (h : Tu K H a xs) : SqT K H a xs := h.elim (fun z => sqT z) fun z => .inr z
theorem Tu.tk {K : PySem.W.Frag} {H H' : Hp} {a : Addr} {xs : List V} (t : Tk H H') (h : Tu K H a xs) : Tu K H' a xs := h.imp (fun z => t _ _ z) id
theorem Tu.up {K : PySem.W.Frag} {H H' : Hp} {a : Addr} {xs : List V} (e : Ex H H') (h : Tu K H a xs) : Tu K H' a xs := h.imp (fun z => e _ _ z) id
/-- a sign's two numbers; only signs of the border may be of the written part -/
def Ts (K : PySem.W.Frag) (H : Hp) (a : Addr) (x : Tl.Sg) : Prop := H a = some (.tup [.int (x.1 : Nat), .int (x.2 : Nat)]) ∨ (x.1 = 0 ∧ KT K a [.int (x.1 : Nat), .int (x.2 : Nat)])
theorem Ts.sq {K : PySem.W.Frag} {H : Hp} {a : Addr} {x : Tl.Sg} (h : Ts K H a x) : SqT K H a [.int (x.1 : Nat), .int (x.2 : Nat)] := h.elim (fun z => sqT z) fun z => .inr z.2
theorem Ts.tu {K : PySem.W.Frag} {H : Hp} {a : Addr} {x : Tl.Sg} (h : Ts K H a x) : Tu K H a [.int (x.1 : Nat), .int (x.2 : Nat)] := h.elim (fun z => .inl z) fun z => .inr z.2
theorem Ts.tk {K : PySem.W.Frag} {H H' : Hp} {a : Addr} {x : Tl.Sg} (t : Tk H H') (h : Ts K H a x) : Ts K H' a x := h.imp (fun z => t _ _ z) id
theorem Ts.up {K : PySem.W.Frag} {H H' : Hp} {a : Addr} {x : Tl.Sg} (e : Ex H H') (h : Ts K H a x) : Ts K H' a x := h.imp (fun z => e _ _ z) id
theorem Ts.own {K : PySem.W.Frag} {H : Hp} {a : Addr} {x : Tl.Sg} (h : Ts K H a x) (h0 : 0 < x.1) : H a = some (.tup [.int (x.1 : Nat), .int (x.2 : Nat)]) := h.elim id fun z => absurd z.1 (by omega)
def SgV (K : PySem.W.Frag) (G : Hp) (v : V) (x : Tl.Sg) : Prop := ∃ p, v = .ref p ∧ Ts K G p x
theorem SgV.up {K : PySem.W.Frag} {G G' : Hp} {v : V} {x : Tl.Sg} (e : Ex G G') (h : SgV K G v x) : SgV K G' v x := h.imp fun _ z => ⟨z.1, z.2.up e⟩
abbrev sgD (x : Tl.Sg) : PyData := .tuple [.int (x.1 : Nat), .int (x.2 : Nat)]
theorem SgV.dp {K : PySem.W.Frag} {G : Hp} {v : V} {x : Tl.Sg} (h : SgV K G v x) : Dp K G v (sgD x) := by
  obtain ⟨p, rfl, hp⟩ := h
  exact .tup hp.sq (.cons (.int _) (.cons (.int _) .nil))
theorem sg_shaped (x : Tl.Sg) : SeqAt.shaped (sgD x) = true := by
  rfl
theorem sg_eqv (x y : Tl.Sg) : PyData.eqv (sgD x) (sgD y) = decide (x = y) := by
  obtain ⟨a, b⟩ := x
  obtain ⟨c, d⟩ := y
  show (PyData.eqv (.int a) (.int c) && (PyData.eqv (.int b) (.int d) && true)) = _
  show (((a : Int) == c) && (((b : Int) == d) && true)) = _
  rw [Bool.eq_iff_iff]
  simp
  omega
theorem r_eqSg {K : PySem.W.Frag} {H : Hp} {Q : VK} {v w : V} {x y : Tl.Sg} (h1 : SgV K H v x) (h2 : SgV K H w y) (q : Q (.bl (decide (x = y))) H) : rEqU K v w H Q :=
  .inr ⟨_, _, h1.dp, h2.dp, sg_shaped x, sg_shaped y, by rw [sg_eqv]; exact q⟩
/-! ### two lists side by side -/
inductive P2 {α β : Type} (R : α → β → Prop) : List α → List β → Prop where
  | nil : P2 R [] []
  | cons {a : α} {b : β} {l : List α} {m : List β} (h : R a b) (t : P2 R l m) : P2 R (a :: l) (b :: m)
section
variable {α β : Type} {R S : α → β → Prop} {l l' : List α} {m m' : List β}
theorem P2.len (h : P2 R l m) : l.length = m.length := by
  induction h with
  | nil => rfl
  | cons h t ih => rw [List.length_cons, List.length_cons, ih]
theorem P2.get (h : P2 R l m) : ∀ {i : Nat} {a : α}, l[i]? = some a → ∃ b, m[i]? = some b ∧ R a b := by
  induction h with
  | nil => intro i a e; simp at e
  | @cons a b l m h t ih =>
    intro i x e
    cases i with
    | zero => exact ⟨b, rfl, by simp at e; exact e ▸ h⟩
    | succ i =>
      simp at e
      simpa using ih e
theorem P2.get' (h : P2 R l m) : ∀ {i : Nat} {b : β}, m[i]? = some b → ∃ a, l[i]? = some a ∧ R a b := by
  induction h with
  | nil => intro i a e; simp at e
  | @cons a b l m h t ih =>
    intro i x e
    cases i with
    | zero => exact ⟨a, rfl, by simp at e; exact e ▸ h⟩
    | succ i =>
      simp at e
      simpa using ih e
theorem P2.imp (h : P2 R l m) (k : ∀ a b, R a b → S a b) : P2 S l m := by
  induction h with
  | nil => exact .nil
  | cons h t ih => exact .cons (k _ _ h) ih
theorem P2.app (h : P2 R l m) (h' : P2 R l' m') : P2 R (l ++ l') (m ++ m') := by
  induction h with
  | nil => exact h'
  | cons h t ih => exact .cons h ih
theorem P2.snoc {a : α} {b : β} (h : P2 R l m) (k : R a b) : P2 R (l ++ [a]) (m ++ [b]) := h.app (.cons k .nil)
theorem P2.take (h : P2 R l m) : ∀ n, P2 R (l.take n) (m.take n) := by
  induction h with
  | nil => intro n; simp; exact .nil
  | cons h t ih =>
    intro n
    cases n with
    | zero => exact .nil
    | succ n => exact .cons h (ih n)
theorem P2.drop (h : P2 R l m) : ∀ n, P2 R (l.drop n) (m.drop n) := by
  induction h with
  | nil => intro n; simp; exact .nil
  | cons h t ih =>
    intro n
    cases n with
    | zero => exact .cons h t
    | succ n => exact ih n
end
theorem P2.join {α β γ : Type} {R : α → γ → Prop} {S : β → γ → Prop} {U : α → β → Prop} {l : List α} {m : List β} {n : List γ} (h : P2 R l n) (k : ∀ a b c, R a c → S b c → U a b) (g : P2 S m n) : P2 U l m := by
  induction h generalizing m with
  | nil => cases g; exact .nil
  | cons h t ih => cases g with
    | cons h' t' => exact .cons (k _ _ _ h h') (ih t')
/-- a list of signs -/
abbrev SgL (K : PySem.W.Frag) (G : Hp) : List V → List Tl.Sg → Prop := P2 (SgV K G)
theorem SgL.up {K : PySem.W.Frag} {G G' : Hp} {l : List V} {m : List Tl.Sg} (e : Ex G G') (h : SgL K G l m) : SgL K G' l m := h.imp fun _ _ z => z.up e
theorem SgL.dps {K : PySem.W.Frag} {G : Hp} {l : List V} {m : List Tl.Sg} (h : SgL K G l m) : DpAll K G l (m.map sgD) := by
  induction h with
  | nil => exact .nil
  | cons h t ih => exact .cons h.dp ih
theorem sgs_shaped (m : List Tl.Sg) : SeqAt.shaped (.list (m.map sgD)) = true := by
  have key : PyData.canLayAll0 (m.map sgD) = true ∧ PyData.depthAll (m.map sgD) ≤ 2 := by
    induction m with
    | nil => exact ⟨rfl, by decide⟩
    | cons x r ih =>
      refine ⟨?_, ?_⟩
      · show ((sgD x).canLay0 && PyData.canLayAll0 (r.map sgD)) = true
        rw [ih.1]
        rfl
      · show max (sgD x).depth (PyData.depthAll (r.map sgD)) ≤ 2
        have e : (sgD x).depth ≤ 2 := by simp [sgD, PyData.depth, PyData.depthAll]
        omega
  show (PyData.canLayAll0 (m.map sgD) && decide (_ ≤ 64)) = true
  rw [key.1]
  have e : (PyData.list (m.map sgD)).depth = PyData.depthAll (m.map sgD) + 1 := by first | rfl | exact Nat.add_comm _ _
  show decide (_ ≤ 64) = true
  rw [decide_eq_true_iff, e]
  omega
/-- l.index(x), l a list of signs -/
theorem r_indexSg {K : PySem.W.Frag} {H : Hp} {Q : VK} {a : Addr} {xs : List V} {v : V} {m : List Tl.Sg} {x : Tl.Sg} {j : Nat} (hl : SqL K H a xs) (hm : SgL K H xs m) (hv : SgV K H v x) (hj : m[j]? = some x) (hno : ∀ i, i < j → m[i]? ≠ some x) (q : Q (.int (j : Nat)) H) :
    rIndexD K (.ref a) [v] H Q := by
  refine ⟨a, v, sgD x, m.map sgD, j, sgD x, rfl, rfl, .lst hl hm.dps, hv.dp, sgs_shaped m, sg_shaped x, by rw [List.getElem?_map, hj]; rfl, by rw [sg_eqv]; simp, fun i z hi hz => ?_, q⟩
  rw [List.getElem?_map] at hz
  obtain ⟨y, hy, rfl⟩ := Option.map_eq_some_iff.mp hz
  rw [sg_eqv]
  refine decide_eq_false fun e => hno i hi ?_
  rw [hy, e]
end Dk

/-! immutable data: kept as long as tuples are kept -/
namespace Dk
open PySem PySem.Spec PyProof.Rows L2
section
variable {H H' H1 H2 : Hp} {b h p l : Addr} {xs ys : List V} {o : HO}
theorem Tk.refl (H : Hp) : Tk H H := fun _ _ e => e
theorem Tk.trans (x : Tk H H1) (y : Tk H1 H2) : Tk H H2 := fun p xs e => y p xs (x p xs e)
theorem Tk.ex (e : Ex H H') : Tk H H' := fun p xs h => e _ _ h
theorem Tk.put (e : H l = some (.lst xs)) : Tk H (upd H l o) := fun p ys h => by
  have n : p ≠ l := fun z => by rw [z, e] at h; cases h
  rw [upd_ne n]
  exact h
theorem Tk.new (e : H p = none) : Tk H (upd H p o) := .ex (Same.new (Same.refl H) e)
theorem Bx.tk (s : Bx H b h) (d : Dr2 b h H H') : Tk H H' := fun p xs e => by
  obtain ⟨_, z, ns, h1, _, _, h2, _⟩ := s
  exact d.hh p _ (fun q => by rw [q, h1] at e; cases e) (fun q => by rw [q, h2] at e; cases e) e
end
/-- a relation between values and data that tuples alone bear -/
class Imm {α : Type} (R : Hp → V → α → Prop) : Prop where
  tk : ∀ {H H' : Hp} {v : V} {x : α}, Tk H H' → R H v x → R H' v x
theorem imm {α : Type} {R : Hp → V → α → Prop} [i : Imm R] {H H' : Hp} {v : V} {x : α} (t : Tk H H') (r : R H v x) : R H' v x := i.tk t r
def IntV (H : Hp) (v : V) (n : Nat) : Prop := v = .int (n : Nat)
def StrV (H : Hp) (v : V) (z : Str) : Prop := v = .str z
def PairV (K : PySem.W.Frag) {α β : Type} (R : Hp → V → α → Prop) (S : Hp → V → β → Prop) (H : Hp) (v : V) (x : α × β) : Prop := ∃ (p : Addr) (a b : V), v = .ref p ∧ Tu K H p [a, b] ∧ R H a x.1 ∧ S H b x.2
def TupV (K : PySem.W.Frag) {α : Type} (R : Hp → V → α → Prop) (H : Hp) (v : V) (l : List α) : Prop := ∃ (p : Addr) (xs : List V), v = .ref p ∧ Tu K H p xs ∧ P2 (R H) xs l
instance : Imm IntV := ⟨fun _ h => h⟩
instance : Imm StrV := ⟨fun _ h => h⟩
instance {K : PySem.W.Frag} : Imm (SgV K) := ⟨fun t h => h.imp fun p z => ⟨z.1, z.2.tk t⟩⟩
instance {K : PySem.W.Frag} {α β : Type} {R : Hp → V → α → Prop} {S : Hp → V → β → Prop} [Imm R] [Imm S] : Imm (PairV K R S) := ⟨fun t h => by
  obtain ⟨p, a, b, h1, h2, h3, h4⟩ := h
  exact ⟨p, a, b, h1, h2.tk t, imm t h3, imm t h4⟩⟩
theorem p2_imm {α : Type} {R : Hp → V → α → Prop} [Imm R] {H H' : Hp} {xs : List V} {l : List α} (t : Tk H H') (h : P2 (R H) xs l) : P2 (R H') xs l := h.imp fun _ _ z => imm t z
instance {K : PySem.W.Frag} {α : Type} {R : Hp → V → α → Prop} [Imm R] : Imm (TupV K R) := ⟨fun t h => by
  obtain ⟨p, xs, h1, h2, h3⟩ := h
  exact ⟨p, xs, h1, h2.tk t, p2_imm t h3⟩⟩
section
variable {α β : Type} {R : Hp → V → α → Prop} {S : Hp → V → β → Prop} {K : PySem.W.Frag} {σ : L2.St} {H H' : Hp} {Q : VK} {v u a b : V} {x : α} {y : β} {l m : List α} {xs : List V} {N : L2.St → Hp → Prop}
theorem TupV.ref (h : TupV K R H v l) : ∃ p xs, v = .ref p ∧ Tu K H p xs ∧ P2 (R H) xs l := h
theorem r_ixTV {i : Nat} (h : TupV K R H v l) (hx : l[i]? = some x) (q : ∀ u, R H u x → Q u H) : rIx K v (.int (i : Nat)) H Q := by
  obtain ⟨p, xs, rfl, hp, hl⟩ := h
  obtain ⟨u, hu, hr⟩ := hl.get' hx
  exact r_ixT hp.sq (atI_nat hu) (q u hr)
theorem r_ixTm (h : TupV K R H v (l ++ [x])) (q : ∀ u, R H u x → Q u H) : rIx K v (.int (-1)) H Q := by
  obtain ⟨p, xs, rfl, hp, hl⟩ := h
  have hlen := hl.len
  obtain ⟨u, hu, hr⟩ := hl.get' (i := l.length) (b := x) (by simp)
  rw [List.length_append, List.length_singleton] at hlen
  have e : xs = xs.dropLast ++ [u] := by
    have hne : xs ≠ [] := fun z => by rw [z] at hlen; simp at hlen
    have h1 := (List.dropLast_concat_getLast hne).symm
    have h2 : xs.getLast hne = u := by
      have h3 : xs[xs.length - 1]? = some (xs.getLast hne) := by rw [← List.getLast?_eq_getElem?]; exact List.getLast?_eq_some_getLast hne
      rw [hlen, Nat.add_sub_cancel, hu] at h3
      exact (Option.some.inj h3).symm
    rw [h2] at h1
    exact h1
  rw [e] at hp
  exact r_ixT hp.sq (atI_last _ _) (q u hr)
theorem r_ixP0 {z : α × β} (h : PairV K R S H v z) (q : ∀ u, R H u z.1 → Q u H) : rIx K v (.int 0) H Q := by
  obtain ⟨p, a, b, rfl, hp, ha, hb⟩ := h
  exact r_ixT hp.sq (atI_nat (j := 0) rfl) (q a ha)
theorem r_ixP1 {z : α × β} (h : PairV K R S H v z) (q : ∀ u, S H u z.2 → Q u H) : rIx K v (.int 1) H Q := by
  obtain ⟨p, a, b, rfl, hp, ha, hb⟩ := h
  exact r_ixT hp.sq (atI_nat (j := 1) rfl) (q b hb)
theorem r_ixS0 {z : Tl.Sg} (h : SgV K H v z) (q : Q (.int (z.1 : Nat)) H) : rIx K v (.int 0) H Q := by
  obtain ⟨p, rfl, hp⟩ := h
  exact r_ixT hp.sq (atI_nat (j := 0) rfl) q
theorem r_ixS1 {z : Tl.Sg} (h : SgV K H v z) (q : Q (.int (z.2 : Nat)) H) : rIx K v (.int 1) H Q := by
  obtain ⟨p, rfl, hp⟩ := h
  exact r_ixT hp.sq (atI_nat (j := 1) rfl) q
theorem r_lenTV (h : TupV K R H v l) (q : Q (.int (l.length : Nat)) H) : rLenU K [v] H Q := by
  obtain ⟨p, xs, rfl, hp, hl⟩ := h
  refine r_lenT hp.sq ?_
  rw [hl.len]
  exact q
theorem r_gP {t : TGs} {z : α × β} (h : PairV K R S H v z) (k : ∀ a b, R H a z.1 → S H b z.2 → t [a, b] σ H N) : gTup K 2 t v σ H N := by
  obtain ⟨p, a, b, rfl, hp, ha, hb⟩ := h
  exact r_gtup hp.sq rfl (k a b ha hb)
theorem r_mkP [Imm R] [Imm S] (ha : R H a x) (hb : S H b y) (q : ∀ p H', H p = none → Ex H H' → PairV K R S H' (.ref p) (x, y) → Q (.ref p) H') : [a, b].length ≤ sizeLine ∧ ∀ p, H p = none → Q (.ref p) (upd H p (.tup [a, b])) :=
  r_small nsz fun p hp => q p _ hp (Same.new (Same.refl H) hp) ⟨p, a, b, rfl, .inl upd_same, imm (.new hp) ha, imm (.new hp) hb⟩
theorem r_mkS {i j : Nat} (q : ∀ p H', H p = none → Ex H H' → SgV K H' (.ref p) (i, j) → Q (.ref p) H') : [V.int (i : Nat), V.int (j : Nat)].length ≤ sizeLine ∧ ∀ p, H p = none → Q (.ref p) (upd H p (.tup [V.int (i : Nat), V.int (j : Nat)])) :=
  r_small nsz fun p hp => q p _ hp (Same.new (Same.refl H) hp) ⟨p, rfl, .inl upd_same⟩
theorem r_mkT [Imm R] (h : P2 (R H) xs l) (hl : l.length ≤ 1000) (q : ∀ p H', H p = none → Ex H H' → TupV K R H' (.ref p) l → Q (.ref p) H') : xs.length ≤ sizeLine ∧ ∀ p, H p = none → Q (.ref p) (upd H p (.tup xs)) :=
  r_small (by rw [h.len]; exact hl) fun p hp => q p _ hp (Same.new (Same.refl H) hp) ⟨p, xs, rfl, .inl upd_same, p2_imm (.new hp) h⟩
theorem r_catTV [Imm R] (h1 : TupV K R H v l) (h2 : TupV K R H u m) (hz : l.length + m.length ≤ 1000) (q : ∀ w H', Ex H H' → TupV K R H' w (l ++ m) → Q w H') : rAddU K v u H Q := by
  obtain ⟨p, xs, rfl, hp, hl⟩ := h1
  obtain ⟨p2, ys, rfl, hp2, hm⟩ := h2
  refine .inr (.inr (.inr ⟨p, p2, xs, ys, rfl, rfl, hp.sq, hp2.sq, Nat.le_of_lt (small1000 (by rw [hl.len, hm.len]; exact hz)), fun z => ?_, fun _ z => ?_, fun _ _ p3 hp3 => ?_⟩))
  · subst z
    cases hl
    exact q _ H (Same.refl H) ⟨p2, ys, rfl, hp2, hm⟩
  · subst z
    cases hm
    rw [List.append_nil] at q
    exact q _ H (Same.refl H) ⟨p, xs, rfl, hp, hl⟩
  · exact q _ _ (Same.new (Same.refl H) hp3) ⟨p3, _, rfl, .inl upd_same, p2_imm (.new hp3) (hl.app hm)⟩
theorem P2.all {l' : List V} {m' : List α} {P : V → α → Prop} (h : P2 P l' m') (lo hi : Option Int) : P2 P (cutV l' lo hi) ((m'.drop (HT.sIx m'.length 0 lo)).take (HT.sIx m'.length m'.length hi - HT.sIx m'.length 0 lo)) := by
  unfold cutV
  rw [h.len]
  exact (h.drop _).take _
theorem r_slTV [Imm R] {lo hi : Option Int} (h : TupV K R H v l) (q : ∀ w H', Ex H H' → TupV K R H' w ((l.drop (HT.sIx l.length 0 lo)).take (HT.sIx l.length l.length hi - HT.sIx l.length 0 lo)) → Q w H') : rSlU K v lo hi H Q := by
  obtain ⟨p, xs, rfl, hp, hl⟩ := h
  refine .inr (.inr ⟨p, xs, rfl, hp.sq, fun z => ?_, fun _ p2 hp2 => ?_⟩)
  · have e : ((l.drop (HT.sIx l.length 0 lo)).take (HT.sIx l.length l.length hi - HT.sIx l.length 0 lo)) = l := by
      rw [hl.len] at z
      rw [z.1, z.2, List.drop_zero, Nat.sub_zero, List.take_length]
    rw [e] at q
    exact q _ H (Same.refl H) ⟨p, xs, rfl, hp, hl⟩
  · exact q _ _ (Same.new (Same.refl H) hp2) ⟨p2, _, rfl, .inl upd_same, p2_imm (.new hp2) (hl.all lo hi)⟩
theorem cut_to {l : List α} {k : Nat} : (l.drop (HT.sIx l.length 0 none)).take (HT.sIx l.length l.length (some (k : Int)) - HT.sIx l.length 0 none) = l.take k := by
  rw [HT.sIx_nat, HT.sIx_none, List.drop_zero, Nat.sub_zero]
  by_cases h : k ≤ l.length
  · rw [Nat.min_eq_left h]
  · rw [Nat.min_eq_right (by omega), List.take_length, List.take_of_length_le (by omega)]
theorem cut_from {l : List α} {k : Nat} : (l.drop (HT.sIx l.length 0 (some (k : Int)))).take (HT.sIx l.length l.length none - HT.sIx l.length 0 (some (k : Int))) = l.drop k := by
  rw [HT.sIx_nat, HT.sIx_none]
  by_cases h : k ≤ l.length
  · rw [Nat.min_eq_left h, List.take_of_length_le (by rw [List.length_drop]; omega)]
  · rw [Nat.min_eq_right (by omega), Nat.sub_self, List.take_zero, List.drop_eq_nil_of_le (by omega)]
theorem r_slTo [Imm R] {k : Nat} (h : TupV K R H v l) (q : ∀ w H', Ex H H' → TupV K R H' w (l.take k) → Q w H') : rSlU K v none (some (k : Int)) H Q := r_slTV h (by rw [cut_to]; exact q)
theorem r_slFrom [Imm R] {k : Nat} (h : TupV K R H v l) (q : ∀ w H', Ex H H' → TupV K R H' w (l.drop k) → Q w H') : rSlU K v (some (k : Int)) none H Q := r_slTV h (by rw [cut_from]; exact q)
/-- tuple(list) -/
theorem r_tupLV [Imm R] {p : Addr} (hp : H p = some (.lst xs)) (h : P2 (R H) xs l) (q : ∀ p H', H p = none → Ex H H' → TupV K R H' (.ref p) l → Q (.ref p) H') : rTupU K [.ref p] H Q :=
  r_tupL (sqL hp) fun p2 hp2 => q p2 _ hp2 (Same.new (Same.refl H) hp2) ⟨p2, xs, rfl, .inl upd_same, p2_imm (.new hp2) h⟩
/-- an item of a list -/
theorem r_ixLV {p : Addr} {i : Nat} (hp : H p = some (.lst xs)) (h : P2 (R H) xs l) (hx : l[i]? = some x) (q : ∀ u, R H u x → Q u H) : rIx K (.ref p) (.int (i : Nat)) H Q := by
  obtain ⟨u, hu, hr⟩ := h.get' hx
  exact r_ixL (sqL hp) (atI_nat hu) (q u hr)
theorem r_ixLm {p : Addr} (hp : H p = some (.lst xs)) (h : P2 (R H) xs (l ++ [x])) (q : ∀ u, R H u x → Q u H) : rIx K (.ref p) (.int (-1)) H Q := by
  have hlen := h.len
  obtain ⟨u, hu, hr⟩ := h.get' (i := l.length) (b := x) (by simp)
  rw [List.length_append, List.length_singleton] at hlen
  have e : xs = xs.dropLast ++ [u] := by
    have hne : xs ≠ [] := fun z => by rw [z] at hlen; simp at hlen
    have h1 := (List.dropLast_concat_getLast hne).symm
    have h2 : xs.getLast hne = u := by
      have h3 : xs[xs.length - 1]? = some (xs.getLast hne) := by rw [← List.getLast?_eq_getElem?]; exact List.getLast?_eq_some_getLast hne
      rw [hlen, Nat.add_sub_cancel, hu] at h3
      exact (Option.some.inj h3).symm
    rw [h2] at h1
    exact h1
  rw [e] at hp
  exact r_ixL (sqL hp) (atI_last _ _) (q u hr)
end
/-! equality of pairs of signs -/
abbrev SpV (K : PySem.W.Frag) := PairV K (SgV K) (SgV K)
abbrev spD (x : Tl.Sg × Tl.Sg) : PyData := .tuple [sgD x.1, sgD x.2]
theorem SpV.dp {K : PySem.W.Frag} {G : Hp} {v : V} {x : Tl.Sg × Tl.Sg} (h : SpV K G v x) : Dp K G v (spD x) := by
  obtain ⟨p, a, b, rfl, hp, ha, hb⟩ := h
  exact .tup hp.sq (.cons ha.dp (.cons hb.dp .nil))
theorem sp_shaped (x : Tl.Sg × Tl.Sg) : SeqAt.shaped (spD x) = true := by rfl
theorem sp_eqv (x y : Tl.Sg × Tl.Sg) : PyData.eqv (spD x) (spD y) = decide (x = y) := by
  obtain ⟨a, b⟩ := x
  obtain ⟨c, d⟩ := y
  show (PyData.eqv (sgD a) (sgD c) && (PyData.eqv (sgD b) (sgD d) && true)) = _
  rw [sg_eqv, sg_eqv, Bool.and_true, Bool.eq_iff_iff]
  simp
theorem r_eqSp {K : PySem.W.Frag} {H : Hp} {Q : VK} {v w : V} {x y : Tl.Sg × Tl.Sg} (h1 : SpV K H v x) (h2 : SpV K H w y) (q : Q (.bl (decide (x = y))) H) : rEqU K v w H Q :=
  .inr ⟨_, _, h1.dp, h2.dp, sp_shaped x, sp_shaped y, by rw [sp_eqv]; exact q⟩
theorem r_neSp {K : PySem.W.Frag} {H : Hp} {Q : VK} {v w : V} {x y : Tl.Sg × Tl.Sg} (h1 : SpV K H v x) (h2 : SpV K H w y) (q : Q (.bl (!decide (x = y))) H) : rNeU K v w H Q :=
  .inr ⟨_, _, h1.dp, h2.dp, sp_shaped x, sp_shaped y, by rw [sp_eqv]; exact q⟩
theorem sps_shaped (m : List (Tl.Sg × Tl.Sg)) : SeqAt.shaped (.list (m.map spD)) = true := by
  have key : PyData.canLayAll0 (m.map spD) = true ∧ PyData.depthAll (m.map spD) ≤ 3 := by
    induction m with
    | nil => exact ⟨rfl, by decide⟩
    | cons x r ih =>
      refine ⟨?_, ?_⟩
      · show ((spD x).canLay0 && PyData.canLayAll0 (r.map spD)) = true
        rw [ih.1]
        rfl
      · show max (spD x).depth (PyData.depthAll (r.map spD)) ≤ 3
        have e : (spD x).depth ≤ 3 := by simp [spD, sgD, PyData.depth, PyData.depthAll]
        omega
  show (PyData.canLayAll0 (m.map spD) && decide (_ ≤ 64)) = true
  rw [key.1]
  have e : (PyData.list (m.map spD)).depth = PyData.depthAll (m.map spD) + 1 := by first | rfl | exact Nat.add_comm _ _
  show decide (_ ≤ 64) = true
  rw [decide_eq_true_iff, e]
  omega
theorem sps_dps {K : PySem.W.Frag} {H : Hp} {xs : List V} {m : List (Tl.Sg × Tl.Sg)} (h : P2 (SpV K H) xs m) : DpAll K H xs (m.map spD) := by
  induction h with
  | nil => exact .nil
  | cons h t ih => exact .cons (SpV.dp h) ih
/-- pair not in a list of pairs -/
theorem r_niSp {K : PySem.W.Frag} {H : Hp} {Q : VK} {v : V} {p : Addr} {xs : List V} {x : Tl.Sg × Tl.Sg} {m : List (Tl.Sg × Tl.Sg)} (h1 : SpV K H v x) (hp : H p = some (.lst xs)) (h2 : P2 (SpV K H) xs m) (q : Q (.bl (!decide (x ∈ m))) H) : rNotInD K v (.ref p) H Q := by
  exact ⟨_, _, h1.dp, .lst (sqL hp) (sps_dps h2), sp_shaped x, sps_shaped m, by
    have e : ((m.map spD).any fun z => PyData.eqv z (spD x)) = decide (x ∈ m) := by
      rw [List.any_map, Bool.eq_iff_iff, List.any_eq_true, decide_eq_true_iff]
      constructor
      · rintro ⟨y, hy, e⟩
        rw [Function.comp_apply, sp_eqv, decide_eq_true_iff] at e
        rw [← e]
        exact hy
      · intro h
        exact ⟨x, h, by rw [Function.comp_apply, sp_eqv]; exact decide_eq_true rfl⟩
    rw [e]
    exact q⟩
end Dk

/-! rules of our own, further -/
namespace Dk
open PySem PySem.Spec PyProof.Rows L2
/-! text * number -/
def rRepS : R2 := fun x y H Q => ∃ (z : Str) (n : Nat), x = .str z ∧ y = .int (n : Nat) ∧ z.length ≤ 100 ∧ n ≤ 8000 ∧ Q (.str (Txt.mul z n)) H
theorem op_repS {X : Cx} : OpR X (binaryOp .Mult) rRepS := by
  intro pins s σ H x y v u Q I rx ry h
  obtain ⟨z, n, rfl, rfl, hz, hn, q⟩ := h
  obtain ⟨t, rfl⟩ := rx
  obtain ⟨t', rfl⟩ := ry
  refine SB.mul ⟨?_, fun h1 h2 => ?_, fun h1 h2 => ?_⟩ fun t' k => ⟨.str (Txt.mul z n), H, I.tok _, ⟨_, rfl⟩, q⟩
  · simp
    omega
  · have e : (z.length : Int) * n ≤ 2 ^ 63 - 1 := by
      have : (z.length : Int) * n ≤ 100 * 8000 := Int.mul_le_mul (by omega) (by omega) (by omega) (by omega)
      omega
    have p : (0 : Int) < n := by omega
    have := (Int.le_ediv_iff_mul_le p).mpr e
    omega
  · have e : z.length * n ≤ 100 * 8000 := Nat.mul_le_mul hz hn
    rw [Int.toNat_natCast]
    show decide (z.length * n > sizeLine) = false
    rw [decide_eq_false_iff_not, sizeLine_eq]
    omega
theorem r_repS {H : Hp} {Q : VK} {z : Str} {n : Nat} (hz : z.length ≤ 100) (hn : n ≤ 8000) (q : Q (.str (Txt.mul z n)) H) : rRepS (.str z) (.int (n : Nat)) H Q := ⟨z, n, rfl, rfl, hz, hn, q⟩
theorem cs_mul (z : Str) (n : Nat) : cs (Txt.mul z n) = (List.replicate n (cs z)).flatten := by
  unfold Txt.mul
  by_cases h1 : (n : Int) < 1
  · have e : n = 0 := by omega
    subst e
    rw [if_pos h1]
    rfl
  · rw [if_neg h1]
    by_cases h2 : ((n : Int) == 1 || z.length == 0) = true
    · rw [if_pos h2]
      rw [Bool.or_eq_true, beq_iff_eq, beq_iff_eq] at h2
      rcases h2 with h2 | h2
      · have e : n = 1 := by omega
        subst e
        simp
      · have e : cs z = [] := List.length_eq_zero_iff.mp (by rw [cs_len]; exact h2)
        rw [e]
        simp
    · rw [if_neg h2, Int.toNat_natCast]
      have key : ∀ (m : Nat) (a : Array Nat), ((List.replicate m z.cps).foldl (fun x y => x ++ y) a).toList = a.toList ++ (List.replicate m (cs z)).flatten := by
        intro m
        induction m with
        | zero => intro a; simp
        | succ m ih =>
          intro a
          rw [List.replicate_succ, List.foldl_cons, ih, List.replicate_succ, List.flatten_cons, Array.toList_append, List.append_assoc]
      have q := key n #[]
      simpa using q
theorem len_mul (z : Str) (n : Nat) : (Txt.mul z n).length = n * z.length := by
  rw [← cs_len, cs_mul, List.length_flatten, List.map_replicate, List.sum_replicate_nat, cs_len]
/-! reversed(a tuple) -/
theorem r_forRvo {K : PySem.W.Frag} {te : TE} {g : TG} {tb : TS} {D : Ends} {σ : L2.St} {H : Hp} (h : te σ H fun v H1 => ∃ (a : Addr) (xs : List V), v = .ref a ∧ ((SqL K H1 a xs ∧ LoopW (Itv K a xs.length) g tb D σ H1) ∨ (SqT K H1 a xs ∧ LoopW (RT.ItvT K a xs.length) g tb D σ H1))) : tFor (RT.iRevA K te) g tb D σ H := h
theorem r_mkSi {K : PySem.W.Frag} {H : Hp} {Q : VK} {a b : Int} {i j : Nat} (ea : a = (i : Nat)) (eb : b = (j : Nat)) (q : ∀ p H', H p = none → Ex H H' → SgV K H' (.ref p) (i, j) → Q (.ref p) H') : [V.int a, V.int b].length ≤ sizeLine ∧ ∀ p, H p = none → Q (.ref p) (upd H p (.tup [V.int a, V.int b])) := by
  subst ea eb
  exact r_mkS q
section
variable {α β : Type} {R : Hp → V → α → Prop} {S : Hp → V → β → Prop} {H : Hp} {p : Addr} {u v : V} {x : α} {y : β} {l : List α} {xs : List V}
theorem nP (K : PySem.W.Frag) [Imm R] [Imm S] (hp : H p = none) (ha : R H u x) (hb : S H v y) : ∃ H', H' = upd H p (.tup [u, v]) ∧ Ex H H' ∧ PairV K R S H' (.ref p) (x, y) :=
  ⟨_, rfl, Same.new (Same.refl H) hp, p, u, v, rfl, .inl upd_same, imm (.new hp) ha, imm (.new hp) hb⟩
theorem nS (K : PySem.W.Frag) {a b : Int} {i j : Nat} (hp : H p = none) (ea : a = (i : Nat)) (eb : b = (j : Nat)) : ∃ H', H' = upd H p (.tup [V.int a, V.int b]) ∧ Ex H H' ∧ SgV K H' (.ref p) (i, j) := by
  subst ea eb
  exact ⟨_, rfl, Same.new (Same.refl H) hp, p, rfl, .inl upd_same⟩
theorem nT (K : PySem.W.Frag) [Imm R] (hp : H p = none) (h : P2 (R H) xs l) : ∃ H', H' = upd H p (.tup xs) ∧ Ex H H' ∧ TupV K R H' (.ref p) l :=
  ⟨_, rfl, Same.new (Same.refl H) hp, p, xs, rfl, .inl upd_same, p2_imm (.new hp) h⟩
theorem nL (o : HO) (hp : H p = none) : ∃ H', H' = upd H p o ∧ Ex H H' ∧ H' p = some o := ⟨_, rfl, Same.new (Same.refl H) hp, upd_same⟩
end
/-! within a comprehension -/
theorem k_eqU {X : Cx} {K : PySem.W.Frag} (h : X.K = K) (hu : X.A.units + 64 < cLine) : OpR X (compareOp .Eq) (rEqU K) := h ▸ op_eqU hu
theorem k_neU {X : Cx} {K : PySem.W.Frag} (h : X.K = K) (hu : X.A.units + 64 < cLine) : OpR X (compareOp .NotEq) (rNeU K) := h ▸ op_neU hu
/-! ints in lists -/
section
variable {K : PySem.W.Frag} {H : Hp} {Q : VK} {p : Addr} {ns : List Int} {i : Int}
theorem flat_ints : (ns.map V.int).all flatV = true := by
  rw [List.all_map, List.all_eq_true]
  intro x _
  rfl
theorem inV_ints : inV (.int i) (ns.map V.int) = decide (i ∈ ns) := by
  unfold inV
  rw [List.any_map, Bool.eq_iff_iff, List.any_eq_true, decide_eq_true_iff]
  constructor
  · rintro ⟨y, hy, e⟩
    have z : y = i := by
      have := e
      simp [eqV] at this
      omega
    rw [← z]
    exact hy
  · intro h
    exact ⟨i, h, by simp [eqV]⟩
theorem r_inI (hp : SqL K H p (ns.map V.int)) (q : Q (.bl (decide (i ∈ ns))) H) : rInU K (.int i) (.ref p) H Q :=
  .inr ⟨p, _, rfl, .inl hp, rfl, flat_ints, by
    show Q (.bl (inV (.int i) (ns.map V.int))) H
    rw [inV_ints]
    exact q⟩
theorem dps_ints : DpAll K H (ns.map V.int) (ns.map PyData.int) := by
  induction ns with
  | nil => exact .nil
  | cons x r ih => exact .cons (.int _) ih
theorem ints_shaped : SeqAt.shaped (.list (ns.map PyData.int)) = true := by
  have key : PyData.canLayAll0 (ns.map PyData.int) = true ∧ PyData.depthAll (ns.map PyData.int) ≤ 2 := by
    induction ns with
    | nil => exact ⟨rfl, by decide⟩
    | cons x r ih =>
      refine ⟨?_, ?_⟩
      · show ((PyData.int x).canLay0 && PyData.canLayAll0 (r.map PyData.int)) = true
        rw [ih.1]
        rfl
      · show max (PyData.int x).depth (PyData.depthAll (r.map PyData.int)) ≤ 2
        have e : (PyData.int x).depth ≤ 2 := by simp [PyData.depth]
        omega
  show (PyData.canLayAll0 (ns.map PyData.int) && decide (_ ≤ 64)) = true
  rw [key.1]
  have e : (PyData.list (ns.map PyData.int)).depth = PyData.depthAll (ns.map PyData.int) + 1 := by first | rfl | exact Nat.add_comm _ _
  show decide (_ ≤ 64) = true
  rw [decide_eq_true_iff, e]
  omega
/-- l.index(i), l a list of ints -/
theorem r_indexI {j : Nat} (hp : SqL K H p (ns.map V.int)) (hj : ns[j]? = some i) (hno : ∀ m, m < j → ns[m]? ≠ some i) (q : Q (.int (j : Nat)) H) : rIndexD K (.ref p) [.int i] H Q := by
  refine ⟨p, .int i, .int i, ns.map PyData.int, j, .int i, rfl, rfl, .lst hp dps_ints, .int i, ints_shaped, rfl, by rw [List.getElem?_map, hj]; rfl, ?_, fun m z hm hz => ?_, q⟩
  · show ((i : Int) == i) = true
    exact beq_self_eq_true i
  · rw [List.getElem?_map] at hz
    obtain ⟨y, hy, rfl⟩ := Option.map_eq_some_iff.mp hz
    show ((y : Int) == i) = false
    rw [beq_eq_false_iff_ne]
    intro e
    exact hno m hm (by rw [hy, e])
end
end Dk

/-! min(a, b), max(a, b) of two tuples of numbers; sorted of two -/
namespace Dk
open PySem PySem.Spec PyProof.Rows L2 PySem.SeqAt PySem.W
section
variable {prog : Program} {w : World} {A : Around} {E : Value → Shared → Prop} {s : Shared}
theorem call_min_twoH {a b : Value} {Q : Value → Shared → Prop}
    (h : wpAny (model prog w) A.in1 (pyIter (.ref s.heap.objs.size)) (fun it s₂ => ∃ I fp wr G n P St H bt, it = .ref I ∧ WalksS prog w A.in1 I fp wr G n P St ∧ St 0 s₂ ∧ (∀ b ∈ fp, b < s₂.heap.objs.size) ∧ 0 < n ∧
      (∀ b o, H.get? b = some o → b ∉ wr) ∧ (∀ b o, H.get? b = some o → s₂.heap.get? b = some o) ∧ CmpIn prog w A.in1 .Lt H P bt ∧ ∀ v s', P (argBest bt (n - 1)) v → Moved wr G s₂ s' → Q v s') E
      { s with heap := s.heap.push { cls := .type "tuple", data := .seq #[a, b] } }) :
    wpAny (model prog w) A (call (.builtin "min") [a, b]) Q E s := by
  have hname : (toString "min" ++ toString ".loop" : String) = "min.loop" := by decide
  refine call_function_tree F.kind_min F.plain_min F.entry_min (F.args_min2 _ _) ?_
  show wpAny _ A.in1 (Builtin.Builtins.bindParams "min" ["key", "default"] 0 ⟨[], []⟩ >>= _) _ _ s
  refine wpAny_bind (wpAny_of_eq (show Builtin.Builtins.bindParams "min" ["key", "default"] 0 ⟨[], []⟩ = pure [none, none] from rfl) ?_)
  show wpAny _ A.in1 (newTuple [a, b] >>= _) _ _ s
  refine wpAny_bind (wpAny_newObj_type ?_)
  refine wpAny_bind (wpAny_mono h (fun it s₂ h₂ => ?_) fun _ _ e => e)
  obtain ⟨I, fp, wr, G, n, P, St, H, bt, rfl, W, hst, hfp, hn, hw, hkeep, hcmp, hQ⟩ := h₂
  refine wpAny_bind (wpAny_newObj_type ?_)
  have hSf : s₂.heap.objs.size ∉ fp := fun hm => Nat.lt_irrefl _ (hfp _ hm)
  rw [hname]
  refine wpAny_pure ⟨plainId_quiet F.plain_min_loop _, codeAny_min_loop_firstH W H hw bt hcmp s₂.heap.objs.size hSf (fresh_in hkeep) _ hn (fun b o e => Heap.get?_push_of_some _ (hkeep b o e)) (W.frame 0 s₂ _ s₂.toks hst (Nat.le_refl _) fun b _ o e => Heap.get?_push_of_some _ e) (Heap.get?_push_size _ rfl) fun v s' hP hm => ?_⟩
  exact hQ v s' hP (Moved.drop_new (tk := s₂.toks) hm (Nat.le_refl _))
theorem call_max_twoH {a b : Value} {Q : Value → Shared → Prop}
    (h : wpAny (model prog w) A.in1 (pyIter (.ref s.heap.objs.size)) (fun it s₂ => ∃ I fp wr G n P St H bt, it = .ref I ∧ WalksS prog w A.in1 I fp wr G n P St ∧ St 0 s₂ ∧ (∀ b ∈ fp, b < s₂.heap.objs.size) ∧ 0 < n ∧
      (∀ b o, H.get? b = some o → b ∉ wr) ∧ (∀ b o, H.get? b = some o → s₂.heap.get? b = some o) ∧ CmpIn prog w A.in1 .Gt H P bt ∧ ∀ v s', P (argBest bt (n - 1)) v → Moved wr G s₂ s' → Q v s') E
      { s with heap := s.heap.push { cls := .type "tuple", data := .seq #[a, b] } }) :
    wpAny (model prog w) A (call (.builtin "max") [a, b]) Q E s := by
  have hname : (toString "max" ++ toString ".loop" : String) = "max.loop" := by decide
  refine call_function_tree F.kind_max F.plain_max F.entry_max (F.args_max2 _ _) ?_
  show wpAny _ A.in1 (Builtin.Builtins.bindParams "max" ["key", "default"] 0 ⟨[], []⟩ >>= _) _ _ s
  refine wpAny_bind (wpAny_of_eq (show Builtin.Builtins.bindParams "max" ["key", "default"] 0 ⟨[], []⟩ = pure [none, none] from rfl) ?_)
  show wpAny _ A.in1 (newTuple [a, b] >>= _) _ _ s
  refine wpAny_bind (wpAny_newObj_type ?_)
  refine wpAny_bind (wpAny_mono h (fun it s₂ h₂ => ?_) fun _ _ e => e)
  obtain ⟨I, fp, wr, G, n, P, St, H, bt, rfl, W, hst, hfp, hn, hw, hkeep, hcmp, hQ⟩ := h₂
  refine wpAny_bind (wpAny_newObj_type ?_)
  have hSf : s₂.heap.objs.size ∉ fp := fun hm => Nat.lt_irrefl _ (hfp _ hm)
  rw [hname]
  refine wpAny_pure ⟨plainId_quiet F.plain_max_loop _, codeAny_max_loop_firstH W H hw bt hcmp s₂.heap.objs.size hSf (fresh_in hkeep) _ hn (fun b o e => Heap.get?_push_of_some _ (hkeep b o e)) (W.frame 0 s₂ _ s₂.toks hst (Nat.le_refl _) fun b _ o e => Heap.get?_push_of_some _ e) (Heap.get?_push_size _ rfl) fun v s' hP hm => ?_⟩
  exact hQ v s' hP (Moved.drop_new (tk := s₂.toks) hm (Nat.le_refl _))
theorem min_two_data {a b : Value} {x y : PyData} {as bs : List Addr} {Q : Value → Shared → Prop} (hh : A.handled = none) (ra : Reads s.heap a x as) (rb : Reads s.heap b y bs) (ha : PySem.W.AlikeAll [x, y]) (hu : A.units + 1 + PyData.depthAll [x, y] < cLine)
    (h : ∀ h' tk, (∀ c o, s.heap.get? c = some o → h'.get? c = some o) → Q (if dataLt y x = true then b else a) { s with heap := h', toks := tk }) :
    wpAny (model prog w) A (call (.builtin "min") [a, b]) Q E s := by
  have k0 : ∀ c o, s.heap.get? c = some o → (s.heap.push { cls := .type "tuple", data := .seq #[a, b] }).get? c = some o := fun c o e => Heap.get?_push_of_some _ e
  have hl : ({ s with heap := s.heap.push { cls := .type "tuple", data := .seq #[a, b] } } : Shared).heap.IsTuple s.heap.objs.size #[a, b] := ⟨_, Heap.get?_push_size _ rfl, rfl, 0, rfl⟩
  have hr : ReadsAll (s.heap.push { cls := .type "tuple", data := .seq #[a, b] }) (#[a, b] : Array Value).toList [x, y] _ := ReadsAll.cons (Reads.keeps k0 ra) (ReadsAll.cons (Reads.keeps k0 rb) ReadsAll.nil)
  refine call_min_twoH (iter_tupleW (s := { s with heap := s.heap.push { cls := .type "tuple", data := .seq #[a, b] } }) (A := A.in1) hh hl fun s₂ e W st hfp hw hk => ?_)
  refine ⟨_, _, _, _, _, _, _, (s.heap.push { cls := .type "tuple", data := .seq #[a, b] }), _, rfl, W, st, hfp, by simp, hw, hk, PySem.W.cmpIn_lt (s := { s with heap := s.heap.push { cls := .type "tuple", data := .seq #[a, b] } }) (A := A.in1) hr ha (by show A.units + 1 + _ < _; exact hu), fun v s' hP m => ?_⟩
  obtain ⟨h', tk, rfl, hk'⟩ := moved_old e rfl m
  have hv : v = if dataLt y x = true then b else a := by
    have hP' : (#[a, b] : Array Value)[if dataLt y x = true then 1 else 0]? = some v := hP
    by_cases c : dataLt y x = true
    · rw [if_pos c] at hP' ⊢
      exact (Option.some.inj hP').symm
    · rw [if_neg c] at hP' ⊢
      exact (Option.some.inj hP').symm
  rw [hv]
  exact h h' tk fun c o e => hk' c o (k0 c o e)
theorem max_two_data {a b : Value} {x y : PyData} {as bs : List Addr} {Q : Value → Shared → Prop} (hh : A.handled = none) (ra : Reads s.heap a x as) (rb : Reads s.heap b y bs) (ha : PySem.W.AlikeAll [x, y]) (hu : A.units + 1 + PyData.depthAll [x, y] < cLine)
    (h : ∀ h' tk, (∀ c o, s.heap.get? c = some o → h'.get? c = some o) → Q (if dataLt x y = true then b else a) { s with heap := h', toks := tk }) :
    wpAny (model prog w) A (call (.builtin "max") [a, b]) Q E s := by
  have k0 : ∀ c o, s.heap.get? c = some o → (s.heap.push { cls := .type "tuple", data := .seq #[a, b] }).get? c = some o := fun c o e => Heap.get?_push_of_some _ e
  have hl : ({ s with heap := s.heap.push { cls := .type "tuple", data := .seq #[a, b] } } : Shared).heap.IsTuple s.heap.objs.size #[a, b] := ⟨_, Heap.get?_push_size _ rfl, rfl, 0, rfl⟩
  have hr : ReadsAll (s.heap.push { cls := .type "tuple", data := .seq #[a, b] }) (#[a, b] : Array Value).toList [x, y] _ := ReadsAll.cons (Reads.keeps k0 ra) (ReadsAll.cons (Reads.keeps k0 rb) ReadsAll.nil)
  refine call_max_twoH (iter_tupleW (s := { s with heap := s.heap.push { cls := .type "tuple", data := .seq #[a, b] } }) (A := A.in1) hh hl fun s₂ e W st hfp hw hk => ?_)
  refine ⟨_, _, _, _, _, _, _, (s.heap.push { cls := .type "tuple", data := .seq #[a, b] }), _, rfl, W, st, hfp, by simp, hw, hk, PySem.W.cmpIn_gt (s := { s with heap := s.heap.push { cls := .type "tuple", data := .seq #[a, b] } }) (A := A.in1) hr ha (by show A.units + 1 + _ < _; exact hu), fun v s' hP m => ?_⟩
  obtain ⟨h', tk, rfl, hk'⟩ := moved_old e rfl m
  have hv : v = if dataLt x y = true then b else a := by
    have hP' : (#[a, b] : Array Value)[if dataLt x y = true then 1 else 0]? = some v := hP
    by_cases c : dataLt x y = true
    · rw [if_pos c] at hP' ⊢
      exact (Option.some.inj hP').symm
    · rw [if_neg c] at hP' ⊢
      exact (Option.some.inj hP').symm
  rw [hv]
  exact h h' tk fun c o e => hk' c o (k0 c o e)
end
def rMinD (K : PySem.W.Frag) : List V → Hp → VK → Prop := fun xs H Q => ∃ (u v : V) (d e : PyData), xs = [u, v] ∧ Dp K H u d ∧ Dp K H v e ∧ AlikeAll [d, e] ∧ PyData.depthAll [d, e] ≤ 60 ∧ Q (if dataLt e d = true then v else u) H
def rMaxD2 (K : PySem.W.Frag) : List V → Hp → VK → Prop := fun xs H Q => ∃ (u v : V) (d e : PyData), xs = [u, v] ∧ Dp K H u d ∧ Dp K H v e ∧ AlikeAll [d, e] ∧ PyData.depthAll [d, e] ≤ 60 ∧ Q (if dataLt d e = true then v else u) H
section
variable {X : Cx}
theorem call_minD (hc : X.calm = true) (hu : X.A.units + 65 < cLine) : CallR X (.builtin "min") (rMinD X.K) := by
  intro pins s σ H xs us Q I r h
  obtain ⟨u, v, d, e, rfl, hd, he, ha, hz, q⟩ := h
  obtain ⟨u', v', rfl, ru, rv⟩ := vals2 r
  obtain ⟨as, r1⟩ := Dp.reads I d u u' hd ru
  obtain ⟨bs, r2⟩ := Dp.reads I e v v' he rv
  refine min_two_data (I.ok.hd hc) r1 r2 ha (by omega) fun h' tk k => ⟨_, H, I.kept k, ?_, q⟩
  split
  · exact rv
  · exact ru
theorem call_maxD (hc : X.calm = true) (hu : X.A.units + 65 < cLine) : CallR X (.builtin "max") (rMaxD2 X.K) := by
  intro pins s σ H xs us Q I r h
  obtain ⟨u, v, d, e, rfl, hd, he, ha, hz, q⟩ := h
  obtain ⟨u', v', rfl, ru, rv⟩ := vals2 r
  obtain ⟨as, r1⟩ := Dp.reads I d u u' hd ru
  obtain ⟨bs, r2⟩ := Dp.reads I e v v' he rv
  refine max_two_data (I.ok.hd hc) r1 r2 ha (by omega) fun h' tk k => ⟨_, H, I.kept k, ?_, q⟩
  split
  · exact rv
  · exact ru
end
def kf (p : Addr) (x y : Tl.Sg) (z : V) : Int × Int := if z = V.ref p then ((x.1 : Int), (x.2 : Int)) else ((y.1 : Int), (y.2 : Int))
theorem kf_1 {p : Addr} {x y : Tl.Sg} : kf p x y (.ref p) = ((x.1 : Int), (x.2 : Int)) := if_pos rfl
theorem kf_2 {p q : Addr} {x y : Tl.Sg} (h : V.ref q ≠ V.ref p) : kf p x y (.ref q) = ((y.1 : Int), (y.2 : Int)) := if_neg h
theorem perm2 {α : Type} {l : List α} {a b : α} (h : l.Perm [a, b]) : l = [a, b] ∨ l = [b, a] := by
  have hl := h.length_eq
  match l, hl with
  | [c, d], _ =>
    have hc : c ∈ [a, b] := h.mem_iff.mp (List.mem_cons_self ..)
    rcases List.mem_cons.mp hc with rfl | hc
    · have z := (List.perm_cons c).mp h
      have e := List.perm_singleton.mp z
      rw [e]
      exact .inl rfl
    · have e1 := List.mem_singleton.mp hc
      subst e1
      have z := (List.perm_cons c).mp (h.trans (List.Perm.swap c a []))
      have e := List.perm_singleton.mp z
      rw [e]
      exact .inr rfl
theorem sg_alike (x y : Tl.Sg) : AlikeAll [sgD x, sgD y] := by
  refine ⟨fun a ha b hb => ?_, fun a ha => ?_⟩
  · rcases List.mem_cons.mp ha with rfl | ha <;> rcases List.mem_cons.mp hb with rfl | hb
    · rfl
    · rw [List.mem_singleton.mp hb]; rfl
    · rw [List.mem_singleton.mp ha]; rfl
    · rw [List.mem_singleton.mp ha, List.mem_singleton.mp hb]; rfl
  · rcases List.mem_cons.mp ha with rfl | ha
    · exact fun z => nomatch z
    · rw [List.mem_singleton.mp ha]; exact fun z => nomatch z
theorem sg_lt (x y : Tl.Sg) : dataLt (sgD x) (sgD y) = decide (x.1 < y.1 ∨ (x.1 = y.1 ∧ x.2 < y.2)) := by
  rw [show dataLt (sgD x) (sgD y) = _ from dataLt_ii _ _ _ _, Bool.eq_iff_iff, decide_eq_true_iff, decide_eq_true_iff]
  omega
theorem sg_depth (x y : Tl.Sg) : PyData.depthAll [sgD x, sgD y] ≤ 60 := by simp [sgD, PyData.depth, PyData.depthAll]
section
variable {K : PySem.W.Frag} {H : Hp} {Q : VK} {u v : V} {x y : Tl.Sg}
theorem r_par {i j : Nat} {ta : TA} {σ : L2.St} {H : Hp} {D : Ends} (h : ta σ H fun vs H1 => ∃ v w, vs = [v, w] ∧ D.nx ((σ.set i (some v)).set j (some w)) H1) : tPar i j ta D σ H := h
/-- min of two signs of one chunk -/
theorem r_minSg (h : x.1 = y.1) (su : SgV K H u x) (sv : SgV K H v y) (q : Q (if y.2 < x.2 then v else u) H) : rMinD K [u, v] H Q := by
  refine ⟨u, v, _, _, rfl, su.dp, sv.dp, sg_alike x y, sg_depth x y, ?_⟩
  have e : (if dataLt (sgD y) (sgD x) = true then v else u) = if y.2 < x.2 then v else u := by
    by_cases c : y.2 < x.2
    · rw [if_pos c, if_pos (by rw [sg_lt, decide_eq_true_iff]; exact .inr ⟨h.symm, c⟩)]
    · rw [if_neg c, if_neg (by rw [sg_lt, decide_eq_true_iff]; omega)]
  rw [e]
  exact q
theorem r_maxSg (h : x.1 = y.1) (su : SgV K H u x) (sv : SgV K H v y) (q : Q (if x.2 < y.2 then v else u) H) : rMaxD2 K [u, v] H Q := by
  refine ⟨u, v, _, _, rfl, su.dp, sv.dp, sg_alike x y, sg_depth x y, ?_⟩
  have e : (if dataLt (sgD x) (sgD y) = true then v else u) = if x.2 < y.2 then v else u := by
    by_cases c : x.2 < y.2
    · rw [if_pos c, if_pos (by rw [sg_lt, decide_eq_true_iff]; exact .inr ⟨h, c⟩)]
    · rw [if_neg c, if_neg (by rw [sg_lt, decide_eq_true_iff]; omega)]
  rw [e]
  exact q
end
end Dk

/-! zip of two things, each a list, a tuple or a text -/
namespace Zp
open PySem PySem.Spec PyProof.Rows L2 Dk
inductive Kd where
  | l (a : Addr)
  | t (a : Addr)
  | s (z : Str)
abbrev sgs (z : Str) : List V := (cs z).map fun c => V.str ⟨#[c]⟩
def Kd.v : Kd → V
  | .l a => .ref a
  | .t a => .ref a
  | .s z => .str z
def Kd.has (K : PySem.W.Frag) : Kd → Hp → List V → Prop
  | .l a, H, xs => SqL K H a xs
  | .t a, H, xs => SqT K H a xs
  | .s z, _, xs => xs = sgs z
def Kd.st (tk : Tok) : Kd → Addr → Nat → Heap → Prop
  | .l a, it, i, h => h.IsListIter it a i
  | .t a, it, i, h => h.IsTupleIter it a i
  | .s z, it, i, h => h.IsStrIter it (strIterType z) z tk i
def Kd.ap : Kd → Addr → Prop
  | .l a, q => a ≠ q
  | .t a, q => a ≠ q
  | .s _, _ => True
section
variable {tk : Tok} {k : Kd} {it : Addr} {i : Nat} {h h' : Heap}
theorem Kd.st_obj (st : k.st tk it i h) : ∃ o, h.get? it = some o ∧ ∀ v, o.data ≠ .cell v := by
  cases k with
  | l a => obtain ⟨o, e, _, d⟩ := st; exact ⟨o, e, fun v q => by rw [d] at q; cases q⟩
  | t a => obtain ⟨o, e, _, d⟩ := st; exact ⟨o, e, fun v q => by rw [d] at q; cases q⟩
  | s z => obtain ⟨o, e, _, d⟩ := st; exact ⟨o, e, fun v q => by rw [d] at q; cases q⟩
theorem Kd.st_keep (st : k.st tk it i h) (q : ∀ o, h.get? it = some o → h'.get? it = some o) : k.st tk it i h' := by
  cases k with
  | l a => exact Heap.IsListIter.at st q
  | t a => exact Heap.IsTupleIter.at st q
  | s z => obtain ⟨o, ho, r⟩ := st; exact ⟨o, q o ho, r⟩
end
theorem vals_at {xs : List V} {its : List Value} (rv : Vals xs its) {j : Nat} {v : Value} (h : its[j]? = some v) : ∃ x, xs[j]? = some x ∧ RelV x v := by
  have hl := rv.length
  have hj := (List.getElem?_eq_some_iff.mp h).1
  obtain ⟨x, hx⟩ : ∃ x, xs[j]? = some x := ⟨_, List.getElem?_eq_getElem (by omega)⟩
  obtain ⟨u, hu, ru⟩ := rv.get hx
  rw [h] at hu
  cases hu
  exact ⟨x, hx, ru⟩
section
variable {X : Cx} {pins : List (Addr × Obj)} {σ : L2.St} {H : Hp} {s : Shared}
theorem Kd.draws (I : Inv X pins σ H s) (hh : X.A.in1.handled = none) {k : Kd} {xs : List V} (hq : k.has X.K H xs) {it : Addr} (hne : k.ap it) {tk : Tok} {i : Nat} (st : k.st tk it i s.heap) :
    ∃ (fp : List Addr) (P : Nat → Value → Prop) (St : Nat → Heap → Prop), Draws X.prog X.w X.A.in1 it fp xs.length P St ∧ St i s.heap ∧ (∀ j v, P j v → ∃ x, xs[j]? = some x ∧ RelV x v) ∧ (∀ j h, St j h → k.st tk it j h) ∧ it ∈ fp ∧ ∀ q ∈ fp, q = it ∨ ¬ k.ap q := by
  cases k with
  | l a =>
    obtain ⟨its, rv, p, _⟩ := I.list hq
    have e : its.toArray.size = xs.length := by rw [List.size_toArray]; exact rv.length.symm
    have D := Draws.list (prog := X.prog) (w := X.w) hh it a hne its.toArray
    rw [e] at D
    refine ⟨_, _, _, D, ⟨st, p.isList⟩, fun j v hv => vals_at rv (by simpa using hv), fun j h z => z.1, by simp, fun q hq => ?_⟩
    rcases List.mem_cons.mp hq with z | z
    · exact .inl z
    · exact .inr fun c => c (List.mem_singleton.mp z).symm
  | t a =>
    obtain ⟨its, rv, p, _⟩ := I.tuple hq
    have e : its.toArray.size = xs.length := by rw [List.size_toArray]; exact rv.length.symm
    have D := Draws.tuple (prog := X.prog) (w := X.w) hh it a hne its.toArray
    rw [e] at D
    refine ⟨_, _, _, D, ⟨st, p⟩, fun j v hv => vals_at rv (by simpa using hv), fun j h z => z.1, by simp, fun q hq => ?_⟩
    rcases List.mem_cons.mp hq with z | z
    · exact .inl z
    · exact .inr fun c => c (List.mem_singleton.mp z).symm
  | s z =>
    obtain rfl : xs = sgs z := hq
    have e : z.cps.size = (sgs z).length := by simp [sgs, cs]
    have D := Draws.text (prog := X.prog) (w := X.w) hh it z tk
    rw [e] at D
    refine ⟨_, _, _, D, st, fun j v hv => ?_, fun j h q => q, by simp, fun q hq => .inl (List.mem_singleton.mp hq)⟩
    obtain ⟨c, u, hc, rfl⟩ := hv
    refine ⟨.str ⟨#[c]⟩, ?_, u, rfl⟩
    show ((cs z).map _)[j]? = _
    rw [List.getElem?_map, show (cs z)[j]? = some c by rw [Array.getElem?_toList]; exact hc]
    rfl
theorem Kd.inj (I : Inv X pins σ H s) {k : Kd} {xs ys : List V} (h1 : k.has X.K H xs) (h2 : k.has X.K H ys) : xs = ys := by
  cases k with
  | l a => exact I.list_inj h1 h2
  | t a => exact I.tuple_inj h1 h2
  | s z => exact Eq.trans h1 (Eq.symm h2)
end
structure Ap (z TI TO i1 i2 : Addr) (k1 k2 : Kd) : Prop where
  TIz : TI ≠ z
  TOz : TO ≠ z
  i1z : i1 ≠ z
  i2z : i2 ≠ z
  TITO : TI ≠ TO
  TIi1 : TI ≠ i1
  TIi2 : TI ≠ i2
  TOi1 : TO ≠ i1
  TOi2 : TO ≠ i2
  i12 : i1 ≠ i2
  a1 : k1.ap z ∧ k1.ap TO ∧ k1.ap i1 ∧ k1.ap i2
  a2 : k2.ap z ∧ k2.ap TO ∧ k2.ap i1 ∧ k2.ap i2
theorem Ap.sep {z TI TO i1 i2 : Addr} {k1 k2 : Kd} (D : Ap z TI TO i1 i2 k1 k2) {fp1 fp2 : List Addr} (m1 : i1 ∈ fp1) (f1 : ∀ q ∈ fp1, q = i1 ∨ ¬ k1.ap q) (m2 : i2 ∈ fp2) (f2 : ∀ q ∈ fp2, q = i2 ∨ ¬ k2.ap q) : ZipSep2 z TI TO i1 i2 fp1 fp2 where
  TIz := D.TIz
  TOz := D.TOz
  TITO := D.TITO
  TIi1 := D.TIi1
  mem1 := m1
  zf1 := fun h => (f1 z h).elim (fun e => D.i1z e.symm) fun n => n D.a1.1
  Tf1 := fun h => (f1 TO h).elim D.TOi1 fun n => n D.a1.2.1
  TIi2 := D.TIi2
  mem2 := m2
  zf2 := fun h => (f2 z h).elim (fun e => D.i2z e.symm) fun n => n D.a2.1
  Tf2 := fun h => (f2 TO h).elim D.TOi2 fun n => n D.a2.2.1
  sep1_2 := fun h => (f2 i1 h).elim D.i12 fun n => n D.a2.2.2.1
  sep2_1 := fun h => (f1 i2 h).elim (fun e => D.i12 e.symm) fun n => n D.a1.2.2.2
def ItzK (K : PySem.W.Frag) (k1 k2 : Kd) : It :=
  ⟨fun i H => ∃ xs ys : List V, k1.has K H xs ∧ k2.has K H ys ∧ i < xs.length ∧ i < ys.length,
    fun i H v H' => ∃ T x y, v = .ref T ∧ H T = none ∧ H' = upd H T (.tup [x, y]) ∧ (∀ xs, k1.has K H xs → xs[i]? = some x) ∧ ∀ ys, k2.has K H ys → ys[i]? = some y,
    fun i H => ∃ xs ys : List V, k1.has K H xs ∧ k2.has K H ys ∧ i ≤ xs.length ∧ i ≤ ys.length ∧ (i = xs.length ∨ i = ys.length)⟩
theorem turn_zipK {P : Program} {w : World} {K : PySem.W.Frag} {elts : List Expr} {kk : Nat} {tpos : Pos} {k1 k2 : Kd} {tk1 tk2 : Tok} {z TI TO i1 i2 : Addr} (D : Ap z TI TO i1 i2 k1 k2) :
    Turn P w K (.Tuple elts kk tpos) (ItzK K k1 k2) [z, TI, TO, i1, i2] z (fun i h => IsZip h z TI TO .none ∧ IsTupOf2 h TI (.ref i1) (.ref i2) ∧ (∃ x y, IsTupOf2 h TO x y) ∧ k1.st tk1 i1 i h ∧ k2.st tk2 i2 i h) where
  mem := by simp
  obj := fun i h st c hc => by
    obtain ⟨hz, hTI, ⟨x, y, hTO⟩, s1, s2⟩ := st
    have e' : c = z ∨ c = TI ∨ c = TO ∨ c = i1 ∨ c = i2 := by simpa using hc
    rcases e' with q | q | q | q | q
    · rw [q]; exact ⟨_, hz, fun v q => nomatch q⟩
    · rw [q]; exact ⟨_, hTI, fun v q => nomatch q⟩
    · rw [q]; exact ⟨_, hTO, fun v q => nomatch q⟩
    · rw [q]; exact Kd.st_obj s1
    · rw [q]; exact Kd.st_obj s2
  keep := fun i h h' st k => by
    obtain ⟨hz, hTI, ⟨x, y, hTO⟩, h1, h2⟩ := st
    exact ⟨k z (by simp) _ hz, k TI (by simp) _ hTI, ⟨x, y, k TO (by simp) _ hTO⟩, Kd.st_keep h1 fun o q => k i1 (by simp) o q, Kd.st_keep h2 fun o q => k i2 (by simp) o q⟩
  item := by
    intro X hP hw hK hc i pins s σ H E I hf st hg
    subst hP hw hK
    obtain ⟨hz, hTI, ⟨x0, y0, hTO⟩, h1, h2⟩ := st
    obtain ⟨xs, ys, hqx, hqy, hx, hy⟩ := hg
    have hh : X.A.in1.handled = none := I.ok.hd hc
    obtain ⟨fp1, P1, St1, D1, st1, g1, b1, m1, f1⟩ := Kd.draws I hh hqx D.a1.2.2.1 h1
    obtain ⟨fp2, P2, St2, D2, st2, g2, b2, m2, f2⟩ := Kd.draws I hh hqy D.a2.2.2.2 h2
    have S := D.sep m1 f1 m2 f2
    have hzl : z < s.heap.objs.size := Heap.lt_size hz
    refine wpAny_pyNext_zipD2_item S D1 D2 hz hTI hTO st1 st2 hx hy fun u u2 h' tk p1 p2 z' TO' s1' s2' hT hsz hk => ?_
    obtain ⟨x, hxx, ru⟩ := g1 _ _ p1
    obtain ⟨y, hyy, ru2⟩ := g2 _ _ p2
    refine ⟨_, rfl, wpAny_letOwnedTupleGo_zip (s := { s with heap := h', toks := tk }) z' fun h'' z'' sb => ?_⟩
    have hT2 : h''.get? s.heap.objs.size = some { cls := .type "tuple", data := .seq #[u, u2] } := (sb.2 _ (Nat.ne_of_gt hzl)).trans hT
    have new : ObjOk X.prog X.w (upd H s.heap.objs.size (.tup [x, y])) h'' s.heap.objs.size (.tup [x, y]) :=
      ⟨by show 2 ≤ sizeLine; decide, [u, u2], .cons ru (.cons ru2 .nil), ⟨_, hT2, rfl, _, rfl⟩⟩
    have I1 : Inv X pins σ (upd H s.heap.objs.size (.tup [x, y])) { s with heap := h'', toks := tk } :=
      I.turnedNew (t' := tk) (ch := [z, TI, TO, i1, i2]) (fun c o hb q => (sb.2 c (fun q' => hb (by simp [q']))).trans (hk c o (fun q' => hb (by simp [q'])) (fun q' => hb (by simp [q'])) (fun q' => hb (by simp [q'])) (fun q' => hb (by simp [q'])) q)) hf (Nat.le_refl _) new
    refine ⟨.ref s.heap.objs.size, _, I1, rfl, ⟨_, x, y, rfl, I.hok.fresh (Nat.le_refl _), rfl, fun l hl => by rw [Kd.inj I hl hqx]; exact hxx, fun l hl => by rw [Kd.inj I hl hqy]; exact hyy⟩, ⟨z'', ?_, ⟨u, u2, ?_⟩, ?_, ?_⟩, fun c hcm => ?_⟩
    · exact (sb.2 _ D.TIz).trans (hk _ _ D.TIz D.TITO D.TIi1 D.TIi2 hTI)
    · exact (sb.2 _ D.TOz).trans TO'
    · exact Kd.st_keep (b1 _ _ s1') fun o q => (sb.2 _ D.i1z).trans q
    · exact Kd.st_keep (b2 _ _ s2') fun o q => (sb.2 _ D.i2z).trans q
    · have hlt : c < s.heap.objs.size := by
        have e' : c = z ∨ c = TI ∨ c = TO ∨ c = i1 ∨ c = i2 := by simpa using hcm
        rcases e' with q | q | q | q | q
        · rw [q]; exact hzl
        · rw [q]; exact Heap.lt_size hTI
        · rw [q]; exact Heap.lt_size hTO
        · rw [q]; obtain ⟨_, e1, _⟩ := Kd.st_obj h1; exact Heap.lt_size e1
        · rw [q]; obtain ⟨_, e2, _⟩ := Kd.st_obj h2; exact Heap.lt_size e2
      rw [upd_ne (Nat.ne_of_lt hlt)]
      exact (hf c hcm).1
  done := by
    intro X hP hw hK hc i pins s σ H E I hf st hg
    subst hP hw hK
    obtain ⟨hz, hTI, ⟨x0, y0, hTO⟩, h1, h2⟩ := st
    obtain ⟨xs, ys, hqx, hqy, l1, l2, hend⟩ := hg
    have hh : X.A.in1.handled = none := I.ok.hd hc
    obtain ⟨fp1, P1, St1, D1, st1, g1, b1, m1, f1⟩ := Kd.draws I hh hqx D.a1.2.2.1 h1
    obtain ⟨fp2, P2, St2, D2, st2, g2, b2, m2, f2⟩ := Kd.draws I hh hqy D.a2.2.2.2 h2
    have S := D.sep m1 f1 m2 f2
    exact wpAny_pyNext_zipD2_end S D1 D2 hz hTI hTO st1 st2 l1 l2 hend fun h' tk hk => ⟨rfl, I.turnedL (t' := tk) (ch := [z, TI, TO, i1, i2]) (fun c o hb q =>
      hk c o (fun q' => hb (by simp [q'])) (fun q' => hb (by simp [q'])) (fun q' => hb (by simp [q'])) (fun q' => hb (by simp [q'])) q) hf⟩
  self := fun A i s Q E st h => wpAny_pyIter_zip st.1 h
/-- how it begins -/
theorem Kd.begins {X : Cx} {pins : List (Addr × Obj)} {σ : L2.St} {H : Hp} {s : Shared} (I : Inv X pins σ H s) {k : Kd} {xs : List V} (hq : k.has X.K H xs) {u : Value} (r : RelV k.v u) :
    ∃ (o : Obj) (HH : Heap → Prop) (tk : Tok), Begins u o HH ∧ HH s.heap ∧ (∀ it h', h'.get? it = some o → k.st tk it 0 h') ∧ ∀ q, s.heap.objs.size ≤ q → k.ap q := by
  cases k with
  | l a =>
    obtain rfl : u = Value.ref a := r
    obtain ⟨its, rv, p, _⟩ := I.list hq
    exact ⟨_, _, 0, begins_list a its.toArray, p.isList, fun it h' e => ⟨_, e, rfl, rfl⟩, fun q hq e => by rw [← e] at hq; exact absurd p.lt (Nat.not_lt.mpr hq)⟩
  | t a =>
    obtain rfl : u = Value.ref a := r
    obtain ⟨its, rv, p, _⟩ := I.tuple hq
    obtain ⟨o1, ho1, _⟩ := id p
    exact ⟨_, _, 0, begins_tuple a its.toArray, p, fun it h' e => ⟨_, e, rfl, rfl⟩, fun q hq e => by rw [← e] at hq; exact absurd (Heap.lt_size ho1) (Nat.not_lt.mpr hq)⟩
  | s z =>
    obtain ⟨t, rfl⟩ := r
    exact ⟨_, _, t, begins_text z t, trivial, fun it h' e => ⟨_, e, rfl, rfl⟩, fun _ _ => trivial⟩
theorem ne_nat {a b : Nat} (h : a ≠ b) : @Ne Addr a b := h
def iZipK (K : PySem.W.Frag) (ta : TA) : TI := fun σ H R => ta σ H fun vs H1 => ∃ k1 k2 : Kd, vs = [k1.v, k2.v] ∧ (∃ xs, k1.has K H1 xs) ∧ (∃ ys, k2.has K H1 ys) ∧ R (ItzK K k1 k2) H1
theorem pi_zipK {X : Cx} {e e2 : Expr} {ta : TA} {p pos tpos : Pos} {elts : List Expr} {kk : Nat} (hg : Gl X "zip") (hm : X.mg "zip" = none) (ha : PA X [e, e2] ta)
    (hs : starEach [e, e2] X.env = (false, eval e X.env) :: starEach [e2] X.env := by rfl) (hpl : (backTo pos (starEach [e2] X.env)).any (·.1) = false := by rfl) :
    PI X (.Tuple elts kk tpos) (.Call (.Name "zip" p) [e, e2] [] pos) (iZipK X.K ta) := by
  refine ⟨fun pins s σ H R I h => ?_⟩
  refine Call_ (ld_blt I hg hm PyProof.Rows.boot_zip (PyProof.Rows.callWith_type1 (thn (ha.run pos pins s σ H _ I h) fun us s1 ⟨vs, H1, I1, r1, q1⟩ => ?_) hs hpl))
  obtain ⟨k1, k2, ex, ⟨xs, hx⟩, ⟨ys, hy⟩, q⟩ := q1
  subst ex
  cases r1 with
  | cons r rr =>
    cases rr with
    | cons r' rr =>
      cases rr
      obtain ⟨o1, HH1, tk1, B1, g1, st1, ap1⟩ := Kd.begins I1 hx r
      obtain ⟨o2, HH2, tk2, B2, g2, st2, ap2⟩ := Kd.begins I1 hy r'
      refine zip_begins2 B1 B2 g1 g2 fun h' hz hTI hTO h1 h2 hsz hk => wpAny_pyIter_zip hz ?_
      have I2 : Inv X pins σ H1 { s1 with heap := h' } := I1.kept (t' := s1.toks) hk
      have fresh5 : ∀ c, c ∈ [s1.heap.objs.size + 4, s1.heap.objs.size + 2, s1.heap.objs.size + 3, s1.heap.objs.size, s1.heap.objs.size + 1] → FpOk X pins H1 c := fun c hcm => by
        have hle : s1.heap.objs.size ≤ c := by
          have e' : c = s1.heap.objs.size + 4 ∨ c = s1.heap.objs.size + 2 ∨ c = s1.heap.objs.size + 3 ∨ c = s1.heap.objs.size ∨ c = s1.heap.objs.size + 1 := by simpa using hcm
          omega
        exact I1.fpOk hle (I1.hok.fresh hle)
      have ap : Ap (s1.heap.objs.size + 4) (s1.heap.objs.size + 2) (s1.heap.objs.size + 3) s1.heap.objs.size (s1.heap.objs.size + 1) k1 k2 :=
        ⟨ne_nat (by omega), ne_nat (by omega), ne_nat (by omega), ne_nat (by omega), ne_nat (by omega), ne_nat (by omega), ne_nat (by omega), ne_nat (by omega), ne_nat (by omega), ne_nat (by omega), ⟨ap1 _ (by omega), ap1 _ (by omega), ap1 _ (by omega), ap1 _ (by omega)⟩, ⟨ap2 _ (by omega), ap2 _ (by omega), ap2 _ (by omega), ap2 _ (by omega)⟩⟩
      exact ⟨s1.heap.objs.size + 4, [s1.heap.objs.size + 4, s1.heap.objs.size + 2, s1.heap.objs.size + 3, s1.heap.objs.size, s1.heap.objs.size + 1], _, _, H1, rfl, I2, turn_zipK (tk1 := tk1) (tk2 := tk2) ap, ⟨hz, hTI, ⟨_, _, hTO⟩, st1 _ _ h1, st2 _ _ h2⟩, fresh5, q⟩
/-! as walks -/
theorem walk_zipK {K : PySem.W.Frag} {k1 k2 : Kd} {xs ys : List V} {n : Nat} (hn : n = min xs.length ys.length) :
    Walk (ItzK K k1 k2) n (fun H => k1.has K H xs ∧ k2.has K H ys) (fun i H v H' => ∃ T x y, v = .ref T ∧ H T = none ∧ H' = upd H T (.tup [x, y]) ∧ xs[i]? = some x ∧ ys[i]? = some y) :=
  ⟨fun i H hi g => ⟨xs, ys, g.1, g.2, by omega, by omega⟩, fun H g => ⟨xs, ys, g.1, g.2, by omega, by omega, by omega⟩, fun i H v H' hi g y => by
    obtain ⟨T, x, y, h1, h2, h3, h4, h5⟩ := y
    exact ⟨T, x, y, h1, h2, h3, h4 xs g.1, h5 ys g.2⟩⟩
end Zp

/-! rules of our own: text[::-1], min of a list of tuples of numbers -/
namespace Dk
open PySem PySem.Spec PyProof.Rows L2 PySem.SeqAt PySem.W
/-! text[::-1] -/
def revS (z : Str) : Str := ⟨(cs z).reverse.toArray⟩
theorem cs_rev (z : Str) : cs (revS z) = (cs z).reverse := List.toList_toArray
theorem rev_len (z : Str) : (revS z).length = z.length := by rw [← cs_len, cs_rev, List.length_reverse, cs_len]
theorem rev_made (z : Str) (t u : Tok) : sliceMade z t none none (some (-1, u)) = Made.str (revS z) := by
  have e : slicePicked z none none (some (-1, u)) = (List.range z.length).reverse := by
    show sliceRange ((z.length : Int) - 1) (-1) (-1) = _
    rw [krv_sliceRange, krv_range]
  unfold sliceMade
  rw [e]
  have e2 : ((Option.map (fun x => x.1) (some ((-1 : Int), u))).getD 1 == 1 && ((List.range z.length).reverse.length == z.length)) = false := by
    have : ((-1 : Int) == 1) = false := by decide
    show (((-1 : Int) == 1) && _) = false
    rw [this, Bool.false_and]
  rw [if_neg (by rw [e2]; exact Bool.false_ne_true)]
  congr 1
  unfold revS
  congr 1
  have e3 : ((List.range z.length).reverse.filterMap (z.cps[·]?)) = (cs z).reverse := by
    rw [List.filterMap_reverse]
    congr 1
    exact krv_all z.cps
  rw [e3]
def tRevS (te : TE) : TE := fun σ H Q => te σ H fun x H1 => ∃ z, x = .str z ∧ z.length ≤ sizeLine ∧ Q (.str (revS z)) H1
theorem pe_revS {X : Cx} {e st : Expr} {te ts : TE} {pos p2 : Pos} (he : PE X e te) (hst : PE X st ts) (hv : ∀ σ H (Q : VK), Q (.int (-1)) H → ts σ H Q) : PE X (.Subscript e (.Slice none none (some st) p2) pos) (tRevS te) := by
  refine ⟨fun pins s σ H Q I h => ?_⟩
  refine Subscript_ (thn (he.run pins s σ H _ I h) fun v s1 ⟨x, H1, I1, r1, q1⟩ => ?_)
  obtain ⟨z, rfl, hz, q⟩ := q1
  obtain ⟨t, rfl⟩ := r1
  refine wpAny_Slice ?_
  rw [evalPart_none]
  refine wpAny_pure ?_
  refine wpAny_pure ?_
  rw [evalPart_some]
  refine thn (hst.run pins s1 σ H1 _ I1 (hv σ H1 (fun y H2 => y = .int (-1) ∧ H2 = H1) ⟨rfl, rfl⟩)) fun u s2 ⟨y, H2, I2, ry, qy, eH⟩ => ?_
  subst qy eH
  obtain ⟨tk, rfl⟩ := ry
  have I3 : Inv X pins σ H2 { s2 with heap := s2.heap.push { cls := .type "slice", data := .fields #[.none, .none, .int (-1) tk] } } := I2.kept (t' := s2.toks) fun b ob q => Heap.get?_push_of_some _ q
  show wpAny (model X.prog X.w) X.A (subscriptTail e (.Slice none none (some st) p2) (.str z t) (.ref s2.heap.objs.size)) (EP X pins σ Q) X.xe { s2 with heap := s2.heap.push { cls := .type "slice", data := .fields #[.none, .none, .int (-1) tk] } }
  refine tail_any (ops := [.ref s2.heap.objs.size, .str z t]) (typeIs_str _ z t) F.slot_str_getitem.lookup ?_ (by with_unfolding_all rfl)
  refine wpAny_getItem_str_slice (l := none) (u := none) (st := some (-1, tk)) ⟨_, Heap.get?_push_size _ rfl, rfl, rfl⟩ rfl ?_
  rw [rev_made]
  exact ⟨by rw [rev_len]; exact hz, .str _, H2, I3.tok _, ⟨_, rfl⟩, q⟩
theorem r_revS {te : TE} {σ : L2.St} {H : Hp} {Q : VK} (h : te σ H fun x H1 => ∃ z, x = .str z ∧ z.length ≤ sizeLine ∧ Q (.str (revS z)) H1) : tRevS te σ H Q := h
theorem r_revZ {z : Str} {H : Hp} {Q : VK} (hz : z.length ≤ 8000) (q : Q (.str (revS z)) H) : ∃ y, V.str z = .str y ∧ y.length ≤ sizeLine ∧ Q (.str (revS y)) H := ⟨z, rfl, by rw [sizeLine_eq]; omega, q⟩
/-! zip -/
theorem r_forZo {K : PySem.W.Frag} {ta : TA} {g : TG} {tb : TS} {D : Ends} {σ : L2.St} {H : Hp} (h : ta σ H fun vs H1 => ∃ k1 k2 : Zp.Kd, vs = [k1.v, k2.v] ∧ (∃ xs, k1.has K H1 xs) ∧ (∃ ys, k2.has K H1 ys) ∧ LoopW (Zp.ItzK K k1 k2) g tb D σ H1) : tFor (Zp.iZipK K ta) g tb D σ H := h
theorem sgs_at {z : Str} {i : Nat} {x : V} (h : (Zp.sgs z)[i]? = some x) : ∃ c, (cs z)[i]? = some c ∧ x = .str ⟨#[c]⟩ := by
  rw [List.getElem?_map] at h
  obtain ⟨c, hc, rfl⟩ := Option.map_eq_some_iff.mp h
  exact ⟨c, hc, rfl⟩
/-- over zip(text, text) -/
theorem l_ZS {K : PySem.W.Frag} {x y : Str} {g : TG} {tb : TS} {D : Ends} {σ : L2.St} {H : Hp} (Pv : Nat → L2.St → Hp → Prop) (p0 : Pv 0 σ H)
    (ht : ∀ i c d σ H p, (cs x)[i]? = some c → (cs y)[i]? = some d → Pv i σ H → H p = none → g (.ref p) σ (upd H p (.tup [.str ⟨#[c]⟩, .str ⟨#[d]⟩])) fun σ2 H2 => tb { D with nx := Pv (i + 1), ct := Pv (i + 1), bk := D.nx } σ2 H2)
    (hd : ∀ σ H, Pv (min x.length y.length) σ H → D.nx σ H) :
    ∃ k1 k2 : Zp.Kd, [V.str x, V.str y] = [k1.v, k2.v] ∧ (∃ xs, k1.has K H xs) ∧ (∃ ys, k2.has K H ys) ∧ LoopW (Zp.ItzK K k1 k2) g tb D σ H := by
  refine ⟨.s x, .s y, rfl, ⟨_, rfl⟩, ⟨_, rfl⟩, for_it (Zp.walk_zipK (xs := Zp.sgs x) (ys := Zp.sgs y) rfl) Pv p0 (fun _ _ _ _ _ => ⟨rfl, rfl⟩) (fun i v σ H H' hi p yy => ?_) fun σ H p => hd σ H ?_⟩
  · obtain ⟨T, a, b, rfl, hT, rfl, ha, hb⟩ := yy
    obtain ⟨c, hc, rfl⟩ := sgs_at ha
    obtain ⟨d, hd', rfl⟩ := sgs_at hb
    exact ht i c d σ H T hc hd' p hT
  · rw [List.length_map, List.length_map, cs_len, cs_len] at p
    exact p
/-! min of a list of data -/
section
variable {prog : Program} {w : World} {A : Around} {E : Value → Shared → Prop} {s : Shared}
theorem min_list_at {l : Addr} {vs : Array Value} {xs : List PyData} {as : List Addr} {Q : Value → Shared → Prop} (hh : A.handled = none) (hl : s.heap.IsList l vs) (hr : ReadsAll s.heap vs.toList xs as) (h0 : 0 < xs.length) (ha : AlikeAll xs) (hu : A.units + 1 + PyData.depthAll xs < cLine)
    (h : ∀ v h' tk, vs[argBest (fun i j => dataLt (xs.getD i .none) (xs.getD j .none)) (xs.length - 1)]? = some v → (∀ b o, s.heap.get? b = some o → h'.get? b = some o) → Q v { s with heap := h', toks := tk }) :
    wpAny (model prog w) A (call (.builtin "min") [.ref l]) Q E s := by
  have hn : vs.size = xs.length := readsAll_len hr
  refine call_min_walkH (iter_listW (A := A.in1) hh hl fun s₂ e W st hfp hw hk => ?_)
  refine ⟨_, _, _, _, _, _, _, s.heap, _, rfl, W, st, hfp, by omega, hw, hk, cmpIn_lt (A := A.in1) hr ha (by show A.units + 1 + _ < _; exact hu), fun v s' hP m => ?_⟩
  obtain ⟨h', tk, rfl, hk'⟩ := moved_old e rfl m
  rw [hn] at hP
  exact h v h' tk hP hk'
end
theorem dpall_reads {X : Cx} {pins : List (Addr × Obj)} {σ : L2.St} {H : Hp} {s : Shared} (I : Inv X pins σ H s) : ∀ {xs : List V} {ds : List PyData} {its : List Value}, DpAll X.K H xs ds → Vals xs its → ∃ as, ReadsAll s.heap its ds as
  | _, _, _, .nil, .nil => ⟨_, .nil⟩
  | _, _, _, .cons h t, .cons r q => by
    obtain ⟨as, r1⟩ := Dp.reads I _ _ _ h r
    obtain ⟨bs, r2⟩ := dpall_reads I t q
    exact ⟨_, .cons r1 r2⟩
def rMinLs (K : PySem.W.Frag) : List V → Hp → VK → Prop := fun vs H Q => ∃ (p : Addr) (xs : List V) (ds : List PyData), vs = [.ref p] ∧ SqL K H p xs ∧ DpAll K H xs ds ∧ 0 < ds.length ∧ AlikeAll ds ∧ PyData.depthAll ds ≤ 60 ∧
  ∀ v, xs[argBest (fun i j => dataLt (ds.getD i .none) (ds.getD j .none)) (ds.length - 1)]? = some v → Q v H
theorem call_minLs {X : Cx} (hc : X.calm = true) (hu : X.A.units + 65 < cLine) : CallR X (.builtin "min") (rMinLs X.K) := by
  intro pins s σ H vs us Q I r h
  obtain ⟨p, xs, ds, rfl, hp, hd, h0, ha, hz, q⟩ := h
  rw [Vals.ref1 r]
  obtain ⟨its, rv, hl, _⟩ := I.list hp
  obtain ⟨as, hr⟩ : ∃ as, ReadsAll s.heap its ds as := dpall_reads I hd rv
  refine min_list_at (I.ok.hd hc) hl.isList (by simpa using hr) h0 ha (by omega) fun v h' tk hv k => ?_
  obtain ⟨x, hx, rx⟩ := Zp.vals_at rv (by simpa using hv)
  exact ⟨x, H, I.kept k, rx, q x hx⟩
/-- the best by a transitive relation: none is less -/
theorem best_least {bt : Nat → Nat → Bool} (tr : ∀ i j k, bt i j = true → bt j k = true → bt i k = true) (irr : ∀ i, bt i i = false) : ∀ n, argBest bt n ≤ n ∧ ∀ j, j ≤ n → bt j (argBest bt n) = false
  | 0 => ⟨Nat.le_refl _, fun j hj => by
    have e : j = 0 := by omega
    subst e
    exact irr 0⟩
  | n + 1 => by
    obtain ⟨h1, h2⟩ := best_least tr irr n
    show (if bt (n + 1) (argBest bt n) = true then n + 1 else argBest bt n) ≤ n + 1 ∧ ∀ j, j ≤ n + 1 → bt j (if bt (n + 1) (argBest bt n) = true then n + 1 else argBest bt n) = false
    by_cases c : bt (n + 1) (argBest bt n) = true
    · rw [if_pos c]
      refine ⟨Nat.le_refl _, fun j hj => ?_⟩
      by_cases e : j = n + 1
      · subst e
        exact irr _
      · cases d : bt j (n + 1) with
        | false => rfl
        | true =>
          have z := tr j (n + 1) _ d c
          rw [h2 j (by omega)] at z
          cases z
    · rw [if_neg c]
      refine ⟨by omega, fun j hj => ?_⟩
      by_cases e : j = n + 1
      · subst e
        simpa using c
      · exact h2 j (by omega)
theorem lt_ints (a b : Int) (xs ys : List PyData) : dataLt (.tuple (.int a :: xs)) (.tuple (.int b :: ys)) = if a = b then dataLt (.tuple xs) (.tuple ys) else decide (a < b) := by
  rw [dataLt_tuple]
  show PyProof.Rows.lexLt itemOrd ([.inl 1] ++ (keyToks (.int a) ++ keyToksAll xs)) ([.inl 1] ++ (keyToks (.int b) ++ keyToksAll ys)) = _
  rw [lex_pre]
  by_cases h : a = b
  · subst h
    rw [lex_pre, if_pos rfl, dataLt_tuple]
  · rw [if_neg h]
    show PyProof.Rows.lexLt itemOrd (.inl a :: keyToksAll xs) (.inl b :: keyToksAll ys) = _
    rw [lex_atom (by intro z; exact h (Sum.inl.inj z))]
    exact dataLt_int a b
/-! four numbers -/
abbrev Q4 := Int × Int × Int × Int
abbrev q4D (x : Q4) : PyData := .tuple [.int x.1, .int x.2.1, .int x.2.2.1, .int x.2.2.2]
def q4Lt (x y : Q4) : Prop := x.1 < y.1 ∨ (x.1 = y.1 ∧ (x.2.1 < y.2.1 ∨ (x.2.1 = y.2.1 ∧ (x.2.2.1 < y.2.2.1 ∨ (x.2.2.1 = y.2.2.1 ∧ x.2.2.2 < y.2.2.2)))))
theorem q4_lt (x y : Q4) : dataLt (q4D x) (q4D y) = true ↔ q4Lt x y := by
  unfold q4Lt
  show dataLt (.tuple (.int x.1 :: _)) (.tuple (.int y.1 :: _)) = true ↔ _
  rw [lt_ints]
  by_cases h1 : x.1 = y.1
  · rw [if_pos h1, lt_ints]
    by_cases h2 : x.2.1 = y.2.1
    · rw [if_pos h2, lt_ints]
      by_cases h3 : x.2.2.1 = y.2.2.1
      · rw [if_pos h3, lt_ints]
        by_cases h4 : x.2.2.2 = y.2.2.2
        · rw [if_pos h4]
          have e : dataLt (.tuple []) (.tuple []) = false := by decide +kernel
          rw [e]
          constructor
          · intro z
            cases z
          · intro z
            omega
        · rw [if_neg h4, decide_eq_true_iff]
          omega
      · rw [if_neg h3, decide_eq_true_iff]
        omega
    · rw [if_neg h2, decide_eq_true_iff]
      omega
  · rw [if_neg h1, decide_eq_true_iff]
    omega
def Q4V (H : Hp) (v : V) (x : Q4) : Prop := ∃ p, v = .ref p ∧ H p = some (.tup [.int x.1, .int x.2.1, .int x.2.2.1, .int x.2.2.2])
instance : Imm Q4V := ⟨fun t h => h.imp fun p z => ⟨z.1, t _ _ z.2⟩⟩
theorem Q4V.dp {K : PySem.W.Frag} {H : Hp} {v : V} {x : Q4} (h : Q4V H v x) : Dp K H v (q4D x) := by
  obtain ⟨p, rfl, hp⟩ := h
  exact .tup (sqT hp) (.cons (.int _) (.cons (.int _) (.cons (.int _) (.cons (.int _) .nil))))
theorem q4_dps {K : PySem.W.Frag} {H : Hp} {xs : List V} {l : List Q4} (h : P2 (Q4V H) xs l) : DpAll K H xs (l.map q4D) := by
  induction h with
  | nil => exact .nil
  | cons h t ih => exact .cons (Q4V.dp h) ih
/-- min(l), l a list of tuples of four numbers -/
theorem r_minQ4 {K : PySem.W.Frag} {H : Hp} {Q : VK} {p : Addr} {xs : List V} {l : List Q4} (hp : H p = some (.lst xs)) (h : P2 (Q4V H) xs l) (h0 : 0 < l.length) (q : ∀ v x, Q4V H v x → x ∈ l → (∀ y ∈ l, ¬ q4Lt y x) → Q v H) : rMinLs K [.ref p] H Q := by
  have dep : PyData.depthAll (l.map q4D) ≤ 60 := by
    clear h0 q h
    induction l with
    | nil => decide
    | cons x r ih =>
      show max (q4D x).depth (PyData.depthAll (r.map q4D)) ≤ 60
      have e : (q4D x).depth ≤ 2 := by simp [q4D, PyData.depth, PyData.depthAll]
      omega
  refine ⟨p, xs, l.map q4D, rfl, sqL hp, q4_dps h, by rw [List.length_map]; exact h0, ⟨fun a ha b hb => ?_, fun a ha z => ?_⟩, dep, fun v hv => ?_⟩
  · obtain ⟨x, _, rfl⟩ := List.mem_map.mp ha
    obtain ⟨y, _, rfl⟩ := List.mem_map.mp hb
    rfl
  · obtain ⟨x, _, rfl⟩ := List.mem_map.mp ha
    cases z
  · rw [List.length_map] at hv
    obtain ⟨x, hx, sx⟩ := h.get hv
    have gd : ∀ {i : Nat} {y : Q4}, l[i]? = some y → (l.map q4D).getD i .none = q4D y := fun {i y} e => by
      rw [List.getD_eq_getElem?_getD, List.getElem?_map, e]; rfl
    have at_ : ∀ i, i < l.length → ∃ y, l[i]? = some y := fun i hi => ⟨_, List.getElem?_eq_getElem hi⟩
    have lt0 : ∀ i, l.length ≤ i → (l.map q4D).getD i .none = PyData.none := fun i hi => by
      rw [List.getD_eq_getElem?_getD, List.getElem?_eq_none (by rw [List.length_map]; exact hi)]; rfl
    refine q v x sx (List.mem_of_getElem? hx) fun y hy hlt => ?_
    obtain ⟨j, hj⟩ := List.getElem?_of_mem hy
    have hjl := (List.getElem?_eq_some_iff.mp hj).1
    -- the best is least: by walking along
    have key : ∀ n, n < l.length → ∃ b, l[argBest (fun i j => dataLt ((l.map q4D).getD i .none) ((l.map q4D).getD j .none)) n]? = some b ∧ ∀ j y, j ≤ n → l[j]? = some y → ¬ q4Lt y b := by
      intro n
      induction n with
      | zero =>
        intro hn
        obtain ⟨b, hb⟩ := at_ 0 hn
        refine ⟨b, hb, fun j y hj hy => ?_⟩
        have e : j = 0 := by omega
        subst e
        rw [hb] at hy
        rw [Option.some.inj hy]
        unfold q4Lt
        omega
      | succ n ih =>
        intro hn
        obtain ⟨b, hb, hmin⟩ := ih (by omega)
        obtain ⟨c, hc⟩ := at_ (n + 1) hn
        show ∃ b, l[if dataLt ((l.map q4D).getD (n + 1) .none) ((l.map q4D).getD (argBest _ n) .none) = true then n + 1 else argBest _ n]? = some b ∧ _
        rw [gd hc, gd hb]
        by_cases e : dataLt (q4D c) (q4D b) = true
        · rw [if_pos e]
          have e' := (q4_lt c b).mp e
          refine ⟨c, hc, fun j y hj hy h => ?_⟩
          by_cases ej : j = n + 1
          · subst ej
            rw [hc] at hy
            cases hy
            unfold q4Lt at h
            omega
          · refine hmin j y (by omega) hy ?_
            unfold q4Lt at h e' ⊢
            omega
        · rw [if_neg e]
          refine ⟨b, hb, fun j y hj hy h => ?_⟩
          by_cases ej : j = n + 1
          · subst ej
            rw [hc] at hy
            cases hy
            exact e ((q4_lt _ _).mpr h)
          · exact hmin j y (by omega) hy h
    obtain ⟨b, hb, hmin⟩ := key (l.length - 1) (by omega)
    rw [hx] at hb
    cases hb
    exact hmin j y (by omega) hj hlt
end Dk

/-! list(zip(a, b)), a and b each a list, a tuple or a text -/
namespace Zl
open PySem PySem.Spec PyProof.Rows L2 Dk Zp PySem.W
section
variable {prog : Program} {w : World} {A : Around} {E : Value → Shared → Prop} {s : Shared} {z TI TO T i1 i2 : Addr} {fp1 fp2 : List Addr} {f : Bool} {oT : Obj} {i n1 n2 : Nat} {P1 P2 : Nat → Value → Prop} {St1 St2 : Nat → Heap → Prop}
theorem next_item_held {Q : Value → Shared → Prop} (S : ZipSep2 z TI TO i1 i2 fp1 fp2) (D1 : Draws prog w A i1 fp1 n1 P1 St1) (D2 : Draws prog w A i2 fp2 n2 P2 St2)
    (hz : IsZipHeld s.heap z TI TO T f) (hT : s.heap.get? T = some oT) (hTI : IsTupOf2 s.heap TI (.ref i1) (.ref i2)) (st1 : St1 i s.heap) (st2 : St2 i s.heap) (hlt1 : i < n1) (hlt2 : i < n2)
    (hQ : ∀ x1 x2 h' tk, P1 i x1 → P2 i x2 → IsZipHeld h' z TI TO T true → St1 (i + 1) h' → St2 (i + 1) h' → IsTupOf2 h' s.heap.objs.size x1 x2 → h'.objs.size = s.heap.objs.size + 1 →
      (∀ c o, c ≠ z → c ≠ i1 → c ≠ i2 → s.heap.get? c = some o → h'.get? c = some o) → Q (.ref s.heap.objs.size) { s with heap := h', toks := tk }) :
    wpAny (model prog w) A (Builtin.«zip.__next__» ⟨[.ref z], []⟩) (fun fin s' => ∃ v, fin = .done (.ret v) ∧ Q v s') E s := by
  obtain ⟨hp, g, d, tk0, os⟩ := s
  show wpAny _ _ (field (.ref z) 2 >>= _) _ _ _
  refine wpAny_bind (wpAny_field hz rfl (x := .bool false) rfl ?_)
  show wpAny _ _ (field (.ref z) 3 >>= _) _ _ _
  refine wpAny_bind (wpAny_field hz rfl (x := .ref TI) rfl ?_)
  refine wpAny_bind (wpAny_seqItems hTI rfl ?_)
  show wpAny _ _ (Builtin.SmallTypes.ownedTupleIsFree (.ref z) >>= _) _ _ _
  refine wpAny_bind (wpAny_tupleHeld_zip hz hT fun h₁ hz₁ hs₁ => ?_)
  replace hs₁ : Heap.SameBut z hp h₁ := hs₁
  simp only [Bool.false_eq_true, if_false]
  refine wpAny_bind ?_
  rw [← Array.forIn_toList]
  simp only [List.forIn_cons, List.forIn_nil]
  refine wpAny_bind (wpAny_bind (wpAny_holding ?_))
  show wpAny _ _ (Builtin.SmallTypes.nextOf (.ref i1) >>= _) _ _ ⟨h₁, g, d, tk0, os⟩
  refine wpAny_bind (D1.item i _ _ _ hlt1 (D1.over st1 hs₁ S.zf1) fun x1 p1 tk1 hx1 sn1 hp1 => wpAny_pure ?_)
  replace hp1 : Heap.SameBut i1 h₁ p1 := hp1
  refine wpAny_pure ?_
  refine wpAny_bind (wpAny_bind (wpAny_holding ?_))
  show wpAny _ _ (Builtin.SmallTypes.nextOf (.ref i2) >>= _) _ _ ⟨p1, g, d, tk1, os⟩
  refine wpAny_bind (D2.item i _ _ _ hlt2 (D2.over (D2.over st2 hs₁ S.zf2) hp1 S.sep1_2) fun x2 p2 tk2 hx2 sn2 hp2 => wpAny_pure ?_)
  replace hp2 : Heap.SameBut i2 p1 p2 := hp2
  refine wpAny_pure (wpAny_pure ?_)
  show wpAny _ _ (newTuple [x1, x2] >>= _) _ _ ⟨p2, g, d, tk2, os⟩
  refine wpAny_bind (wpAny_newTuple ?_)
  have hsz : p2.objs.size = hp.objs.size := by rw [hp2.1, hp1.1, hs₁.1]
  have hz₃ : IsZipHeld p2 z TI TO T true := hp2.extBut _ _ S.zi2 (hp1.extBut _ _ S.zi1 hz₁)
  have hk : ∀ c o, c ≠ z → c ≠ i1 → c ≠ i2 → hp.get? c = some o → p2.get? c = some o := fun c o c1 c2 c3 e => hp2.extBut _ _ c3 (hp1.extBut _ _ c2 (hs₁.extBut _ _ c1 e))
  have hj1 : St1 (i + 1) p2 := D1.over sn1 hp2 S.sep2_1
  refine wpAny_pure ⟨_, rfl, ?_⟩
  show Q (.ref p2.objs.size) ⟨p2.push { cls := .type "tuple", data := .seq #[x1, x2] }, g, d, tk2, os⟩
  have up : ∀ c o, p2.get? c = some o → (p2.push { cls := .type "tuple", data := .seq #[x1, x2] }).get? c = some o := fun c o e => Heap.get?_push_of_some _ e
  have hpT : IsTupOf2 (p2.push { cls := .type "tuple", data := .seq #[x1, x2] }) p2.objs.size x1 x2 := Heap.get?_push_size _ rfl
  have hz4 : (p2.push { cls := .type "tuple", data := .seq #[x1, x2] }).objs.size = p2.objs.size + 1 := Heap.size_push ..
  rw [hsz] at hpT hz4 ⊢
  exact hQ x1 x2 _ tk2 hx1 hx2 (up _ _ hz₃) (D1.frame _ _ _ hj1 fun b _ o e => up b o e) (D2.frame _ _ _ sn2 fun b _ o e => up b o e) hpT hz4 fun c o c1 c2 c3 e => up c o (hk c o c1 c2 c3 e)
theorem next_end_held {Q : Fin → Shared → Prop} (S : ZipSep2 z TI TO i1 i2 fp1 fp2) (D1 : Draws prog w A i1 fp1 n1 P1 St1) (D2 : Draws prog w A i2 fp2 n2 P2 St2)
    (hz : IsZipHeld s.heap z TI TO T f) (hT : s.heap.get? T = some oT) (hTI : IsTupOf2 s.heap TI (.ref i1) (.ref i2)) (st1 : St1 i s.heap) (st2 : St2 i s.heap) (hle1 : i ≤ n1) (hle2 : i ≤ n2) (hend : i = n1 ∨ i = n2)
    (hE : ∀ h' tk e, (∀ c o, c ≠ z → c ≠ i1 → c ≠ i2 → s.heap.get? c = some o → h'.get? c = some o) → (∃ o, h'.get? e = some o ∧ o.cls = .type "StopIteration") → E (.ref e) { s with heap := h', toks := tk }) :
    wpAny (model prog w) A (Builtin.«zip.__next__» ⟨[.ref z], []⟩) Q E s := by
  obtain ⟨hp, g, d, tk0, os⟩ := s
  show wpAny _ _ (field (.ref z) 2 >>= _) _ _ _
  refine wpAny_bind (wpAny_field hz rfl (x := .bool false) rfl ?_)
  show wpAny _ _ (field (.ref z) 3 >>= _) _ _ _
  refine wpAny_bind (wpAny_field hz rfl (x := .ref TI) rfl ?_)
  refine wpAny_bind (wpAny_seqItems hTI rfl ?_)
  show wpAny _ _ (Builtin.SmallTypes.ownedTupleIsFree (.ref z) >>= _) _ _ _
  refine wpAny_bind (wpAny_tupleHeld_zip hz hT fun h₁ hz₁ hs₁ => ?_)
  replace hs₁ : Heap.SameBut z hp h₁ := hs₁
  simp only [Bool.false_eq_true, if_false]
  refine wpAny_bind ?_
  rw [← Array.forIn_toList]
  simp only [List.forIn_cons, List.forIn_nil]
  refine wpAny_bind (wpAny_bind (wpAny_holding ?_))
  show wpAny _ _ (Builtin.SmallTypes.nextOf (.ref i1) >>= _) _ _ ⟨h₁, g, d, tk0, os⟩
  by_cases hlt1 : i < n1
  · refine wpAny_bind (D1.item i _ _ _ hlt1 (D1.over st1 hs₁ S.zf1) fun x1 p1 tk1 hx1 sn1 hp1 => wpAny_pure ?_)
    replace hp1 : Heap.SameBut i1 h₁ p1 := hp1
    have hi2 : i = n2 := by omega
    refine wpAny_pure ?_
    refine wpAny_bind (wpAny_bind (wpAny_holding ?_))
    show wpAny _ _ (Builtin.SmallTypes.nextOf (.ref i2) >>= _) _ _ ⟨p1, g, d, tk1, os⟩
    refine wpAny_bind (D2.done ⟨p1, g, d, tk1, os⟩ _ _ (by rw [← hi2]; exact D2.over (D2.over st2 hs₁ S.zf2) hp1 S.sep1_2) fun q e hq he => ?_)
    replace hq : Heap.ExtBut i2 p1 q := hq
    exact hE q tk1 e (fun c o cz c1 c2 x => hq _ _ c2 (hp1.extBut _ _ c1 (hs₁.extBut _ _ cz x))) he
  · have hi1 : i = n1 := by omega
    refine wpAny_bind (D1.done ⟨h₁, g, d, tk0, os⟩ _ _ (by rw [← hi1]; exact D1.over st1 hs₁ S.zf1) fun q e hq he => ?_)
    replace hq : Heap.ExtBut i1 h₁ q := hq
    exact hE q tk0 e (fun c o cz c1 c2 x => hq _ _ c1 (hs₁.extBut _ _ cz x)) he
theorem pyNext_item_held {Q : Option Value → Shared → Prop} (S : ZipSep2 z TI TO i1 i2 fp1 fp2) (D1 : Draws prog w A.in1 i1 fp1 n1 P1 St1) (D2 : Draws prog w A.in1 i2 fp2 n2 P2 St2)
    (hz : IsZipHeld s.heap z TI TO T f) (hT : s.heap.get? T = some oT) (hTI : IsTupOf2 s.heap TI (.ref i1) (.ref i2)) (st1 : St1 i s.heap) (st2 : St2 i s.heap) (hlt1 : i < n1) (hlt2 : i < n2)
    (hQ : ∀ x1 x2 h' tk, P1 i x1 → P2 i x2 → IsZipHeld h' z TI TO T true → St1 (i + 1) h' → St2 (i + 1) h' → IsTupOf2 h' s.heap.objs.size x1 x2 → h'.objs.size = s.heap.objs.size + 1 →
      (∀ c o, c ≠ z → c ≠ i1 → c ≠ i2 → s.heap.get? c = some o → h'.get? c = some o) → Q (some (.ref s.heap.objs.size)) { s with heap := h', toks := tk }) :
    wpAny (model prog w) A (pyNext (.ref z)) Q E s := by
  have hTy : s.TypeIs (.ref z) "zip" := ⟨_, hz, rfl⟩
  unfold pyNext
  exact wpAny_bind (wpAny_attempt (wpAny_callSpecial?_slot (name := Str.ofString "__next__") hTy F.slot_zip_next
    (wpAny_call_entry F.slot_zip_next hTy F.entry_zip_next
      (next_item_held S D1 D2 hz hT hTI st1 st2 hlt1 hlt2 fun x1 x2 h' tk y1 y2 b1 d1 d2 b5 b6 b7 => wpAny_pure (hQ x1 x2 h' tk y1 y2 b1 d1 d2 b5 b6 b7)) (F.args_zip_next_1 _))))
theorem pyNext_end_held {Q : Option Value → Shared → Prop} (S : ZipSep2 z TI TO i1 i2 fp1 fp2) (D1 : Draws prog w A.in1 i1 fp1 n1 P1 St1) (D2 : Draws prog w A.in1 i2 fp2 n2 P2 St2)
    (hz : IsZipHeld s.heap z TI TO T f) (hT : s.heap.get? T = some oT) (hTI : IsTupOf2 s.heap TI (.ref i1) (.ref i2)) (st1 : St1 i s.heap) (st2 : St2 i s.heap) (hle1 : i ≤ n1) (hle2 : i ≤ n2) (hend : i = n1 ∨ i = n2)
    (hQ : ∀ h' tk, (∀ c o, c ≠ z → c ≠ i1 → c ≠ i2 → s.heap.get? c = some o → h'.get? c = some o) → Q none { s with heap := h', toks := tk }) : wpAny (model prog w) A (pyNext (.ref z)) Q E s := by
  have hTy : s.TypeIs (.ref z) "zip" := ⟨_, hz, rfl⟩
  unfold pyNext
  refine wpAny_bind (wpAny_attempt (wpAny_callSpecial?_slot (name := Str.ofString "__next__") hTy F.slot_zip_next
    (wpAny_call_entry F.slot_zip_next hTy F.entry_zip_next (next_end_held S D1 D2 hz hT hTI st1 st2 hle1 hle2 hend fun h' tk e hk he => ?_) (F.args_zip_next_1 _))))
  obtain ⟨o, ho, hc⟩ := he
  refine wpAny_bind (wpAny_isInstance (T := "StopIteration") (b := true) ⟨o, ho, hc⟩ isSubtype_stop ?_)
  exact wpAny_pure (hQ _ _ hk)
end
theorem zip_no_len : typeLookup (.type "zip") "__len__" = pure none := am_miss_of_fast (by decide +kernel)
theorem zip_no_hint : typeLookup (.type "zip") "__length_hint__" = pure none := am_miss_of_fast (by decide +kernel)

section
variable {X : Cx} {pins : List (Addr × Obj)} {σ : L2.St} {H : Hp} {s : Shared} {A : Around}
theorem kd_draws (I : Inv X pins σ H s) (hh : A.handled = none) {k : Kd} {xs : List V} (hq : k.has X.K H xs) {it : Addr} (hne : k.ap it) {tk : Tok} {i : Nat} (st : k.st tk it i s.heap) :
    ∃ (fp : List Addr) (P : Nat → Value → Prop) (St : Nat → Heap → Prop), Draws X.prog X.w A it fp xs.length P St ∧ St i s.heap ∧ (∀ j v, P j v → ∃ x, xs[j]? = some x ∧ RelV x v) ∧ (∀ j h, St j h → k.st tk it j h) ∧ it ∈ fp ∧ ∀ q ∈ fp, q = it ∨ ¬ k.ap q := by
  cases k with
  | l a =>
    obtain ⟨its, rv, p, _⟩ := I.list hq
    have e : its.toArray.size = xs.length := by rw [List.size_toArray]; exact rv.length.symm
    have D := Draws.list (prog := X.prog) (w := X.w) hh it a hne its.toArray
    rw [e] at D
    refine ⟨_, _, _, D, ⟨st, p.isList⟩, fun j v hv => vals_at rv (by simpa using hv), fun j h z => z.1, by simp, fun q hq => ?_⟩
    rcases List.mem_cons.mp hq with z | z
    · exact .inl z
    · exact .inr fun c => c (List.mem_singleton.mp z).symm
  | t a =>
    obtain ⟨its, rv, p, _⟩ := I.tuple hq
    have e : its.toArray.size = xs.length := by rw [List.size_toArray]; exact rv.length.symm
    have D := Draws.tuple (prog := X.prog) (w := X.w) hh it a hne its.toArray
    rw [e] at D
    refine ⟨_, _, _, D, ⟨st, p⟩, fun j v hv => vals_at rv (by simpa using hv), fun j h z => z.1, by simp, fun q hq => ?_⟩
    rcases List.mem_cons.mp hq with z | z
    · exact .inl z
    · exact .inr fun c => c (List.mem_singleton.mp z).symm
  | s z =>
    obtain rfl : xs = sgs z := hq
    have e : z.cps.size = (sgs z).length := by simp [sgs, cs]
    have D := Draws.text (prog := X.prog) (w := X.w) hh it z tk
    rw [e] at D
    refine ⟨_, _, _, D, st, fun j v hv => ?_, fun j h q => q, by simp, fun q hq => .inl (List.mem_singleton.mp hq)⟩
    obtain ⟨c, u, hc, rfl⟩ := hv
    refine ⟨.str ⟨#[c]⟩, ?_, u, rfl⟩
    show ((cs z).map _)[j]? = _
    rw [List.getElem?_map, show (cs z)[j]? = some c by rw [Array.getElem?_toList]; exact hc]
    rfl
theorem has_up {K : PySem.W.Frag} {G G' : Hp} (e : Ex G G') {k : Kd} {xs : List V} (h : k.has K G xs) : k.has K G' xs := by
  cases k with
  | l a => exact SqL.up e h
  | t a => exact SqT.up e h
  | s z => exact h
/-- what the zip knows of the tuple that it gave out -/
def ZO (h : Heap) (z TI TO : Addr) : Option Addr → Prop
  | none => IsZip h z TI TO .none ∧ ∃ x y, IsTupOf2 h TO x y
  | some T => ∃ f oT, IsZipHeld h z TI TO T f ∧ h.get? T = some oT
structure ZSt (k1 k2 : Kd) (tk1 tk2 : Tok) (z TI TO i1 i2 : Addr) (T0 : Option Addr) (i : Nat) (h : Heap) : Prop where
  zo : ZO h z TI TO T0
  to : ∃ o, h.get? TO = some o
  ti : IsTupOf2 h TI (.ref i1) (.ref i2)
  s1 : k1.st tk1 i1 i h
  s2 : k2.st tk2 i2 i h
theorem ZSt.keep {k1 k2 : Kd} {tk1 tk2 : Tok} {z TI TO i1 i2 : Addr} {T0 : Option Addr} {i : Nat} {h h' : Heap} (st : ZSt k1 k2 tk1 tk2 z TI TO i1 i2 T0 i h)
    (k : ∀ b, (b ∈ [z, TI, TO, i1, i2] ∨ T0 = some b) → ∀ o, h.get? b = some o → h'.get? b = some o) : ZSt k1 k2 tk1 tk2 z TI TO i1 i2 T0 i h' where
  zo := by
    have q := st.zo
    cases T0 with
    | none => exact ⟨k z (.inl (by simp)) _ q.1, q.2.imp fun x y => y.imp fun y p => k TO (.inl (by simp)) _ p⟩
    | some T =>
      obtain ⟨f, oT, h1, h2⟩ := q
      exact ⟨f, oT, k z (.inl (by simp)) _ h1, k T (.inr rfl) _ h2⟩
  to := st.to.imp fun o q => k TO (.inl (by simp)) _ q
  ti := k TI (.inl (by simp)) _ st.ti
  s1 := Kd.st_keep st.s1 fun o q => k i1 (.inl (by simp)) o q
  s2 := Kd.st_keep st.s2 fun o q => k i2 (.inl (by simp)) o q
theorem zs_item {E : Value → Shared → Prop} (hh : A.in1.handled = none) (I : Inv X pins σ H s) {k1 k2 : Kd} {xs ys : List V} (hqx : k1.has X.K H xs) (hqy : k2.has X.K H ys) {z TI TO i1 i2 : Addr} (D : Ap z TI TO i1 i2 k1 k2) {tk1 tk2 : Tok} {T0 : Option Addr}
    (hT0 : ∀ T, T0 = some T → T ∉ [z, TI, TO, i1, i2]) {i : Nat} (st : ZSt k1 k2 tk1 tk2 z TI TO i1 i2 T0 i s.heap) (hf : ∀ c ∈ [z, TI, TO, i1, i2], FpOk X pins H c) (hx : i < xs.length) (hy : i < ys.length) {Q : Option Value → Shared → Prop}
    (h : ∀ x y h' tk T1, xs[i]? = some x → ys[i]? = some y → Inv X pins σ (upd H s.heap.objs.size (.tup [x, y])) { s with heap := h', toks := tk } → T1 ∉ [z, TI, TO, i1, i2] → (T1 = s.heap.objs.size ∨ T0 = some T1) →
      ZSt k1 k2 tk1 tk2 z TI TO i1 i2 (some T1) (i + 1) h' → (∀ c ∈ [z, TI, TO, i1, i2], FpOk X pins (upd H s.heap.objs.size (.tup [x, y])) c) → (∀ c o, c ∉ [z, TI, TO, i1, i2] → s.heap.get? c = some o → h'.get? c = some o) → Q (some (.ref s.heap.objs.size)) { s with heap := h', toks := tk }) :
    wpAny (model X.prog X.w) A (pyNext (.ref z)) Q E s := by
  obtain ⟨hzo, ⟨oTO, hTOo⟩, hTI, h1, h2⟩ := st
  obtain ⟨fp1, P1, St1, D1, st1, g1, b1, m1, f1⟩ := kd_draws I hh hqx D.a1.2.2.1 h1
  obtain ⟨fp2, P2, St2, D2, st2, g2, b2, m2, f2⟩ := kd_draws I hh hqy D.a2.2.2.2 h2
  have S := D.sep m1 f1 m2 f2
  have lt : ∀ c ∈ [z, TI, TO, i1, i2], c ≠ TO → c < s.heap.objs.size := fun c hcm hTO => by
    have e' : c = z ∨ c = TI ∨ c = TO ∨ c = i1 ∨ c = i2 := by simpa using hcm
    rcases e' with q | q | q | q | q
    · rw [q]
      cases T0 with
      | none => exact Heap.lt_size hzo.1
      | some T => obtain ⟨_, _, e1, _⟩ := hzo; exact Heap.lt_size e1
    · rw [q]; exact Heap.lt_size hTI
    · exact absurd q hTO
    · rw [q]; obtain ⟨_, e1, _⟩ := Kd.st_obj h1; exact Heap.lt_size e1
    · rw [q]; obtain ⟨_, e2, _⟩ := Kd.st_obj h2; exact Heap.lt_size e2
  have fin : ∀ (u u2 : Value) (h' : Heap) (tk : Nat) (T1 : Addr), P1 i u → P2 i u2 → St1 (i + 1) h' → St2 (i + 1) h' → IsTupOf2 h' s.heap.objs.size u u2 → (∀ c o, c ∉ [z, TI, TO, i1, i2] → s.heap.get? c = some o → h'.get? c = some o) → IsTupOf2 h' TI (.ref i1) (.ref i2) → (∃ o, h'.get? TO = some o) →
      ZO h' z TI TO (some T1) → T1 ∉ [z, TI, TO, i1, i2] → (T1 = s.heap.objs.size ∨ T0 = some T1) → (∀ c ∈ [z, TI, TO, i1, i2], c ≠ s.heap.objs.size) → Q (some (.ref s.heap.objs.size)) { s with heap := h', toks := tk } := fun u u2 h' tk T1 p1 p2 s1' s2' hT hk ti to zo n1 n2 nc => by
    obtain ⟨x, hxx, ru⟩ := g1 _ _ p1
    obtain ⟨y, hyy, ru2⟩ := g2 _ _ p2
    have new : ObjOk X.prog X.w (upd H s.heap.objs.size (.tup [x, y])) h' s.heap.objs.size (.tup [x, y]) :=
      ⟨by show 2 ≤ sizeLine; decide, [u, u2], .cons ru (.cons ru2 .nil), ⟨_, hT, rfl, _, rfl⟩⟩
    have I1 : Inv X pins σ (upd H s.heap.objs.size (.tup [x, y])) { s with heap := h', toks := tk } :=
      I.turnedNew (t' := tk) (ch := [z, TI, TO, i1, i2]) hk hf (Nat.le_refl _) new
    exact h x y h' tk T1 hxx hyy I1 n1 n2 ⟨zo, to, ti, b1 _ _ s1', b2 _ _ s2'⟩ (fun c hc => ⟨by rw [upd_ne (nc c hc)]; exact (hf c hc).1, (hf c hc).2⟩) hk
  cases T0 with
  | none =>
    obtain ⟨hz, x0, y0, hTO⟩ := hzo
    have nc : ∀ c ∈ [z, TI, TO, i1, i2], c ≠ s.heap.objs.size := fun c hc => by
      by_cases e : c = TO
      · rw [e]; exact Nat.ne_of_lt (Heap.lt_size hTO)
      · exact Nat.ne_of_lt (lt c hc e)
    refine wpAny_pyNext_zipD2_item S D1 D2 hz hTI hTO st1 st2 hx hy fun u u2 h' tk p1 p2 z' TO' s1' s2' hT hsz hk => ?_
    exact fin u u2 h' tk s.heap.objs.size p1 p2 s1' s2' hT (fun c o hb q => hk c o (fun q' => hb (by simp [q'])) (fun q' => hb (by simp [q'])) (fun q' => hb (by simp [q'])) (fun q' => hb (by simp [q'])) q)
      (hk _ _ D.TIz D.TITO D.TIi1 D.TIi2 hTI) ⟨_, TO'⟩ ⟨false, _, z', hT⟩ (fun hc => nc _ hc rfl) (.inl rfl) nc
  | some T =>
    obtain ⟨f, oT, hz, hgT⟩ := hzo
    have nT := hT0 T rfl
    have nc : ∀ c ∈ [z, TI, TO, i1, i2], c ≠ s.heap.objs.size := fun c hc z => by
      have q := (hf c hc).1
      by_cases e : c = TO
      · exact Nat.lt_irrefl _ (z ▸ e ▸ Heap.lt_size hTOo)
      · exact Nat.lt_irrefl _ (z ▸ lt c hc e)
    refine pyNext_item_held S D1 D2 hz hgT hTI st1 st2 hx hy fun u u2 h' tk p1 p2 z' s1' s2' hT hsz hk => ?_
    exact fin u u2 h' tk T p1 p2 s1' s2' hT (fun c o hb q => hk c o (fun q' => hb (by simp [q'])) (fun q' => hb (by simp [q'])) (fun q' => hb (by simp [q'])) q)
      (hk _ _ D.TIz D.TIi1 D.TIi2 hTI) ⟨_, hk _ _ D.TOz D.TOi1 D.TOi2 hTOo⟩ ⟨true, oT, z', hk _ _ (fun q => nT (by simp [q])) (fun q => nT (by simp [q])) (fun q => nT (by simp [q])) hgT⟩ nT (.inr rfl) nc
theorem zs_done {E : Value → Shared → Prop} (hh : A.in1.handled = none) (I : Inv X pins σ H s) {k1 k2 : Kd} {xs ys : List V} (hqx : k1.has X.K H xs) (hqy : k2.has X.K H ys) {z TI TO i1 i2 : Addr} (D : Ap z TI TO i1 i2 k1 k2) {tk1 tk2 : Tok} {T0 : Option Addr}
    {i : Nat} (st : ZSt k1 k2 tk1 tk2 z TI TO i1 i2 T0 i s.heap) (hf : ∀ c ∈ [z, TI, TO, i1, i2], FpOk X pins H c) (hx : i ≤ xs.length) (hy : i ≤ ys.length) (he : i = xs.length ∨ i = ys.length) {Q : Option Value → Shared → Prop}
    (h : ∀ h' tk, Inv X pins σ H { s with heap := h', toks := tk } → Q none { s with heap := h', toks := tk }) : wpAny (model X.prog X.w) A (pyNext (.ref z)) Q E s := by
  obtain ⟨hzo, ⟨oTO, hTOo⟩, hTI, h1, h2⟩ := st
  obtain ⟨fp1, P1, St1, D1, st1, g1, b1, m1, f1⟩ := kd_draws I hh hqx D.a1.2.2.1 h1
  obtain ⟨fp2, P2, St2, D2, st2, g2, b2, m2, f2⟩ := kd_draws I hh hqy D.a2.2.2.2 h2
  have S := D.sep m1 f1 m2 f2
  have fin : ∀ h' tk, (∀ c o, c ∉ [z, TI, TO, i1, i2] → s.heap.get? c = some o → h'.get? c = some o) → Q none { s with heap := h', toks := tk } := fun h' tk hk =>
    h h' tk (I.turnedL (t' := tk) (ch := [z, TI, TO, i1, i2]) hk hf)
  cases T0 with
  | none =>
    obtain ⟨hz, x0, y0, hTO⟩ := hzo
    exact wpAny_pyNext_zipD2_end S D1 D2 hz hTI hTO st1 st2 hx hy he fun h' tk hk => fin h' tk fun c o hb q => hk c o (fun q' => hb (by simp [q'])) (fun q' => hb (by simp [q'])) (fun q' => hb (by simp [q'])) (fun q' => hb (by simp [q'])) q
  | some T =>
    obtain ⟨f, oT, hz, hgT⟩ := hzo
    exact pyNext_end_held S D1 D2 hz hgT hTI st1 st2 hx hy he fun h' tk hk => fin h' tk fun c o hb q => hk c o (fun q' => hb (by simp [q'])) (fun q' => hb (by simp [q'])) (fun q' => hb (by simp [q'])) q
/-- a pair of things, by value -/
def PqV (H : Hp) (v : V) (q : V × V) : Prop := ∃ t, v = .ref t ∧ H t = some (.tup [q.1, q.2])
instance : Imm PqV := ⟨fun t h => h.imp fun p z => ⟨z.1, t _ _ z.2⟩⟩
theorem zip_take {α β : Type} {xs : List α} {ys : List β} {i : Nat} {x : α} {y : β} (h1 : xs[i]? = some x) (h2 : ys[i]? = some y) : (xs.zip ys).take (i + 1) = (xs.zip ys).take i ++ [(x, y)] := by
  rw [List.take_add_one, (List.getElem?_zip_eq_some (z := (x, y))).mpr ⟨h1, h2⟩]
  rfl
theorem zl_loop {R : Result → Shared → Prop} {H1 : Hp} {k1 k2 : Kd} {xs ys : List V} (hx1 : k1.has X.K H1 xs) (hy1 : k2.has X.K H1 ys) {z TI TO i1 i2 : Addr} (D : Ap z TI TO i1 i2 k1 k2) {tk1 tk2 : Tok} {S : Addr} (hS1 : H1 S = none) (hSn : S ∉ [z, TI, TO, i1, i2]) (hh : A.in1.in1.handled = none)
    (hz : xs.length ≤ sizeLine) (hz2 : ys.length ≤ sizeLine) (res : Value) (hR : ∀ H' s' acc, Inv X pins σ H' s' → Ex H1 H' → H' S = some (.lst acc) → P2 (PqV H') acc (xs.zip ys) → R (.ok (.ret res)) s') :
    ∀ (k i : Nat) (s : Shared) (H : Hp) (acc : List V) (T0 : Option Addr), min xs.length ys.length - i = k → i ≤ min xs.length ys.length → Inv X pins σ H s → Ex H1 H → H S = some (.lst acc) → P2 (PqV H) acc ((xs.zip ys).take i) → (∀ T, T0 = some T → T ∉ [z, TI, TO, i1, i2] ∧ T ≠ S) →
      ZSt k1 k2 tk1 tk2 z TI TO i1 i2 T0 i s.heap → (∀ c ∈ [z, TI, TO, i1, i2], FpOk X pins H c) → codeAny (model X.prog X.w) A (.builtin "list.extend.loop" ⟨[.ref S, .ref z, res], []⟩) R s := by
  intro k
  induction k with
  | zero =>
    intro i s H acc T0 hk hi I e hS hP hT0 st hf
    refine codeAny_builtin PySem.F.entry_extend_loop ?_
    rw [Around.under_plainId PySem.F.plain_extend_loop _]
    show wpAny _ A.in1 (pyNext (.ref z) >>= _) _ _ _
    refine wpAny_bind (zs_done (A := A.in1) hh I (has_up e hx1) (has_up e hy1) D st hf (by omega) (by omega) (by omega) fun h' tk I' => ?_)
    refine wpAny_pure (hR _ _ acc I' e hS ?_)
    rw [List.take_of_length_le (by rw [List.length_zip]; omega)] at hP
    exact hP
  | succ k ih =>
    intro i s H acc T0 hk hi I e hS hP hT0 st hf
    have al := hP.len
    rw [List.length_take, List.length_zip] at al
    refine codeAny_builtin PySem.F.entry_extend_loop ?_
    rw [Around.under_plainId PySem.F.plain_extend_loop _]
    show wpAny _ A.in1 (pyNext (.ref z) >>= _) _ _ _
    refine wpAny_bind (zs_item (A := A.in1) hh I (has_up e hx1) (has_up e hy1) D (fun T h => (hT0 T h).1) st hf (by omega) (by omega) fun x y h' tk T1 hx hy I1 n1 n2 st' hf' hk' => ?_)
    have hSs : S ≠ s.heap.objs.size := fun q => by
      have z := I.fresh
      rw [← q, hS] at z
      cases z
    have hS2 : (upd H s.heap.objs.size (.tup [x, y])) S = some (.lst acc) := by rw [upd_ne hSs]; exact hS
    obtain ⟨z1, its, n, r, hl, eS⟩ := I1.lstM hS2
    have T1S : T1 ≠ S := by
      rcases n2 with q | q
      · rw [q]; exact Ne.symm hSs
      · exact (hT0 T1 q).2
    show wpAny _ A.in1 (updateSeq S (·.push (Value.ref s.heap.objs.size)) >>= _) _ _ { s with heap := h', toks := tk }
    refine wpAny_bind ?_
    have I2 := I1.lset (ys := acc ++ [.ref s.heap.objs.size]) (its' := its ++ [.ref s.heap.objs.size]) (f := fun a => a.push (Value.ref s.heap.objs.size)) (t' := tk) hS2 eS (by simp) (r.append (.cons (show L2.RelV (V.ref s.heap.objs.size) (Value.ref s.heap.objs.size) from rfl) .nil)) (by rw [List.length_append, List.length_singleton]; omega)
    refine wpAny_updateSeq eS rfl (wpAny_pure ⟨plainId_quiet PySem.F.plain_extend_loop _, ih (i + 1) _ _ (acc ++ [.ref s.heap.objs.size]) (some T1) (by omega) (by omega) I2 ?_ upd_same ?_ ?_ ?_ ?_⟩) ?_ ?_
    · exact Same.mut (e.trans (Same.new (Same.refl H) I.fresh)) hS1
    · rw [zip_take hx hy]
      have tn : Tk H (upd H s.heap.objs.size (.tup [x, y])) := .ex (Same.new (Same.refl H) I.fresh)
      have tp := Tk.put (o := .lst (acc ++ [.ref s.heap.objs.size])) hS2
      exact (p2_imm (tn.trans tp) hP).snoc (imm tp ⟨_, rfl, upd_same⟩)
    · intro T hT
      cases hT
      exact ⟨n1, T1S⟩
    · refine st'.keep fun b hb o q => (Heap.get?_update_other _ _ ?_).trans q
      rcases hb with hb | hb
      · exact fun q0 => hSn (by rw [q0]; exact hb)
      · cases hb
        exact Ne.symm T1S
    · intro c hc
      exact ⟨by rw [upd_ne fun q0 => hSn (by rw [← q0]; exact hc)]; exact (hf' c hc).1, (hf' c hc).2⟩
    · rw [List.size_toArray]
      omega
    · show (its.toArray.push _).size ≤ sizeLine + 1
      rw [Array.size_push, List.size_toArray]
      omega
def tListZip (K : PySem.W.Frag) (ta : TA) : TE := fun σ H Q => ta σ H fun vs H1 => ∃ (k1 k2 : Kd) (xs ys : List V), vs = [k1.v, k2.v] ∧ k1.has K H1 xs ∧ k2.has K H1 ys ∧ xs.length ≤ sizeLine ∧ ys.length ≤ sizeLine ∧
  ∀ p H' acc, Ex H1 H' → H1 p = none → H' p = some (.lst acc) → P2 (PqV H') acc (xs.zip ys) → Q (.ref p) H'
theorem pe_listZip {e e2 : Expr} {ta : TA} {p p2 pos pos2 : Pos} (hc : X.calm = true) (hg : Gl X "list") (hm : X.mg "list" = none) (hgz : Gl X "zip") (hmz : X.mg "zip" = none) (ha : PA X [e, e2] ta)
    (hs : starEach [.Call (.Name "zip" p2) [e, e2] [] pos2] X.env = (false, eval (.Call (.Name "zip" p2) [e, e2] [] pos2) X.env) :: starEach [] X.env := by rfl)
    (hs2 : starEach [e, e2] X.env = (false, eval e X.env) :: starEach [e2] X.env := by rfl) (hpl : (backTo pos2 (starEach [e2] X.env)).any (·.1) = false := by rfl) :
    PE X (.Call (.Name "list" p) [.Call (.Name "zip" p2) [e, e2] [] pos2] [] pos) (tListZip X.K ta) := by
  refine ⟨fun pins s σ H Q I h => ?_⟩
  refine wpAny_Call_Name_kw (ld_blt I hg hm boot_list ?_)
  refine PyProof.Rows.callWith_type1 ?_ hs rfl
  rw [hs]
  show wpAny _ _ (spliced ((false, eval (.Call (.Name "zip" p2) [e, e2] [] pos2) X.env) :: backTo pos (starEach [] X.env))) _ _ s
  refine Calls.spliced_cons ?_
  refine Call_ (ld_blt I hgz hmz PyProof.Rows.boot_zip (PyProof.Rows.callWith_type1 (thn (ha.run pos2 pins s σ H _ I h) fun us s1 ⟨vs, H1, I1, r1, q1⟩ => ?_) hs2 hpl))
  obtain ⟨k1, k2, xs, ys, ex, hx, hy, lx, ly, q⟩ := q1
  subst ex
  cases r1 with
  | cons r rr =>
    cases rr with
    | cons r' rr =>
      cases rr
      obtain ⟨o1, HH1, tk1, B1, g1, st1, ap1⟩ := Kd.begins I1 hx r
      obtain ⟨o2, HH2, tk2, B2, g2, st2, ap2⟩ := Kd.begins I1 hy r'
      refine zip_begins2 B1 B2 g1 g2 fun h' hz hTI hTO h1 h2 hsz hk => ?_
      have I2 : Inv X pins σ H1 { s1 with heap := h' } := I1.kept (t' := s1.toks) hk
      have fresh5 : ∀ c, c ∈ [s1.heap.objs.size + 4, s1.heap.objs.size + 2, s1.heap.objs.size + 3, s1.heap.objs.size, s1.heap.objs.size + 1] → FpOk X pins H1 c := fun c hcm => by
        have hle : s1.heap.objs.size ≤ c := by
          have e' : c = s1.heap.objs.size + 4 ∨ c = s1.heap.objs.size + 2 ∨ c = s1.heap.objs.size + 3 ∨ c = s1.heap.objs.size ∨ c = s1.heap.objs.size + 1 := by simpa using hcm
          omega
        exact I1.fpOk hle (I1.hok.fresh hle)
      have ap : Ap (s1.heap.objs.size + 4) (s1.heap.objs.size + 2) (s1.heap.objs.size + 3) s1.heap.objs.size (s1.heap.objs.size + 1) k1 k2 :=
        ⟨ne_nat (by omega), ne_nat (by omega), ne_nat (by omega), ne_nat (by omega), ne_nat (by omega), ne_nat (by omega), ne_nat (by omega), ne_nat (by omega), ne_nat (by omega), ne_nat (by omega), ⟨ap1 _ (by omega), ap1 _ (by omega), ap1 _ (by omega), ap1 _ (by omega)⟩, ⟨ap2 _ (by omega), ap2 _ (by omega), ap2 _ (by omega), ap2 _ (by omega)⟩⟩
      have zst : ZSt k1 k2 tk1 tk2 (s1.heap.objs.size + 4) (s1.heap.objs.size + 2) (s1.heap.objs.size + 3) s1.heap.objs.size (s1.heap.objs.size + 1) none 0 h' := ⟨⟨hz, _, _, hTO⟩, ⟨_, hTO⟩, hTI, st1 _ _ h1, st2 _ _ h2⟩
      have lt : ∀ c, c ∈ [s1.heap.objs.size + 4, s1.heap.objs.size + 2, s1.heap.objs.size + 3, s1.heap.objs.size, s1.heap.objs.size + 1] → c < h'.objs.size := fun c hcm => by
        have e' : c = s1.heap.objs.size + 4 ∨ c = s1.heap.objs.size + 2 ∨ c = s1.heap.objs.size + 3 ∨ c = s1.heap.objs.size ∨ c = s1.heap.objs.size + 1 := by simpa using hcm
        have hzl := Heap.lt_size hz
        omega
      generalize hzz : s1.heap.objs.size + 4 = z at *
      generalize s1.heap.objs.size + 2 = TI at *
      generalize s1.heap.objs.size + 3 = TO at *
      generalize s1.heap.objs.size + 1 = i2 at *
      generalize hi1 : s1.heap.objs.size = i1 at *
      refine Calls.spliced_nil ?_
      refine callType_codes (Q₁ := fun obj s₁ => obj = .ref h'.objs.size ∧ s₁ = { s1 with heap := h'.push { cls := .type "list", data := .seq #[] } }) PySem.F.called_list (PySem.F.typeCall_list_1 _) PySem.F.entry_list_init
        (code_list_new _ ⟨rfl, rfl⟩) fun obj s₁ h₁ => ?_
      obtain ⟨rfl, rfl⟩ := h₁
      have hSn : H1 h'.objs.size = none := I2.hok.fresh (Nat.le_refl _)
      have I3 := I2.lnew (ys := []) (its := []) (t' := s1.toks) .nil (Nat.zero_le _)
      have hS : (h'.push { cls := .type "list", data := .seq #[] }).get? h'.objs.size = some { cls := .type "list", data := .seq ([] : List Value).toArray } := Heap.get?_push_size _ rfl
      have sn : h'.objs.size ∉ [z, TI, TO, i1, i2] := fun hcm => Nat.lt_irrefl _ (lt _ hcm)
      refine ⟨⟨_, hS, rfl⟩, PySem.F.args_list_init_2 _ _, ?_⟩
      show wpAny _ X.A.in1.in1 (do let old ← Builtin.List.listItems (.ref h'.objs.size); Builtin.List.listUpdate (.ref h'.objs.size) (fun _ => #[]); letGo old.toList.reverse; Builtin.List.listExtendWith (.ref h'.objs.size) (.ref z) .none) _ _ _
      refine wpAny_bind ?_
      unfold Builtin.List.listItems
      refine wpAny_bind (wpAny_seqItems hS rfl (wpAny_pure ?_))
      show wpAny _ X.A.in1.in1 (updateSeq h'.objs.size (fun _ => #[]) >>= fun _ => letGo (#[] : Array Value).toList.reverse >>= fun _ => Builtin.List.listExtendWith (.ref h'.objs.size) (.ref z) .none) _ _ _
      refine wpAny_bind (wpAny_updateSeq hS rfl ?_)
      have I4 := I3.lset (l := h'.objs.size) (xs := []) (ys := []) (its := []) (its' := []) (f := fun _ => #[]) (t' := s1.toks) upd_same hS rfl .nil (Nat.zero_le _)
      have hS2 := Heap.get?_update_self (Obj.mapSeq (fun _ => (#[] : Array Value))) hS rfl
      refine wpAny_bind (wpAny_letGo ?_)
      unfold Builtin.List.listExtendWith
      have up : ∀ (hh : Heap) (f : Obj → Obj), (∀ b o, b ≠ h'.objs.size → h'.get? b = some o → hh.get? b = some o) → ∀ b o, b ≠ h'.objs.size → h'.get? b = some o → (hh.update h'.objs.size f).get? b = some o := fun hh f q b o n e =>
        (Heap.get?_update_other _ _ (Ne.symm n)).trans (q b o n e)
      have u1 : ∀ b o, b ≠ h'.objs.size → h'.get? b = some o → (h'.push { cls := .type "list", data := .seq #[] }).get? b = some o := fun b o _ e => Heap.get?_push_of_some _ e
      have u2 := up _ (Obj.mapSeq (fun _ => (#[] : Array Value))) u1
      have zS : z ≠ h'.objs.size := Nat.ne_of_lt (Heap.lt_size hz)
      have hz2 := u2 _ _ zS hz
      refine wpAny_bind (wpAny_typeOf (T := "zip") ⟨_, hz2, rfl⟩ ?_)
      have b1 : Builtin.List.listSameRef (.ref h'.objs.size) (.ref z) = false := by simp [Builtin.List.listSameRef, Ne.symm zS]
      have b2 : (Value.type "zip" == Value.type "list") = false := by decide
      have b3 : (Value.type "zip" == Value.type "tuple") = false := by decide
      simp only [b1, b2, b3, Bool.or_false, Bool.false_eq_true, if_false]
      refine wpAny_bind (wpAny_pyIter_zip hz2 ?_)
      refine wpAny_bind (wpAny_holding ?_)
      unfold Builtin.List.listLengthHint
      refine wpAny_bind (wpAny_specialOf (T := "zip") ⟨_, hz2, rfl⟩ zip_no_len ?_)
      show wpAny _ X.A.in1.in1 (specialOf (Value.ref z) (Str.ofString "__length_hint__") >>= _) _ _ _
      refine wpAny_bind (wpAny_specialOf (T := "zip") ⟨_, hz2, rfl⟩ zip_no_hint ?_)
      refine wpAny_pure ?_
      show wpAny _ X.A.in1.in1 (rule "list.extend.makes-room" >>= fun _ => Builtin.List.listTouch (.ref h'.objs.size) >>= fun _ =>
        again (.builtin "list.extend.loop" ⟨[.ref h'.objs.size, .ref z, .none], []⟩)) _ _ _
      refine wpAny_bind (wpAny_rule ?_)
      refine wpAny_bind ?_
      show wpAny _ X.A.in1.in1 (updateSeq h'.objs.size (·.push .none) >>= fun _ => updateSeq h'.objs.size (·.pop)) _ _ _
      refine wpAny_bind (wpAny_updateSeq hS2 rfl ?_)
      have I5 := I4.lset (l := h'.objs.size) (xs := []) (ys := [.non]) (its := []) (its' := [.none]) (f := (·.push .none)) (t' := s1.toks) upd_same hS2 rfl (.cons rfl .nil) (by decide)
      have hS3 := Heap.get?_update_self (Obj.mapSeq (·.push Value.none)) hS2 rfl
      refine wpAny_updateSeq (hz := by seq_fits) hS3 rfl ?_
      have I6 := I5.lset (l := h'.objs.size) (xs := [.non]) (ys := []) (its := [.none]) (its' := []) (f := (·.pop)) (t' := s1.toks) upd_same hS3 rfl .nil (Nat.zero_le _)
      have u4 := up _ (Obj.mapSeq (·.pop)) (up _ (Obj.mapSeq (·.push Value.none)) u2)
      refine wpAny_pure ⟨plainId_quiet PySem.F.plain_extend_loop _, ?_⟩
      have eH : Ex H1 (upd (upd (upd (upd H1 h'.objs.size (.lst [])) h'.objs.size (.lst [])) h'.objs.size (.lst [.non])) h'.objs.size (.lst [])) :=
        Same.mut (Same.mut (Same.mut (Same.new (Same.refl H1) hSn) hSn) hSn) hSn
      refine zl_loop (X := X) (pins := pins) (σ := σ) (A := X.A.in1) (H1 := H1) hx hy ap hSn sn (I.ok.hd hc) lx ly .none (fun H' s' acc I' e' hS' hP => ⟨rfl, .ref _, H', I', rfl, q _ H' acc e' hSn hS' hP⟩)
        _ 0 _ _ [] none rfl (Nat.zero_le _) I6 eH upd_same .nil (fun T h => by cases h) (zst.keep fun b hb o q => u4 b o (fun z => ?_) q) (fun c hcm => ?_)
      · rcases hb with hb | hb
        · exact sn (z ▸ hb)
        · cases hb
      · have n : c ≠ h'.objs.size := Nat.ne_of_lt (lt c hcm)
        refine ⟨?_, (fresh5 c hcm).2⟩
        rw [upd_ne n, upd_ne n, upd_ne n, upd_ne n]
        exact (fresh5 c hcm).1
end
end Zl

/-! a rule of our own: xs[a:c] = ys -/
namespace Dk
open PySem PySem.Spec PyProof.Rows L2 PySem.SeqAt PySem.W
def gSli (to : TE) (tl th : TO) : TG := fun v σ H Q => to σ H fun o H1 => tl σ H1 fun lo H2 => th σ H2 fun hi H3 => ∃ (l b : Addr) (xs ys : List V) (a c : Int), o = .ref l ∧ v = .ref b ∧ lo = some a ∧ hi = some c ∧
  H3 l = some (.lst xs) ∧ H3 b = some (.lst ys) ∧ l ≠ b ∧ 0 ≤ a ∧ a ≤ c ∧ c ≤ xs.length ∧ xs.length + ys.length ≤ sizeLine ∧ Q σ (upd H3 l (.lst (xs.take a.toNat ++ ys ++ xs.drop c.toNat)))
theorem pg_sli {X : Cx} {o : Expr} {lo hi : Option Expr} {to : TE} {tl th : TO} {pos p2 : Pos} (ho : PE X o to) (hl : PO X lo tl) (hu : PO X hi th)
    (ha : ∀ v, assign (.Subscript o (.Slice lo hi none p2) pos) X.env v = (do
      let ov ← holding [v] (eval o X.env)
      let iv ← holding [v, ov] (eval (.Slice lo hi none p2) X.env)
      standAt pos
      holding [v, ov, iv] (setItem ov iv v)
      release [iv, v, ov] []) := by intro _; rfl) : PG X (.Subscript o (.Slice lo hi none p2) pos) (gSli to tl th) := by
  refine ⟨fun pins s σ H v u Q I r h => ?_⟩
  rw [ha]
  refine wpAny_bind (wpAny_holding (thn (ho.run pins s σ H _ I h) fun ov s1 ⟨x, H1, I1, r1, q1⟩ => ?_))
  refine wpAny_bind (wpAny_holding (wpAny_Slice (thn (hl.run pins s1 σ H1 _ I1 q1) fun vl s2 ⟨l, H2, I2, pl, q2⟩ => thn (hu.run pins s2 σ H2 _ I2 q2) fun vu s3 ⟨w, H3, I3, pu, q3⟩ => ?_)))
  rw [evalPart_none]
  refine wpAny_pure ?_
  have I4 : Inv X pins σ H3 { s3 with heap := s3.heap.push { cls := .type "slice", data := .fields #[vl, vu, .none] } } := I3.kept (t' := s3.toks) fun b ob q => Heap.get?_push_of_some _ q
  obtain ⟨la, lb, xs, ys, a, c, rfl, rfl, rfl, rfl, h1, h2, h3, h4, h5, h6, h7, q⟩ := q3
  cases r1
  cases r
  have ra : RelV (.int a) vl := by
    cases pl with
    | int _ t => exact ⟨t, rfl⟩
  have rc : RelV (.int c) vu := by
    cases pu with
    | int _ t => exact ⟨t, rfl⟩
  refine wpAny_bind (wpAny_standAt (wpAny_bind (wpAny_holding ?_)))
  refine set_slice (s := { s3 with heap := s3.heap.push { cls := .type "slice", data := .fields #[vl, vu, .none] } }) (sl := s3.heap.objs.size) I4 h1 h2 h3 (Heap.IsSliceOf.new ..) ra rc h4 h5 h6 h7 fun s' I' => ?_
  exact wpAny_release ⟨σ, _, I', q⟩
theorem r_gsli {v : V} {σ : L2.St} {H : Hp} {Q : L2.St → Hp → Prop} {to : TE} {tl th : TO} (h : to σ H fun o H1 => tl σ H1 fun lo H2 => th σ H2 fun hi H3 => ∃ (l b : Addr) (xs ys : List V) (a c : Int), o = .ref l ∧ v = .ref b ∧ lo = some a ∧ hi = some c ∧
  H3 l = some (.lst xs) ∧ H3 b = some (.lst ys) ∧ l ≠ b ∧ 0 ≤ a ∧ a ≤ c ∧ c ≤ xs.length ∧ xs.length + ys.length ≤ sizeLine ∧ Q σ (upd H3 l (.lst (xs.take a.toNat ++ ys ++ xs.drop c.toNat)))) : gSli to tl th v σ H Q := h
end Dk

/-! isinstance of a caught error that has fields -/
namespace Dk
open PySem PySem.Spec PyProof.Rows L2
def rIsED (K : PySem.W.Frag) (D a : Addr) (cls : Value) (d : Option Addr) : List V → Hp → VK → Prop := fun xs H Q => cls = .ref D ∧ ∃ (dd : Addr) (fs : List (Str × V)) (c : V) (cv : Value) (b : Bool), d = some dd ∧ H dd = some (.xd fs) ∧ xs = [.ref a, c] ∧ (∀ u, RelV c u → u = cv) ∧ PySem.W.kitOne K (.ref D) cv = some b ∧ Q (.bl b) H
theorem call_isED {X : Cx} {a D : Addr} {oe : Obj} {cls : Value} {d : Option Addr} {pn : List (Addr × Obj)} (C : ExcC X.K D) (hz : Zc cls d oe) (hf : ∃ vs, oe.data = .fields vs) : CallR (X.suite a ((a, oe) :: pn)) (.builtin "isinstance") (rIsED X.K D a cls d) := by
  intro pins s σ H xs us Q I r h
  obtain ⟨ec, dd, fs, c, cv, b, ed, ea, rfl, hcv, e, q⟩ := h
  subst ec ed
  cases r with
  | cons rx rr =>
    cases rr with
    | cons rt rr =>
      cases rr
      cases rx
      have ec := hcv _ rt
      subst ec
      obtain ⟨hget, _⟩ := I.pin (a, oe) (List.mem_append_left _ List.mem_cons_self)
      obtain ⟨vs, hd⟩ := hf
      have hx : ObjOk X.prog X.w H s.heap dd (.xd fs) := I.hok dd _ ea
      obtain ⟨mA, hns, hr⟩ := hx
      obtain ⟨od, ho, hl⟩ := lookIn_ns hns
      have J : PySem.W.InstAt s.heap a oe D (some od) := ⟨hget, hz.1, by unfold PySem.W.notCls; rw [hd] <;> rfl, by rw [hz.2]; exact ho⟩
      have hcl : (PySem.W.clsIn X.K D).isSome = true := by
        obtain ⟨cdD, hcD, _⟩ := PySem.W.any_some C.hd
        rw [hcD]; rfl
      exact PySem.W.kia_one (PySem.W.kitx_exc hcl C.hg C.hk C.hs C.ha C.hn C.ht C.hm) I.kIn J e (fun z => nomatch z) fun tk => ⟨.bl b, H, I.kept (t' := tk) fun _ _ z => z, rfl, q⟩
theorem r_isED {K : PySem.W.Frag} {D a dd : Addr} {cls : Value} {d : Option Addr} {fs : List (Str × V)} {c : V} {cv : Value} {b : Bool} {H : Hp} {Q : VK} (h1 : cls = .ref D) (h2 : d = some dd) (h3 : H dd = some (.xd fs)) (h4 : ∀ u, RelV c u → u = cv) (h5 : PySem.W.kitOne K (.ref D) cv = some b) (q : Q (.bl b) H) : rIsED K D a cls d [.ref a, c] H Q :=
  ⟨h1, dd, fs, c, cv, b, h2, h3, rfl, h4, h5, q⟩
end Dk

/-! more rules: keywords inside a try, dicts, locks, a few methods -/
namespace Dk
open PySem PySem.Spec PyProof.Rows L2 LiI StX
section
variable {X : Cx} {CX : CXT} {k : Nat} {f : Addr} {fd : FuncData} {ps ks : List Str} {sp : Sp} {E : L2.St → XK} {x : Str} {p pos : Pos} {kws : List Keyword} {tk : TA} {g : List Value → List Value → List Value} {gV : List V → List V → List V}
def tCallKS (sp : Sp) (gV : List V → List V → List V) (E : L2.St → XK) (tk : TA) : TE := fun σ H Q => tk σ H fun zs H2 => sp (gV [] zs) H2 Q (E σ)
theorem pe_callKS (F : FnOk X.prog X.w X.K X.mg X.base CX k f fd ps sp) (hr : Room k X.A) (hg : Gl X x) (hm : X.mg x = some (.ref f)) (hk : PySem.W.keepIn X.K (.ref f) = true) (hb : KBinds X.K fd ps ks g gV) (hx : ∀ σ, PassesAt CX X σ (E σ))
    (hkw : PK X kws tk) (hall : (backToKw pos (keywordEach kws X.env)).all (·.1.isSome) = true := by rfl) (hks : (backToKw pos (keywordEach kws X.env)).filterMap (·.1) = ks := by rfl)
    (hdb : (x == ("__debug__" : Str)) = false := by decide)
    (hpl : ((backTo pos (starEach [] X.env)).any (·.1) || (backToKw pos (keywordEach kws X.env)).any (·.1.isNone)) = false := by rfl) :
    PE X (.Call (.Name x p) [] kws pos) (tCallKS sp gV E tk) := by
  refine ⟨fun pins s σ H Q I h => ?_⟩
  refine wpAny_Call_Name_kw (ld_glob I hg hm ?_ hdb)
  refine PySem.W.callWith_KW0 (h₀ := X.base) I.ok.mod.kin hk hall (thn (hkw.run pos pins s σ H _ I h) fun ws s2 ⟨zs, H2, I2, rz, q2⟩ => ⟨I2.kIn, ?_⟩) hpl
  rw [hks]
  have r2 := hb.rel (us := []) (vs := []) .nil rz
  have hl : (g [] ws).length = ps.length := by rw [← r2.length]; exact F.len _ _ _ _ q2
  refine wpAny_call (codeAny_mono (F.run X.A X.stack s2 H2 ⟨[], ks.zip ws⟩ (g [] ws) (gV [] zs) Q (E σ) hr I2.env0 (hb.to s2 [] ws I2.kIn hl) r2 q2) fun r s' hq => ?_)
  cases r with
  | error e => exact hx σ pins H2 s2 e s' I2 hq
  | ok fl =>
    cases fl with
    | ret u => exact I2.after hq
    | next => exact False.elim hq
    | brk => exact False.elim hq
    | cont => exact False.elim hq
theorem r_callKS {σ : L2.St} {H : Hp} {Q : VK} (h : tk σ H fun zs H2 => sp (gV [] zs) H2 Q (E σ)) : tCallKS sp gV E tk σ H Q := h
end
section
variable {K : PySem.W.Frag} {td ty te to : TE} {σ : L2.St} {H : Hp} {Q : VK} {v x y : V} {D : Ends}
theorem r_chain {r r' : R2} {ta tb tc : TE} (h : ta σ H fun x H1 => tb σ H1 fun y H2 => r x y H2 fun z H3 => ∃ k, z = .bl k ∧ (if k = true then tc σ H3 fun w' H4 => r' y w' H4 Q else Q (.bl false) H3)) : tChain r r' ta tb tc σ H Q := h
theorem r_dget (h : td σ H fun x H1 => ty σ H1 fun y H2 => ∃ a v, x = .ref a ∧ DGet H2 a y (some v) ∧ Q v H2) : tDGet td ty σ H Q := h
theorem r_din (h : ty σ H fun y H1 => td σ H1 fun x H2 => ∃ a o, x = .ref a ∧ DGet H2 a y o ∧ Q (.bl o.isSome) H2) : tDIn ty td σ H Q := h
theorem r_dnotin (h : ty σ H fun y H1 => td σ H1 fun x H2 => ∃ a o, x = .ref a ∧ DGet H2 a y o ∧ Q (.bl (!o.isSome)) H2) : tDNotIn ty td σ H Q := h
theorem r_lock {t : TS} (h : ∃ d u, H d = some u ∧ Mut (some u) ∧ ∀ od, t ⟨fun σ' H' => H' d = some (.frz od u) ∧ D.nx σ' (upd H' d u), fun v H' => H' d = some (.frz od u) ∧ D.rt v (upd H' d u), fun σ' H' => H' d = some (.frz od u) ∧ D.bk σ' (upd H' d u), fun σ' H' => H' d = some (.frz od u) ∧ D.ct σ' (upd H' d u)⟩ σ (upd H d (.frz od u))) : tLock t D σ H := h
theorem r_items (h : te σ H fun x H1 => rItemsL x H1 Q) : tListItems te σ H Q := h
theorem r_bits (h : to σ H fun x H1 => ∃ i, x = .int i ∧ Q (.int (Builtin.Int.intBits i : Nat)) H1) : tBits to σ H Q := h
theorem r_starC {t : TA} {QA : List V → Hp → Prop} (h : te σ H fun x H1 => ∃ p xs, x = V.ref p ∧ (SqT K H1 p xs ∨ SqL K H1 p xs) ∧ t σ H1 fun ys H2 => QA (xs ++ ys) H2) : tStar K te t σ H QA := h
theorem r_forKo {g : TG} {tb : TS} (h : td σ H fun x H1 => ∃ d o, x = .ref d ∧ ((∃ kvs, H1 d = some (.frz o (.dK kvs)) ∧ LoopW (Itk d o kvs) g tb D σ H1) ∨ ∃ kvs, H1 d = some (.frz o (.dT kvs)) ∧ LoopW (Itkt d o kvs) g tb D σ H1)) : tFor (iKeys td) g tb D σ H := h
end
/-- l.index(x, k) -/
def rIndexD3 (K : PySem.W.Frag) : V → List V → Hp → VK → Prop := fun x xs H Q => ∃ (a : Addr) (y : V) (d : PyData) (ds : List PyData) (j : Nat) (z : PyData) (k : Int), x = V.ref a ∧ xs = [y, .int k] ∧ Dp K H (V.ref a) (.list ds) ∧ Dp K H y d ∧
  SeqAt.shaped (.list ds) = true ∧ SeqAt.shaped d = true ∧ ds[j]? = some z ∧ PyData.eqv z d = true ∧ 0 ≤ k ∧ k ≤ (j : Int) ∧ (∀ (m : Nat) (z' : PyData), k ≤ (m : Int) → m < j → ds[m]? = some z' → PyData.eqv z' d = false) ∧ Q (.int (j : Nat)) H
theorem mt_indexD3 {X : Cx} (hu : X.A.units + 65 < cLine) : MtR X "list.index" (rIndexD3 X.K) := by
  intro pins s σ H x xs v us Q I rx rxs h
  obtain ⟨a, y, d, ds, j, z, k, rfl, rfl, hl, hy, sl, sd, hz, hzj, k0, kj, hno, q⟩ := h
  cases rx
  cases rxs with
  | cons ry rt =>
    rename_i uy ut
    cases rt with
    | cons rk rt =>
    rename_i uk ut
    cases rt
    obtain ⟨tk, rfl⟩ := rk
    obtain ⟨bs, r1⟩ := Dp.reads I d y uy hy ry
    have hxs : PyData.canLayAll0 ds = true := SeqAt.canLay_of_shaped sl
    have hroom : X.A.units + 1 + min (PyData.depthAll ds) d.depth < cLine := room_in_shaped sd hu
    cases hl with
    | lst hs ha =>
      obtain ⟨its, rv, ⟨⟨cls, dd, data, sls⟩, n, ho, hc, hdn, hdt⟩, hlen⟩ := I.list hs
      simp only at hc hdt
      subst hc hdt
      obtain ⟨as, h4⟩ := Dp.readsAll I ds _ its ha rv
      have hn : its.length = ds.length := SeqAt.ReadsAll.length ds its as h4
      have hmap : its.map (SeqAt.readOf s.heap) = ds := SeqAt.readsAll_map ds its as hxs h4
      have hvl := rv.length
      have hsl := sizeLine_eq
      obtain ⟨hjd, _⟩ := List.getElem?_eq_some_iff.mp hz
      have hjl : j < its.length := by omega
      have hj : j < its.toArray.size := by simpa using hjl
      have at_ : ∀ (m : Nat) (hm : m < its.toArray.size) (z' : PyData), ds[m]? = some z' → SeqAt.readOf s.heap its.toArray[m] = z' := by
        intro m hm z' hz'
        have hml : m < its.length := by simpa using hm
        rw [← hmap, List.getElem?_map, List.getElem?_eq_getElem hml] at hz'
        have e1 : SeqAt.readOf s.heap its[m] = z' := Option.some.inj (show some (SeqAt.readOf s.heap its[m]) = some z' from hz')
        simpa using e1
      have sf : SeqAt.searchFrom k its.toArray.size = k.toNat := SeqAt.searchFrom_nonneg k0 _
      have eqs := SeqAt.items_eqAt (A := X.A) (vs := its.toArray) (show ReadsAll s.heap its.toArray.toList ds as from h4) r1 hxs (SeqAt.canLay_of_shaped sd) hroom
      refine call_meets PySem.F.slot_list_index ⟨_, ho, rfl⟩ PySem.F.entry_list_index (PySem.F.args_list_index_3 _ _ _)
        (SeqAt.list_index3_found a its.toArray n dd sls uy (fun m => PyData.eqv (SeqAt.readOf s.heap (its.toArray[m]?.getD .none)) d) k tk j hj (by rw [sf]; omega) (by omega) ?_ ?_) ⟨ho, fun m hm => ?_, ?_⟩
      · show PyData.eqv (SeqAt.readOf s.heap (its.toArray[j]?.getD .none)) d = true
        rw [Array.getElem?_eq_getElem hj, Option.getD_some, at_ j hj z hz]
        exact hzj
      · intro m hm hkm hmj
        have hmd : m < ds.length := by omega
        have hz' : ds[m]? = some ds[m] := List.getElem?_eq_getElem hmd
        show PyData.eqv (SeqAt.readOf s.heap (its.toArray[m]?.getD .none)) d = false
        rw [Array.getElem?_eq_getElem hm, Option.getD_some, at_ m hm _ hz']
        exact hno m _ (by rw [sf] at hkm; omega) hmj hz'
      · show SeqAt.EqAt _ _ _ _ (PyData.eqv (SeqAt.readOf s.heap (its.toArray[m]?.getD .none)) d)
        rw [Array.getElem?_eq_getElem hm, Option.getD_some]
        exact eqs _ (Array.getElem_mem hm)
      · exact ⟨.int (j : Nat), H, I.tok _, ⟨_, rfl⟩, q⟩
theorem r_indexSg3 {K : PySem.W.Frag} {H : Hp} {Q : VK} {a : Addr} {xs : List V} {v : V} {m : List Tl.Sg} {x : Tl.Sg} {j : Nat} {k : Int} (hl : SqL K H a xs) (hm : SgL K H xs m) (hv : SgV K H v x) (hj : m[j]? = some x) (k0 : 0 ≤ k) (kj : k ≤ (j : Int)) (hno : ∀ i, i < j → m[i]? ≠ some x) (q : Q (.int (j : Nat)) H) :
    rIndexD3 K (.ref a) [v, .int k] H Q := by
  refine ⟨a, v, sgD x, m.map sgD, j, sgD x, k, rfl, rfl, .lst hl hm.dps, hv.dp, sgs_shaped m, sg_shaped x, by rw [List.getElem?_map, hj]; rfl, by rw [sg_eqv]; simp, k0, kj, fun i z _ hi hz => ?_, q⟩
  rw [List.getElem?_map] at hz
  obtain ⟨y, hy, rfl⟩ := Option.map_eq_some_iff.mp hz
  rw [sg_eqv]
  refine decide_eq_false fun e => hno i hi ?_
  rw [hy, e]
def p0 {α : Type} : List α → List α → List α
  | [], [a] => [a]
  | _, _ => []
theorem p0_rel {vs zs : List V} {us ws : List Value} (r : Vals vs us) (q : Vals zs ws) : Vals (p0 vs zs) (p0 us ws) := by
  cases r with
  | cons => exact .nil
  | nil => rcases q with _ | ⟨a, _ | _⟩
           · exact .nil
           · exact .cons a .nil
           · exact .nil
def p2310 {α : Type} : List α → List α → List α
  | [], [a, b, c, d] => [c, d, b, a]
  | _, _ => []
theorem p2310_rel {vs zs : List V} {us ws : List Value} (r : Vals vs us) (q : Vals zs ws) : Vals (p2310 vs zs) (p2310 us ws) := by
  cases r with
  | cons => exact .nil
  | nil => rcases q with _ | ⟨a, _ | ⟨b, _ | ⟨c, _ | ⟨d, _ | _⟩⟩⟩⟩
           · exact .nil
           · exact .nil
           · exact .nil
           · exact .nil
           · exact .cons c (.cons d (.cons b (.cons a .nil)))
           · exact .nil
theorem r_m1 {r : V → List V → Hp → VK → Prop} {σ : L2.St} {H : Hp} {Q : VK} {to te : TE} (h : to σ H fun x H1 => (∃ a, x = .str a) ∧ te σ H1 fun y H2 => r x [y] H2 Q) : tM1 r to te σ H Q := h
theorem r_lcTo {K : PySem.W.Frag} {tl : TE} {g : TG} {tt : TT} {te : TE} {vs : List Nat} {σ : L2.St} {H : Hp} {Q : VK} (h : tl σ H fun x H1 => ∃ a, x = .ref a ∧ (∃ xs, SqT K H1 a xs) ∧ ∀ D, H1 D = none → ∃ W : Nat → Nat → Hp → Prop, (∃ m, W 0 m (upd H1 D (.lst []))) ∧ ∀ i m H, W i m H →
  ((Itt K a).stop i H ∧ Q (.ref D) H) ∨ ((Itt K a).go i H ∧ ∃ Nx : Hp → Prop, (∀ H', Nx H' → ∃ m', m' < m ∧ W (i + 1) m' H') ∧ ∀ x H', (Itt K a).yld i H x H' → g x (wipe σ vs) H' fun σ2 H2 => wipe σ2 vs = wipe σ vs ∧ tt σ2 H2 fun b H3 =>
    if b = true then te σ2 H3 fun y H4 => ∃ acc, H4 D = some (.lst acc) ∧ acc.length < sizeLine ∧ Nx (upd H4 D (.lst (acc ++ [y]))) else Nx H3)) : tLc (iTup K tl) g tt te vs σ H Q := h
theorem l_lcT {K : PySem.W.Frag} {a : Addr} {xs : List V} {g : TG} {tt : TT} {te : TE} {vs : List Nat} {σ : L2.St} {H1 : Hp} {Qd : Addr → Hp → Prop} (hs0 : SqT K H1 a xs) (Pv : Addr → Nat → Hp → Prop) (h0 : ∀ D, H1 D = none → Pv D 0 (upd H1 D (.lst []))) (hl : ∀ D i H, Pv D i H → SqT K H a xs)
    (hs : ∀ D (i : Nat) x H, H1 D = none → xs[i]? = some x → Pv D i H → g x (wipe σ vs) H fun σ2 H2 => wipe σ2 vs = wipe σ vs ∧ tt σ2 H2 fun b H3 =>
      if b = true then te σ2 H3 fun y H4 => ∃ acc, H4 D = some (.lst acc) ∧ acc.length < sizeLine ∧ Pv D (i + 1) (upd H4 D (.lst (acc ++ [y]))) else Pv D (i + 1) H3) (hd : ∀ D H, H1 D = none → Pv D xs.length H → Qd D H) :
    ∃ b, V.ref a = .ref b ∧ (∃ xs, SqT K H1 b xs) ∧ ∀ D, H1 D = none → ∃ W : Nat → Nat → Hp → Prop, (∃ m, W 0 m (upd H1 D (.lst []))) ∧ ∀ i m H, W i m H →
  ((Itt K b).stop i H ∧ Qd D H) ∨ ((Itt K b).go i H ∧ ∃ Nx : Hp → Prop, (∀ H', Nx H' → ∃ m', m' < m ∧ W (i + 1) m' H') ∧ ∀ x H', (Itt K b).yld i H x H' → g x (wipe σ vs) H' fun σ2 H2 => wipe σ2 vs = wipe σ vs ∧ tt σ2 H2 fun b H3 =>
    if b = true then te σ2 H3 fun y H4 => ∃ acc, H4 D = some (.lst acc) ∧ acc.length < sizeLine ∧ Nx (upd H4 D (.lst (acc ++ [y]))) else Nx H3) :=
  ⟨a, rfl, ⟨xs, hs0⟩, fun D hD => lc_tup (Pv D) (h0 D hD) (fun i H _ p => hl D i H p) (fun i x H hx p => hs D i x H hD hx p) fun H p => hd D H hD p⟩
/-- over the keys of a locked dict -/
theorem l_K {d : Addr} {o : Obj} {kvs : List (Key × V)} {g : TG} {tb : TS} {D : Ends} {σ : L2.St} {H : Hp} (hd : H d = some (.frz o (.dK kvs))) (Pv : Nat → L2.St → Hp → Prop) (p0 : Pv 0 σ H) (hl : ∀ i σ H, Pv i σ H → H d = some (.frz o (.dK kvs)))
    (ht : ∀ i k v σ H, kvs[i]? = some (k, v) → Pv i σ H → g (kV k) σ H fun σ2 H2 => tb { D with nx := Pv (i + 1), ct := Pv (i + 1), bk := D.nx } σ2 H2)
    (hn : ∀ σ H, Pv kvs.length σ H → D.nx σ H) :
    ∃ d' o', V.ref d = .ref d' ∧ ((∃ kvs, H d' = some (.frz o' (.dK kvs)) ∧ LoopW (Itk d' o' kvs) g tb D σ H) ∨ ∃ kvs, H d' = some (.frz o' (.dT kvs)) ∧ LoopW (Itkt d' o' kvs) g tb D σ H) := by
  refine ⟨d, o, rfl, .inl ⟨kvs, hd, for_it walk_keys Pv p0 (fun i σ H _ p => hl i σ H p) (fun i v σ H H' hi p y => ?_) hn⟩⟩
  obtain ⟨rfl, k, w, hk, rfl⟩ := y
  exact ht i k w σ _ hk p
theorem r_lcZo {K : PySem.W.Frag} {ta : TA} {g : TG} {tt : TT} {te : TE} {vs : List Nat} {σ : L2.St} {H : Hp} {Q : VK} (h : ta σ H fun us H1 => ∃ k1 k2 : Zp.Kd, us = [k1.v, k2.v] ∧ (∃ xs, k1.has K H1 xs) ∧ (∃ ys, k2.has K H1 ys) ∧ ∀ D, H1 D = none → ∃ W : Nat → Nat → Hp → Prop, (∃ m, W 0 m (upd H1 D (.lst []))) ∧ ∀ i m H, W i m H →
  ((Zp.ItzK K k1 k2).stop i H ∧ Q (.ref D) H) ∨ ((Zp.ItzK K k1 k2).go i H ∧ ∃ Nx : Hp → Prop, (∀ H', Nx H' → ∃ m', m' < m ∧ W (i + 1) m' H') ∧ ∀ x H', (Zp.ItzK K k1 k2).yld i H x H' → g x (wipe σ vs) H' fun σ2 H2 => wipe σ2 vs = wipe σ vs ∧ tt σ2 H2 fun b H3 =>
    if b = true then te σ2 H3 fun y H4 => ∃ acc, H4 D = some (.lst acc) ∧ acc.length < sizeLine ∧ Nx (upd H4 D (.lst (acc ++ [y]))) else Nx H3)) : tLc (Zp.iZipK K ta) g tt te vs σ H Q := h
theorem l_lcZ {K : PySem.W.Frag} (k1 k2 : Zp.Kd) {xs ys : List V} {g : TG} {tt : TT} {te : TE} {vs : List Nat} {σ : L2.St} {H1 : Hp} {Qd : Addr → Hp → Prop} (hx : k1.has K H1 xs) (hy : k2.has K H1 ys) (Pv : Addr → Nat → Hp → Prop) (h0 : ∀ D, H1 D = none → Pv D 0 (upd H1 D (.lst [])))
    (hl : ∀ D i H, Pv D i H → k1.has K H xs ∧ k2.has K H ys)
    (hs : ∀ D (i : Nat) x y H p, H1 D = none → xs[i]? = some x → ys[i]? = some y → Pv D i H → H p = none → g (.ref p) (wipe σ vs) (upd H p (.tup [x, y])) fun σ2 H2 => wipe σ2 vs = wipe σ vs ∧ tt σ2 H2 fun b H3 =>
      if b = true then te σ2 H3 fun y H4 => ∃ acc, H4 D = some (.lst acc) ∧ acc.length < sizeLine ∧ Pv D (i + 1) (upd H4 D (.lst (acc ++ [y]))) else Pv D (i + 1) H3) (hd : ∀ D H, H1 D = none → Pv D (min xs.length ys.length) H → Qd D H) :
    ∃ k1' k2' : Zp.Kd, [k1.v, k2.v] = [k1'.v, k2'.v] ∧ (∃ xs, k1'.has K H1 xs) ∧ (∃ ys, k2'.has K H1 ys) ∧ ∀ D, H1 D = none → ∃ W : Nat → Nat → Hp → Prop, (∃ m, W 0 m (upd H1 D (.lst []))) ∧ ∀ i m H, W i m H →
  ((Zp.ItzK K k1' k2').stop i H ∧ Qd D H) ∨ ((Zp.ItzK K k1' k2').go i H ∧ ∃ Nx : Hp → Prop, (∀ H', Nx H' → ∃ m', m' < m ∧ W (i + 1) m' H') ∧ ∀ x H', (Zp.ItzK K k1' k2').yld i H x H' → g x (wipe σ vs) H' fun σ2 H2 => wipe σ2 vs = wipe σ vs ∧ tt σ2 H2 fun b H3 =>
    if b = true then te σ2 H3 fun y H4 => ∃ acc, H4 D = some (.lst acc) ∧ acc.length < sizeLine ∧ Nx (upd H4 D (.lst (acc ++ [y]))) else Nx H3) :=
  ⟨k1, k2, rfl, ⟨_, hx⟩, ⟨_, hy⟩, fun D hD => lc_it (Zp.walk_zipK rfl) (Pv D) (h0 D hD) (fun i H _ p => hl D i H p) (fun i v H H' hi p y => by
    obtain ⟨T, a, b, rfl, hT, rfl, ha, hb⟩ := y
    exact hs D i a b H T hD ha hb p hT) fun H p => hd D H hD p⟩
/-- over zip(tuple, tuple) -/
theorem l_ZK {K : PySem.W.Frag} (k1 k2 : Zp.Kd) {xs ys : List V} {g : TG} {tb : TS} {D : Ends} {σ : L2.St} {H : Hp} (hx : k1.has K H xs) (hy : k2.has K H ys) (Pv : Nat → L2.St → Hp → Prop) (p0 : Pv 0 σ H) (hl : ∀ i σ H, Pv i σ H → k1.has K H xs ∧ k2.has K H ys)
    (ht : ∀ i x y σ H p, xs[i]? = some x → ys[i]? = some y → Pv i σ H → H p = none → g (.ref p) σ (upd H p (.tup [x, y])) fun σ2 H2 => tb { D with nx := Pv (i + 1), ct := Pv (i + 1), bk := D.nx } σ2 H2)
    (hd : ∀ σ H, Pv (min xs.length ys.length) σ H → D.nx σ H) :
    ∃ k1' k2' : Zp.Kd, [k1.v, k2.v] = [k1'.v, k2'.v] ∧ (∃ xs, k1'.has K H xs) ∧ (∃ ys, k2'.has K H ys) ∧ LoopW (Zp.ItzK K k1' k2') g tb D σ H := by
  refine ⟨k1, k2, rfl, ⟨_, hx⟩, ⟨_, hy⟩, for_it (Zp.walk_zipK (xs := xs) (ys := ys) rfl) Pv p0 (fun i σ H _ p => hl i σ H p) (fun i v σ H H' hi p yy => ?_) hd⟩
  obtain ⟨T, a, b, rfl, hT, rfl, ha, hb⟩ := yy
  exact ht i a b σ H T ha hb p hT
/-! ### a class of two fields -/
section
variable {K : PySem.W.Frag} {σ : L2.St} {H : Hp} {C : Addr} {f g : Str} {v u : V} {W : XK}
def spInit2 (C : Addr) (f g : Str) : Sp := fun vs H Q _ => ∃ (a : Addr) (v u : V), vs = [.ref a, v, u] ∧ H a = some (exo a C none) ∧
  ∀ dx, H dx = none → dx ≠ a → Q .non (upd (upd (upd H dx (exd dx [(f, v)])) a (exo a C (some dx))) dx (exd dx [(g, u), (f, v)]))
theorem r_raise2 (q : ∀ d, H d = none → W (.ref C) (some d) (upd H d (.xd [(g, u), (f, v)]))) :
    ([v, u] : List V).length ≤ 1000 ∧ ∀ a, H a = none → spInit2 C f g (.ref a :: ([v, u] ++ [])) (upd H a (exo a C none))
      (fun w H2 => w = .non ∧ ∃ (d : Addr) (fs : List (Str × V)), H2 a = some (exo a C (some d)) ∧ H2 d = some (exd d fs) ∧ H d = none ∧ W (.ref C) (some d) (upd (del H2 a) d (.xd fs))) (fun _ _ _ => False) := by
  refine ⟨by show 2 ≤ 1000; decide, fun a ha => ⟨a, v, u, rfl, upd_same, fun dx hdx hne => ⟨rfl, dx, [(g, u), (f, v)], ?_, upd_same, ?_, ?_⟩⟩⟩
  · rw [upd_ne hne.symm]
    exact upd_same
  · rw [upd_ne hne] at hdx
    exact hdx
  · rw [upd_ne hne] at hdx
    have e : upd (del (upd (upd (upd (upd H a (exo a C none)) dx (exd dx [(f, v)])) a (exo a C (some dx))) dx (exd dx [(g, u), (f, v)])) a) dx (.xd [(g, u), (f, v)]) = upd H dx (.xd [(g, u), (f, v)]) := by
      funext b
      by_cases h1 : b = dx
      · rw [h1, upd_same, upd_same]
      · rw [upd_ne h1, upd_ne h1]
        by_cases h2 : b = a
        · rw [h2, del_same, ha]
        · rw [del_ne h2, upd_ne h1, upd_ne h2, upd_ne h1, upd_ne h2]
    rw [e]
    exact q dx hdx
end
/-- for k in range(a, a + n) -/
theorem l_R2 {a n : Nat} {b : Int} {g : TG} {tb : TS} {σ : L2.St} {H : Hp} {D : Ends} (hb : b = ((a + n : Nat) : Int)) (h2 : a + n ≤ 1000000) (Pv : Nat → L2.St → Hp → Prop) (p0 : Pv 0 σ H)
    (ht : ∀ (i : Nat) σ H, i < n → Pv i σ H → g (.int ((a + i : Nat) : Int)) σ H fun σ2 H2 => tb { D with nx := Pv (i + 1), ct := Pv (i + 1), bk := D.nx } σ2 H2) (hd : ∀ σ H, Pv n σ H → D.nx σ H) :
    ∃ i j : Int, [V.int (a : Nat), V.int b] = [.int i, .int j] ∧ (-(2 ^ 62) ≤ i ∧ i < 2 ^ 62 ∧ -(2 ^ 62) ≤ j ∧ j < 2 ^ 62) ∧ LoopW (Itr i (j - i).toNat) g tb D σ H := by
  subst hb
  refine ⟨a, ((a + n : Nat) : Int), rfl, ⟨by omega, by omega, by omega, by omega⟩, for_range Pv p0 (fun i σ H hi p => ?_) fun σ H p => hd σ H ?_⟩
  · have z := ht i σ H (by omega) p
    rw [show ((a : Nat) : Int) + (i : Nat) = ((a + i : Nat) : Int) by omega]
    exact z
  · have e : (((a + n : Nat) : Int) - ((a : Nat) : Int)).toNat = n := by omega
    rw [e] at p
    exact p
/-! ### over a list or a tuple -/
def iEith (K : PySem.W.Frag) (tl : TE) : TI := fun σ H R => tl σ H fun x H1 => ∃ a, x = .ref a ∧ (((∃ xs, SqL K H1 a xs) ∧ R (Itl K a) H1) ∨ ((∃ xs, SqT K H1 a xs) ∧ R (Itt K a) H1))
theorem pi_eith {X : Cx} {tg l : Expr} {tl : TE} (hl : PE X l tl) : PI X tg l (iEith X.K tl) := by
  refine ⟨fun pins s σ H R I h => ?_⟩
  refine thn (hl.run pins s σ H _ I h) fun v s1 ⟨x, H1, I1, r1, q1⟩ => ?_
  obtain ⟨a, e, q1⟩ := q1
  subst e
  cases r1
  rcases q1 with ⟨⟨xs, hq⟩, q⟩ | ⟨⟨xs, hq⟩, q⟩
  · obtain ⟨its, rv, p, hz⟩ := I1.list hq
    refine wpAny_pyIter_list p.isList ?_
    refine ⟨s1.heap.objs.size, [s1.heap.objs.size], _, _, H1, rfl, I1.kept (t' := s1.toks) fun b o e => Heap.get?_push_of_some _ e, turn_list a _, ⟨_, Heap.get?_push_size _ rfl, rfl, rfl⟩, fun b hb => ?_, q⟩
    have e : b = s1.heap.objs.size := by simpa using hb
    subst e
    exact I1.fpOk (Nat.le_refl _) (I1.hok.fresh (Nat.le_refl _))
  · obtain ⟨its, rv, p, hz⟩ := I1.tuple hq
    refine wpAny_pyIter_tuple (show s1.heap.IsTuple a its.toArray from p) ?_
    refine ⟨s1.heap.objs.size, [s1.heap.objs.size], _, _, H1, rfl, I1.kept (t' := s1.toks) fun b o e => Heap.get?_push_of_some _ e, turn_tuple a _, ⟨_, Heap.get?_push_size _ rfl, rfl, rfl⟩, fun b hb => ?_, q⟩
    have e : b = s1.heap.objs.size := by simpa using hb
    subst e
    exact I1.fpOk (Nat.le_refl _) (I1.hok.fresh (Nat.le_refl _))
section
variable {K : PySem.W.Frag} {tl : TE} {g : TG} {tb : TS} {D : Ends} {σ : L2.St} {H : Hp}
theorem r_forEi (h : tl σ H fun x H1 => ∃ a, x = .ref a ∧ (((∃ xs, SqL K H1 a xs) ∧ LoopW (Itl K a) g tb D σ H1) ∨ ((∃ xs, SqT K H1 a xs) ∧ LoopW (Itt K a) g tb D σ H1))) : tFor (iEith K tl) g tb D σ H := h
theorem l_EL {a : Addr} {xs : List V} (hs : SqL K H a xs) (Pv : Nat → L2.St → Hp → Prop) (p0 : Pv 0 σ H) (hl : ∀ i σ H, Pv i σ H → SqL K H a xs)
    (ht : ∀ i x σ H, xs[i]? = some x → Pv i σ H → g x σ H fun σ2 H2 => tb { D with nx := Pv (i + 1), ct := Pv (i + 1), bk := D.nx } σ2 H2) (hd : ∀ σ H, Pv xs.length σ H → D.nx σ H) :
    ∃ b, V.ref a = .ref b ∧ (((∃ xs, SqL K H b xs) ∧ LoopW (Itl K b) g tb D σ H) ∨ ((∃ xs, SqT K H b xs) ∧ LoopW (Itt K b) g tb D σ H)) := by
  obtain ⟨b, e, h1, h2⟩ := l_L hs Pv p0 hl ht hd
  exact ⟨b, e, .inl ⟨h1, h2⟩⟩
theorem l_ET {a : Addr} {xs : List V} (hs : SqT K H a xs) (Pv : Nat → L2.St → Hp → Prop) (p0 : Pv 0 σ H) (hl : ∀ i σ H, Pv i σ H → SqT K H a xs)
    (ht : ∀ i x σ H, xs[i]? = some x → Pv i σ H → g x σ H fun σ2 H2 => tb { D with nx := Pv (i + 1), ct := Pv (i + 1), bk := D.nx } σ2 H2) (hd : ∀ σ H, Pv xs.length σ H → D.nx σ H) :
    ∃ b, V.ref a = .ref b ∧ (((∃ xs, SqL K H b xs) ∧ LoopW (Itl K b) g tb D σ H) ∨ ((∃ xs, SqT K H b xs) ∧ LoopW (Itt K b) g tb D σ H)) := by
  obtain ⟨b, e, h1, h2⟩ := l_T hs Pv p0 hl ht hd
  exact ⟨b, e, .inr ⟨h1, h2⟩⟩
theorem r_inSg {Q : VK} {v : V} {p : Addr} {xs : List V} {x : Tl.Sg} {m : List Tl.Sg} (h1 : SgV K H v x) (hp : SqL K H p xs) (h2 : SgL K H xs m) (q : Q (.bl (decide (x ∈ m))) H) : rInD K v (.ref p) H Q := by
  exact ⟨_, _, h1.dp, .lst hp h2.dps, sg_shaped x, sgs_shaped m, by
    have e : ((m.map sgD).any fun z => PyData.eqv z (sgD x)) = decide (x ∈ m) := by
      rw [List.any_map, Bool.eq_iff_iff, List.any_eq_true, decide_eq_true_iff]
      constructor
      · rintro ⟨y, hy, e⟩
        rw [Function.comp_apply, sg_eqv, decide_eq_true_iff] at e
        rw [← e]
        exact hy
      · intro h
        exact ⟨x, h, by rw [Function.comp_apply, sg_eqv]; exact decide_eq_true rfl⟩
    rw [e]
    exact q⟩
end
section
variable {K : PySem.W.Frag} {a : Addr} {xs : List V} {g : TG} {tt : TT} {te : TE} {vs : List Nat} {σ : L2.St} {H1 : Hp} {Qd : Addr → Hp → Prop}
/-- what a comprehension over such a thing asks -/
def LcI (J : It) (g : TG) (tt : TT) (te : TE) (vs : List Nat) (σ : L2.St) (H1 : Hp) (Qd : Addr → Hp → Prop) : Prop := ∀ D, H1 D = none → ∃ W : Nat → Nat → Hp → Prop, (∃ m, W 0 m (upd H1 D (.lst []))) ∧ ∀ i m H, W i m H →
  (J.stop i H ∧ Qd D H) ∨ (J.go i H ∧ ∃ Nx : Hp → Prop, (∀ H', Nx H' → ∃ m', m' < m ∧ W (i + 1) m' H') ∧ ∀ x H', J.yld i H x H' → g x (wipe σ vs) H' fun σ2 H2 => wipe σ2 vs = wipe σ vs ∧ tt σ2 H2 fun b H3 =>
    if b = true then te σ2 H3 fun y H4 => ∃ acc, H4 D = some (.lst acc) ∧ acc.length < sizeLine ∧ Nx (upd H4 D (.lst (acc ++ [y]))) else Nx H3)
theorem r_lcEio {tl : TE} {H : Hp} {Q : VK} (h : tl σ H fun x H1 => ∃ a, x = .ref a ∧ (((∃ xs, SqL K H1 a xs) ∧ LcI (Itl K a) g tt te vs σ H1 fun D H => Q (.ref D) H) ∨ ((∃ xs, SqT K H1 a xs) ∧ LcI (Itt K a) g tt te vs σ H1 fun D H => Q (.ref D) H))) : tLc (iEith K tl) g tt te vs σ H Q := h
theorem l_lcEL (hs0 : SqL K H1 a xs) (Pv : Addr → Nat → Hp → Prop) (h0 : ∀ D, H1 D = none → Pv D 0 (upd H1 D (.lst []))) (hl : ∀ D i H, Pv D i H → SqL K H a xs)
    (hs : ∀ D (i : Nat) x H, H1 D = none → xs[i]? = some x → Pv D i H → g x (wipe σ vs) H fun σ2 H2 => wipe σ2 vs = wipe σ vs ∧ tt σ2 H2 fun b H3 =>
      if b = true then te σ2 H3 fun y H4 => ∃ acc, H4 D = some (.lst acc) ∧ acc.length < sizeLine ∧ Pv D (i + 1) (upd H4 D (.lst (acc ++ [y]))) else Pv D (i + 1) H3) (hd : ∀ D H, H1 D = none → Pv D xs.length H → Qd D H) :
    ∃ b, V.ref a = .ref b ∧ (((∃ xs, SqL K H1 b xs) ∧ LcI (Itl K b) g tt te vs σ H1 Qd) ∨ ((∃ xs, SqT K H1 b xs) ∧ LcI (Itt K b) g tt te vs σ H1 Qd)) := by
  obtain ⟨b, e, h1, h2⟩ := l_lcL hs0 Pv h0 hl hs hd
  exact ⟨b, e, .inl ⟨h1, h2⟩⟩
theorem l_lcET (hs0 : SqT K H1 a xs) (Pv : Addr → Nat → Hp → Prop) (h0 : ∀ D, H1 D = none → Pv D 0 (upd H1 D (.lst []))) (hl : ∀ D i H, Pv D i H → SqT K H a xs)
    (hs : ∀ D (i : Nat) x H, H1 D = none → xs[i]? = some x → Pv D i H → g x (wipe σ vs) H fun σ2 H2 => wipe σ2 vs = wipe σ vs ∧ tt σ2 H2 fun b H3 =>
      if b = true then te σ2 H3 fun y H4 => ∃ acc, H4 D = some (.lst acc) ∧ acc.length < sizeLine ∧ Pv D (i + 1) (upd H4 D (.lst (acc ++ [y]))) else Pv D (i + 1) H3) (hd : ∀ D H, H1 D = none → Pv D xs.length H → Qd D H) :
    ∃ b, V.ref a = .ref b ∧ (((∃ xs, SqL K H1 b xs) ∧ LcI (Itl K b) g tt te vs σ H1 Qd) ∨ ((∃ xs, SqT K H1 b xs) ∧ LcI (Itt K b) g tt te vs σ H1 Qd)) := by
  obtain ⟨b, e, h1, h2⟩ := l_lcT hs0 Pv h0 hl hs hd
  exact ⟨b, e, .inr ⟨h1, h2⟩⟩
end
/-- any of the two bits -/
theorem two_bits (x y a b : Nat) : decide (V.int (Builtin.bitAnd (Builtin.bitOr ((x : Int) / 2 ^ ((b : Int)).toNat) ((y : Int) / 2 ^ ((a : Int)).toNat)) 1) = V.int 0) = (!x.testBit b && !y.testBit a) := by
  have hx : ((x : Int) / 2 ^ ((b : Int)).toNat) = ((x >>> b : Nat) : Int) := by
    rw [Int.toNat_natCast, Nat.shiftRight_eq_div_pow]
    push_cast
    rfl
  have hy : ((y : Int) / 2 ^ ((a : Int)).toNat) = ((y >>> a : Nat) : Int) := by
    rw [Int.toNat_natCast, Nat.shiftRight_eq_div_pow]
    push_cast
    rfl
  rw [hx, hy, Bits.bitOr_pp (Int.natCast_nonneg _) (Int.natCast_nonneg _), Int.toNat_natCast, Int.toNat_natCast]
  have h1 : Builtin.bitAnd (((x >>> b ||| y >>> a : Nat)) : Int) 1 = (((x >>> b ||| y >>> a) &&& 1 : Nat) : Int) := by
    rw [PyProof.Rows.bitAnd_pp (Int.natCast_nonneg _) (by decide), Int.toNat_natCast]
    rfl
  rw [h1, Bool.eq_iff_iff, decide_eq_true_iff, Bool.and_eq_true]
  have e : (x >>> b ||| y >>> a).testBit 0 = (x.testBit b || y.testBit a) := by
    rw [Nat.testBit_or, Nat.testBit_shiftRight, Nat.testBit_shiftRight]
    rfl
  have e2 : ((x >>> b ||| y >>> a) &&& 1) = if (x >>> b ||| y >>> a).testBit 0 then 1 else 0 := by
    rw [Nat.and_one_is_mod, Nat.testBit_zero]
    rcases Nat.mod_two_eq_zero_or_one (x >>> b ||| y >>> a) with h | h <;> simp [h]
  rw [e2, e]
  cases x.testBit b <;> cases y.testBit a <;> simp
end Dk

/-! a box of draws of any shape; further rules -/
namespace Dk
open PySem PySem.Spec PyProof.Rows L2
/-- what a law's draws change (A), and how it stands -/
structure Box where
  A : Addr → Prop
  B : Hp → Prop
  live : ∀ H, B H → ∀ x, A x → ∃ o, H x = some o
  keep : ∀ H H', B H → (∀ x o, A x → H x = some o → H' x = some o) → B H'
/-- draws were made -/
structure Drw (b : Box) (H H' : Hp) : Prop where
  hh : ∀ x o, ¬ b.A x → H x = some o → H' x = some o
  st : b.B H'
/-- G: what is known for good, H: the heap -/
structure Wb (b : Box) (G H : Hp) : Prop where
  g : Ex G H
  n : ∀ x, b.A x → G x = none
  st : b.B H
section
variable {b : Box} {G H H1 H2 H' : Hp} {p l : Addr} {o : HO}
theorem Box.fresh (b : Box) (s : b.B H) (hp : H p = none) : ¬ b.A p := fun z => by
  obtain ⟨o, e⟩ := b.live _ s _ z
  rw [hp] at e
  cases e
theorem Box.ane (b : Box) {x : Addr} (na : ¬ b.A p) (a : b.A x) : x ≠ p := fun z => na (by rw [← z]; exact a)
theorem Box.up (b : Box) (s : b.B H) (e : Ex H H') : b.B H' := b.keep _ _ s fun x o _ h => e x o h
theorem Drw.refl (s : b.B H) : Drw b H H := ⟨fun _ _ _ h => h, s⟩
theorem Drw.trans (x : Drw b H H1) (y : Drw b H1 H2) : Drw b H H2 := ⟨fun x' o n h => y.hh _ _ n (x.hh _ _ n h), y.st⟩
theorem Drw.ex (s : b.B H) (e : Ex H H') : Drw b H H' := ⟨fun x o _ h => e x o h, b.up s e⟩
theorem Drw.then (x : Drw b H H1) (e : Ex H1 H2) : Drw b H H2 := x.trans (.ex x.st e)
theorem Drw.new (x : Drw b H H1) (hp : H1 p = none) : Drw b H (upd H1 p o) := x.then (Same.new (Same.refl _) hp)
theorem Drw.put (x : Drw b H H1) (hp : H p = none) (na : ¬ b.A p) : Drw b H (upd H1 p o) :=
  ⟨fun y u n e => by rw [upd_ne (ne_of_none e hp)]; exact x.hh y u n e, b.keep _ _ x.st fun y u a e => by rw [upd_ne (b.ane na a)]; exact e⟩
theorem Drw.at (x : Drw b H H1) (na : ¬ b.A p) (e : H p = some o) : H1 p = some o := x.hh _ _ na e
theorem Wb.of (s : b.B H) (e : Ex G H) (n : ∀ x, b.A x → G x = none) : Wb b G H := ⟨e, n, s⟩
theorem Wb.ex (w : Wb b G H) (e : Ex H H') : Wb b G H' := ⟨w.g.trans e, w.n, b.up w.st e⟩
theorem Wb.dr (w : Wb b G H) (d : Drw b H H') : Wb b G H' :=
  ⟨fun x o h => d.hh x o (fun a => by rw [w.n x a] at h; cases h) (w.g x o h), w.n, d.st⟩
theorem Wb.new (w : Wb b G H) (hp : H p = none) : Wb b (upd G p o) (upd H p o) :=
  ⟨fun x u h => by
    by_cases e : x = p
    · subst e; rw [upd_same] at h ⊢; exact h
    · rw [upd_ne e] at h ⊢; exact w.g x u h, fun x a => by
    rw [upd_ne (b.ane (b.fresh w.st hp) a)]; exact w.n x a, b.keep _ _ w.st fun x u a h => by rw [upd_ne (b.ane (b.fresh w.st hp) a)]; exact h⟩
theorem Wb.put (w : Wb b G H) (gp : G p = none) (na : ¬ b.A p) : Wb b G (upd H p o) :=
  ⟨fun x u h => by
    by_cases e : x = p
    · subst e; rw [gp] at h; cases h
    · rw [upd_ne e]; exact w.g x u h, w.n, b.keep _ _ w.st fun x u a h => by rw [upd_ne (b.ane na a)]; exact h⟩
theorem Wb.free (w : Wb b G H) (hp : H p = none) : G p = none := w.g.free hp
/-- the same under more known data -/
theorem Wb.more (w : Wb b G H) (e : Ex H H') : Wb b (fun x => if (G x).isSome then G x else none) H' := by
  have q : (fun x => if (G x).isSome then G x else none) = G := by
    funext x
    cases G x <;> rfl
  rw [q]
  exact w.ex e
end
/-! ### rules -/
section
variable {K : PySem.W.Frag} {σ : L2.St} {H : Hp} {Q : VK} {D : Ends}
theorem r_callK {sp : Sp} {gV : List V → List V → List V} {E : XK} {t tk : TA} (h : t σ H fun vs H1 => tk σ H1 fun zs H2 => sp (gV vs zs) H2 Q E) : tCallK sp gV E t tk σ H Q := h
theorem r_repL {p : Addr} {v : V} {n : Nat} (hp : H p = some (.lst [v])) (hn : n ≤ 1000000) (k : ∀ l, H l = none → Q (.ref l) (upd H l (.lst (List.replicate n v)))) : rRep (.ref p) (.int (n : Nat)) H Q := by
  refine ⟨p, n, [v], rfl, rfl, hp, by omega, by omega, ?_, fun l hl => ?_⟩
  · rw [Int.toNat_natCast, List.length_singleton, sizeLine_eq]
    omega
  · have e : (List.replicate (n : Int).toNat [v]).flatten = List.replicate n v := by
      rw [Int.toNat_natCast]
      clear k hn
      induction n with
      | zero => rfl
      | succ n ih => rw [List.replicate_succ, List.flatten_cons, ih, List.replicate_succ]; rfl
    rw [e]
    exact k l hl
/-- for k in range(x, y), x and y being a and a + n -/
theorem l_R2g {a n : Nat} {x y : Int} {g : TG} {tb : TS} (hx : x = (a : Nat)) (hy : y = ((a + n : Nat) : Int)) (h2 : a + n ≤ 1000000) (Pv : Nat → L2.St → Hp → Prop) (p0 : Pv 0 σ H)
    (ht : ∀ (i : Nat) σ H, i < n → Pv i σ H → g (.int ((a + i : Nat) : Int)) σ H fun σ2 H2 => tb { D with nx := Pv (i + 1), ct := Pv (i + 1), bk := D.nx } σ2 H2) (hd : ∀ σ H, Pv n σ H → D.nx σ H) :
    ∃ i j : Int, [V.int x, V.int y] = [.int i, .int j] ∧ (-(2 ^ 62) ≤ i ∧ i < 2 ^ 62 ∧ -(2 ^ 62) ≤ j ∧ j < 2 ^ 62) ∧ LoopW (Itr i (j - i).toNat) g tb D σ H := by
  subst hx
  exact l_R2 hy h2 Pv p0 ht hd
end
theorem app_len (a b : Str) : (a ++ b).length = a.length + b.length := by
  rw [← cs_len, cs_app, List.length_append, cs_len, cs_len]
/-- x is True, x is False: x of any kind -/
def rIsB : R2 := fun x y H Q => ∃ b, y = .bl b ∧ Q (.bl (decide (x = .bl b))) H
theorem op_isB {X : Cx} : OpR X (compareOp .Is) rIsB := by
  intro pins s σ H x y v u Q I rx ry h
  obtain ⟨b, rfl, q⟩ := h
  cases (show u = Value.bool b from ry)
  cases x with
  | bl a =>
    cases (show v = Value.bool a from rx)
    by_cases e : a = b
    · subst e
      exact wpAny_is_self rfl ⟨.bl true, H, I, rfl, by simpa using q⟩
    · exact wpAny_is_other rfl (fun z => e (Value.bool.inj z)) ⟨.bl false, H, I, rfl, by simpa [e] using q⟩
  | non => cases rx; exact wpAny_is_other rfl (fun z => nomatch z) ⟨.bl false, H, I, rfl, by simpa using q⟩
  | int i => obtain ⟨t, rfl⟩ := rx; exact wpAny_is_other rfl (fun z => nomatch z) ⟨.bl false, H, I, rfl, by simpa using q⟩
  | str i => obtain ⟨t, rfl⟩ := rx; exact wpAny_is_other rfl (fun z => nomatch z) ⟨.bl false, H, I, rfl, by simpa using q⟩
  | byt i => obtain ⟨t, rfl⟩ := rx; exact wpAny_is_other rfl (fun z => nomatch z) ⟨.bl false, H, I, rfl, by simpa using q⟩
  | flt i => obtain ⟨t, rfl⟩ := rx; exact wpAny_is_other rfl (fun z => nomatch z) ⟨.bl false, H, I, rfl, by simpa using q⟩
  | ref i => cases rx; exact wpAny_is_other rfl (fun z => nomatch z) ⟨.bl false, H, I, rfl, by simpa using q⟩
  | ty i => cases rx; exact wpAny_is_other rfl (fun z => nomatch z) ⟨.bl false, H, I, rfl, by simpa using q⟩
theorem r_isB {H : Hp} {Q : VK} {x : V} {b : Bool} (q : Q (.bl (decide (x = .bl b))) H) : rIsB x (.bl b) H Q := ⟨b, rfl, q⟩
theorem r_tyS {K : PySem.W.Frag} {H : Hp} {z : Str} {P : Prop} (k : P) : tyV K "str" (.str z) H ∧ P := ⟨by unfold tyV; simp, k⟩
theorem new1 {H : Hp} {p : Addr} (hp : H p = none) (o : HO) : ∃ H', H' = upd H p o ∧ Ex H H' ∧ H' p = some o := ⟨_, rfl, Same.new (Same.refl H) hp, upd_same⟩
/-! ### the last of one sign -/
theorem subAt1 (z : Str) (c i : Nat) : Builtin.Str.subAt z ⟨#[c]⟩ i = decide ((cs z)[i]? = some c) := by
  rw [StrLaws.subAt_eq, Bool.eq_iff_iff, beq_iff_eq, decide_eq_true_iff]
  show (z.cps.toList.drop i).take 1 = [c] ↔ z.cps.toList[i]? = some c
  rw [← List.head?_drop]
  cases z.cps.toList.drop i with
  | nil => simp
  | cons a l => simp
theorem last_in {s sub : Str} {hi j : Nat} : ∀ (l : List Nat) (st : Option Nat), (forIn l st (StrLaws.lastBody s sub hi)).run = some j → st = some j ∨ j ∈ l
  | [], st, h => .inl (by simpa using h)
  | a :: l, st, h => by
    rw [List.forIn_cons] at h
    unfold StrLaws.lastBody at h
    split at h
    · rcases last_in l (some a) h with z | z
      · exact .inr (by cases z; exact List.mem_cons_self ..)
      · exact .inr (List.mem_cons_of_mem _ z)
    · rcases last_in l st h with z | z
      · exact .inl z
      · exact .inr (List.mem_cons_of_mem _ z)
theorem rfind1 (z : Str) (c a b : Nat) (hb : b ≤ z.length) : (Txt.rfindIn z ⟨#[c]⟩ a b = -1 ∧ ∀ i, a ≤ i → i < b → (cs z)[i]? ≠ some c) ∨ ∃ j : Nat, Txt.rfindIn z ⟨#[c]⟩ a b = j ∧ a ≤ j ∧ j < b ∧ (cs z)[j]? = some c ∧ ∀ i, j < i → i < b → (cs z)[i]? ≠ some c := by
  have e1 : fromIndex z.length (a : Int) = a := by
    unfold fromIndex
    rw [if_neg (by omega)]
    omega
  have e2 : toIndexW z.length (b : Int) = b := by
    unfold toIndexW
    rw [if_neg (by omega)]
    omega
  unfold Txt.rfindIn
  rw [e1, e2, StrLaws.last_eq]
  have key := StrLaws.last_run z ⟨#[c]⟩ b (List.range' a (b + 1 - a)) [] none (fun _ h => nomatch h) (fun _ h => nomatch h) (by first | exact List.pairwise_lt_range' | simpa using List.pairwise_lt_range' (s := a) (n := b + 1 - a))
  have at1 : ∀ i, StrLaws.At z ⟨#[c]⟩ b i ↔ (i < b ∧ (cs z)[i]? = some c) := fun i => by
    unfold StrLaws.At
    rw [subAt1, decide_eq_true_iff]
    show i + 1 ≤ b ∧ _ ↔ _
    exact ⟨fun h => ⟨by omega, h.2⟩, fun h => ⟨by omega, h.2⟩⟩
  have mem : ∀ i, a ≤ i → i < b → i ∈ [] ++ List.range' a (b + 1 - a) := fun i h1 h2 => by simp [List.mem_range'_1]; omega
  cases hr : (forIn (List.range' a (b + 1 - a)) none (StrLaws.lastBody z ⟨#[c]⟩ b)).run with
  | none =>
    rw [hr] at key
    exact .inl ⟨rfl, fun i h1 h2 h3 => key i (mem i h1 h2) ((at1 i).mpr ⟨h2, h3⟩)⟩
  | some j =>
    rw [hr] at key
    obtain ⟨k1, k2⟩ := key
    obtain ⟨h1, h2⟩ := (at1 j).mp k1
    by_cases ha : a ≤ j
    · exact .inr ⟨j, rfl, ha, h1, h2, fun i g1 g2 g3 => k2 i (mem i (by omega) g2) g1 ((at1 i).mpr ⟨g2, g3⟩)⟩
    · exfalso
      rcases last_in _ _ hr with z | hi
      · cases z
      · exact ha (List.mem_range'_1.mp hi).1
end Dk

/-! rows cut into the fewest pieces: the greedy one reaches furthest -/
namespace Q61
section
variable (sp : Nat → Bool) (w : Nat) (bw : Bool)
def Let (a h : Nat) : Prop := a < h ∧ h ≤ a + w ∧ (bw = true → sp (h - 1) = true ∨ (h = a + w ∧ ∀ i, a ≤ i → i < h → sp i = false))
def IsG (b e : Nat) : Prop := (bw = false ∧ e = b + w) ∨ (bw = true ∧ ((∃ j, b ≤ j ∧ j < b + w ∧ sp j = true ∧ (∀ i, j < i → i < b + w → sp i = false) ∧ e = j + 1) ∨ ((∀ i, b ≤ i → i < b + w → sp i = false) ∧ e = b + w)))
variable {sp w bw}
theorem last_sp (b : Nat) : ∀ k, (∃ j, b ≤ j ∧ j < b + k ∧ sp j = true ∧ ∀ i, j < i → i < b + k → sp i = false) ∨ ∀ i, b ≤ i → i < b + k → sp i = false
  | 0 => .inr fun i h1 h2 => absurd h2 (by omega)
  | k + 1 => by
    cases e : sp (b + k) with
    | true => exact .inl ⟨b + k, by omega, by omega, e, fun i h1 h2 => absurd h2 (by omega)⟩
    | false =>
      rcases last_sp b k with ⟨j, h1, h2, h3, h4⟩ | h
      · refine .inl ⟨j, h1, by omega, h3, fun i g1 g2 => ?_⟩
        rcases Nat.lt_or_ge i (b + k) with g | g
        · exact h4 i g1 g
        · rw [show i = b + k by omega]; exact e
      · refine .inr fun i g1 g2 => ?_
        rcases Nat.lt_or_ge i (b + k) with g | g
        · exact h i g1 g
        · rw [show i = b + k by omega]; exact e
theorem isg_ex (b : Nat) : ∃ e, IsG sp w bw b e := by
  cases bw with
  | false => exact ⟨b + w, .inl ⟨rfl, rfl⟩⟩
  | true =>
    rcases last_sp (sp := sp) b w with ⟨j, h1, h2, h3, h4⟩ | h
    · exact ⟨j + 1, .inr ⟨rfl, .inl ⟨j, h1, h2, h3, h4, rfl⟩⟩⟩
    · exact ⟨b + w, .inr ⟨rfl, .inr ⟨h, rfl⟩⟩⟩
theorem isg_let {b e : Nat} (hw : 1 ≤ w) (h : IsG sp w bw b e) : Let sp w bw b e := by
  rcases h with ⟨h1, rfl⟩ | ⟨h1, ⟨j, h2, h3, h4, h5, rfl⟩ | ⟨h2, rfl⟩⟩
  · exact ⟨by omega, Nat.le_refl _, fun z => by rw [h1] at z; cases z⟩
  · exact ⟨by omega, by omega, fun _ => .inl h4⟩
  · exact ⟨by omega, Nat.le_refl _, fun _ => .inr ⟨rfl, h2⟩⟩
theorem isg_max {a b e h : Nat} (hw : 1 ≤ w) (g : IsG sp w bw b e) (ab : a ≤ b) (l : Let sp w bw a h) : h ≤ e := by
  obtain ⟨l1, l2, l3⟩ := l
  rcases g with ⟨h1, rfl⟩ | ⟨h1, ⟨j, h2, h3, h4, h5, rfl⟩ | ⟨h2, rfl⟩⟩
  · omega
  · rcases l3 h1 with l3 | ⟨rfl, l3⟩
    · rcases Nat.lt_or_ge j (h - 1) with z | z
      · rw [h5 _ z (by omega)] at l3; cases l3
      · omega
    · rcases Nat.lt_or_ge j (a + w) with z | z
      · rw [l3 j (by omega) z] at h4; cases h4
      · omega
  · omega
theorem isg_one {b e e' : Nat} (hw : 1 ≤ w) (g : IsG sp w bw b e) (g' : IsG sp w bw b e') : e = e' :=
  Nat.le_antisymm (isg_max hw g' (Nat.le_refl _) (isg_let hw g)) (isg_max hw g (Nat.le_refl _) (isg_let hw g'))
variable (sp w bw)
noncomputable def gr (b : Nat) : Nat := Classical.choose (isg_ex (sp := sp) (w := w) (bw := bw) b)
noncomputable def it : Nat → Nat
  | 0 => 0
  | t + 1 => gr sp w bw (it t)
/-- t pieces, and the rest -/
structure IsT (n t : Nat) : Prop where
  lt : ∀ i, i < t → it sp w bw i + w < n
  le : n ≤ it sp w bw t + w
noncomputable def pcl (n t : Nat) : List (Nat × Nat) := (List.range (t + 1)).map fun k => (it sp w bw k, if k < t then it sp w bw (k + 1) else n)
variable {sp w bw}
theorem gr_is (b : Nat) : IsG sp w bw b (gr sp w bw b) := Classical.choose_spec (isg_ex b)
theorem gr_of {b e : Nat} (hw : 1 ≤ w) (g : IsG sp w bw b e) : gr sp w bw b = e := isg_one hw (gr_is b) g
theorem gr_lt (hw : 1 ≤ w) (b : Nat) : b < gr sp w bw b := (isg_let hw (gr_is b)).1
theorem gr_le (hw : 1 ≤ w) (b : Nat) : gr sp w bw b ≤ b + w := (isg_let hw (gr_is b)).2.1
theorem it_ge (hw : 1 ≤ w) : ∀ t, t ≤ it sp w bw t
  | 0 => Nat.le_refl _
  | t + 1 => by
    have := it_ge hw t
    have := gr_lt (sp := sp) (bw := bw) hw (it sp w bw t)
    show t + 1 ≤ gr sp w bw (it sp w bw t)
    omega
theorem IsT.one {n t u : Nat} (a : IsT sp w bw n t) (b : IsT sp w bw n u) : t = u := by
  rcases Nat.lt_trichotomy t u with h | h | h
  · have := b.lt t h
    have := a.le
    omega
  · exact h
  · have := a.lt u h
    have := b.le
    omega
theorem it_le {n t : Nat} (hw : 1 ≤ w) (h : ∀ i, i < t → it sp w bw i + w < n) : it sp w bw t ≤ n := by
  cases t with
  | zero => exact Nat.zero_le _
  | succ t =>
    have := h t (Nat.lt_succ_self t)
    have := gr_le (sp := sp) (bw := bw) hw (it sp w bw t)
    show gr sp w bw (it sp w bw t) ≤ n
    omega
end
end Q61

namespace K61
open PySem PySem.Spec PyProof.Rows L2 Dk
/-- one step of a reading -/
local macro_rules | `(tactic| walk_at "rd1") => `(tactic| first
  | ((with_reducible refine r_var (v := ?rv) ?rh ?_); (case rh => rfl))
  | with_reducible refine r_c ?_
  | with_reducible refine r_seq ?_
  | with_reducible refine r_asg ?_
  | with_reducible refine r_par ?_
  | with_reducible refine r_gname ?_
  | with_reducible refine r_op ?_
  | with_reducible refine r_forLo ?_
  | with_reducible refine r_forTo ?_
  | with_reducible refine r_forSo ?_
  | with_reducible refine r_forRo ?_
  | with_reducible refine r_forRvo ?_
  | with_reducible refine r_forZo ?_
  | with_reducible refine r_revS ?_
  | with_reducible refine r_lcRo ?_
  | with_reducible refine r_lcLo ?_
  | with_reducible refine r_yes ?_
  | with_reducible refine r_callK0 ?_
  | with_reducible refine r_break ?_
  | with_reducible refine r_forR2o ?_
  | with_reducible refine r_forEo ?_
  | with_reducible refine r_forESo ?_
  | with_reducible refine r_xfo ?_
  | with_reducible refine r_noP ?_
  | with_reducible refine r_part ?_
  | with_reducible refine r_pI ?_
  | with_reducible refine r_gcons ?_
  | with_reducible refine r_gnil ?_
  | with_reducible refine r_mkO ?_
  | with_reducible refine r_un ?_
  | with_reducible refine r_addI ?_
  | with_reducible refine r_I0 ?_
  | with_reducible refine r_U ?_
  | with_reducible refine r_cons ?_
  | with_reducible refine r_nil ?_
  | with_reducible refine r_CB ?_
  | with_reducible refine r_call ?_
  | with_reducible refine r_callS ?_
  | with_reducible refine r_int ?_
  | with_reducible refine r_max ?_
  | with_reducible refine r_min ?_
  | with_reducible refine r_test ?_
  | with_reducible refine r_B ?_
  | with_reducible refine r_blv ?_
  | with_reducible refine r_and ?_
  | with_reducible refine r_or ?_
  | with_reducible refine r_not ?_
  | with_reducible refine r_andV ?_
  | with_reducible refine r_orV ?_
  | with_reducible refine r_notV ?_
  | with_reducible refine r_ifE ?_
  | with_reducible refine r_ifS ?_
  | with_reducible refine r_ret ?_
  | with_reducible refine r_retN ?_
  | with_reducible refine r_drop ?_
  | with_reducible refine r_next ?_
  | with_reducible refine r_sl ?_
  | with_reducible refine r_gsub ?_
  | with_reducible refine r_bm ?_
  | with_reducible refine r_tup ?_
  | with_reducible refine r_lst ?_
  | with_reducible refine r_isN ?_
  | with_reducible refine r_notN ?_
  | with_reducible refine r_chain ?_
  | with_reducible refine r_lcEio ?_
  | with_reducible refine r_forEi ?_
  | with_reducible refine r_lcTo ?_
  | with_reducible refine r_m1 ?_
  | with_reducible refine r_dget ?_
  | with_reducible refine r_din ?_
  | with_reducible refine r_dnotin ?_
  | with_reducible refine r_starC ?_
  | with_reducible refine r_callKS ?_
  | with_reducible refine r_itt ?_
  | with_reducible refine r_iff ?_
  | with_reducible refine r_ittN ?_
  | with_reducible refine r_iffN ?_
  | ((with_reducible refine r_ittD ?rh ?_); (case rh => rfl))
  | ((with_reducible refine r_iffD ?rh ?_); (case rh => rfl))
  | ((with_reducible refine r_modP ?rh ?_); (case rh => decide))
  | ((with_reducible refine r_eq ?rh ?_); (case rh => rfl))
  | ((with_reducible refine r_eqP ?rh ?_); (case rh => rfl))
  | ((with_reducible refine r_ne ?rh ?_); (case rh => rfl)))
local macro_rules | `(tactic| walk_at "rd") => `(tactic| repeat walk_at "rd1")
local macro_rules | `(tactic| walk_at "isi") => `(tactic| first | refine r_isi (b := true) (by assumption) (by decide +kernel) ?_ | refine r_isi (b := false) (by assumption) (by decide +kernel) ?_)
local macro_rules | `(tactic| walk_at "rs1") => `(tactic| first
  | with_reducible refine r_seq ?_
  | with_reducible refine r_asg ?_
  | with_reducible refine r_gname ?_
  | with_reducible refine r_ret ?_)
local macro_rules | `(tactic| walk_at "rs") => `(tactic| repeat walk_at "rs1")

def topS (i : Nat) : Stmt := PySem.Challenge.pw_deedstand_k61_whole_fewest_pieces.main.body.getD i (.Pass ⟨0, 0, 0, 0⟩)
abbrev s_piece_end : Stmt := topS 1
abbrev N_piece_end : List Str := ["row", "start", "width", "wordwise", "space"]
theorem sc_piece_end : FnScope ["row", "start", "width", "wordwise", "space"] ["row", "start", "width", "wordwise"] (defScope s_piece_end) := ⟨rfl, rfl, rfl, by decide +kernel, rfl, by decide +kernel, by decide +kernel⟩
abbrev s_laid : Stmt := topS 2
abbrev N_laid : List Str := ["row", "width", "wordwise", "pieces", "start", "end"]
theorem sc_laid : FnScope ["row", "width", "wordwise", "pieces", "start", "end"] ["row", "width", "wordwise"] (defScope s_laid) := ⟨rfl, rfl, rfl, by decide +kernel, rfl, by decide +kernel, by decide +kernel⟩
abbrev s_law_pool : Stmt := topS 4
abbrev N_law_pool : List Str := ["_law_script", "_law_drawn", "_law_state", "_law_cell", "_law_size", "_law_turn"]
theorem sc_law_pool : FnScope ["_law_script", "_law_drawn", "_law_state", "_law_cell", "_law_size", "_law_turn"] ["_law_script"] (defScope s_law_pool) := ⟨rfl, rfl, rfl, by decide +kernel, rfl, by decide +kernel, by decide +kernel⟩
abbrev s_law_next : Stmt := topS 5
abbrev N_law_next : List Str := ["_law_pool_here", "_law_many"]
theorem sc_law_next : FnScope ["_law_pool_here", "_law_many"] ["_law_pool_here", "_law_many"] (defScope s_law_next) := ⟨rfl, rfl, rfl, by decide +kernel, rfl, by decide +kernel, by decide +kernel⟩
abbrev s_law_signs : Stmt := topS 6
abbrev N_law_signs : List Str := ["_law_signs_here"]
theorem sc_law_signs : FnScope ["_law_signs_here"] [] (defScope s_law_signs) := ⟨rfl, rfl, rfl, by decide +kernel, rfl, by decide +kernel, by decide +kernel⟩
abbrev s_law_same : Stmt := topS 7
abbrev N_law_same : List Str := ["_law_one", "_law_due_here", "_law_k"]
theorem sc_law_same : FnScope ["_law_one", "_law_due_here", "_law_k"] ["_law_one", "_law_due_here"] (defScope s_law_same) := ⟨rfl, rfl, rfl, by decide +kernel, rfl, by decide +kernel, by decide +kernel⟩
abbrev s_law_band : Stmt := topS 8
abbrev N_law_band : List Str := ["_law_pool_here", "_law_wide", "_law_signs_here", "_law_long", "_law_often", "_law_sign", "_law_band_here", "_law_k"]
theorem sc_law_band : FnScope ["_law_pool_here", "_law_wide", "_law_signs_here", "_law_long", "_law_often", "_law_sign", "_law_band_here", "_law_k"] ["_law_pool_here", "_law_wide"] (defScope s_law_band) := ⟨rfl, rfl, rfl, by decide +kernel, rfl, by decide +kernel, by decide +kernel⟩
abbrev s_law_let : Stmt := topS 9
abbrev N_law_let : List Str := ["_law_band_here", "_law_wide", "_law_bywords", "_law_low", "_law_high"]
theorem sc_law_let : FnScope ["_law_band_here", "_law_wide", "_law_bywords", "_law_low", "_law_high"] ["_law_band_here", "_law_wide", "_law_bywords", "_law_low", "_law_high"] (defScope s_law_let) := ⟨rfl, rfl, rfl, by decide +kernel, rfl, by decide +kernel, by decide +kernel⟩
abbrev s_law_due : Stmt := topS 10
abbrev N_law_due : List Str := ["_law_band_here", "_law_wide", "_law_bywords", "_law_size", "_law_done", "_law_back", "_law_low", "_law_high", "_law_reach", "_law_furthest", "_law_turn", "_law_met", "_law_ends", "_law_k"]
theorem sc_law_due : FnScope ["_law_band_here", "_law_wide", "_law_bywords", "_law_size", "_law_done", "_law_back", "_law_low", "_law_high", "_law_reach", "_law_furthest", "_law_turn", "_law_met", "_law_ends", "_law_k"] ["_law_band_here", "_law_wide", "_law_bywords"] (defScope s_law_due) := ⟨rfl, rfl, rfl, by decide +kernel, rfl, by decide +kernel, by decide +kernel⟩
abbrev s_law : Stmt := topS 11
abbrev N_law : List Str := ["_law_script", "_law_pool_here", "_law_turn", "_law_wide", "_law_band_here", "_law_due_here"]
theorem sc_law : FnScope ["_law_script", "_law_pool_here", "_law_turn", "_law_wide", "_law_band_here", "_law_due_here"] ["_law_script"] (defScope s_law) := ⟨rfl, rfl, rfl, by decide +kernel, rfl, by decide +kernel, by decide +kernel⟩
def gk_laid_0 {α : Type} : List α → List α → List α
  | [x0, x1], [y0] => [x0, x1, y0]
  | _, _ => []
theorem gk_laid_0_rel {vs zs : List V} {us ws : List Value} (r : Vals vs us) (q : Vals zs ws) : Vals (gk_laid_0 vs zs) (gk_laid_0 us ws) := by
  rcases r with _ | ⟨a0, _ | ⟨a1, _ | ⟨_, _⟩⟩⟩ <;> rcases q with _ | ⟨b0, _ | ⟨_, _⟩⟩ <;> first | exact .nil | exact .cons a0 (.cons a1 (.cons b0 .nil))
def gk_laid_1 {α : Type} (z0 : α) : List α → List α → List α
  | [], [y0, y1] => [y1, y0, z0]
  | _, _ => []
theorem gk_laid_1_rel {w0 : V} {u0 : Value} (r0 : RelV w0 u0) {vs zs : List V} {us ws : List Value} (r : Vals vs us) (q : Vals zs ws) : Vals (gk_laid_1 w0 vs zs) (gk_laid_1 u0 us ws) := by
  rcases r with _ | ⟨_, _⟩ <;> rcases q with _ | ⟨b0, _ | ⟨b1, _ | ⟨_, _⟩⟩⟩ <;> first | exact .nil | exact .cons b1 (.cons b0 (.cons r0 .nil))
structure Txt (K : PySem.W.Frag) (mg : Str → Option Value) where
  a_piece_end : Addr
  d_piece_end : FuncData
  F_piece_end : Fun K "piece_end" "piece_end" s_piece_end a_piece_end d_piece_end
  g_piece_end : mg "piece_end" = some (.ref a_piece_end)
  b_piece_end : Binds K d_piece_end ["row", "start", "width", "wordwise"] []
  a_laid : Addr
  d_laid : FuncData
  F_laid : Fun K "laid" "laid" s_laid a_laid d_laid
  g_laid : mg "laid" = some (.ref a_laid)
  a_law_pool : Addr
  d_law_pool : FuncData
  F_law_pool : Fun K "_law_pool" "_law_pool" s_law_pool a_law_pool d_law_pool
  g_law_pool : mg "_law_pool" = some (.ref a_law_pool)
  b_law_pool : Binds K d_law_pool ["_law_script"] []
  a_law_next : Addr
  d_law_next : FuncData
  F_law_next : Fun K "_law_next" "_law_next" s_law_next a_law_next d_law_next
  g_law_next : mg "_law_next" = some (.ref a_law_next)
  b_law_next : Binds K d_law_next ["_law_pool_here", "_law_many"] []
  a_law_signs : Addr
  d_law_signs : FuncData
  F_law_signs : Fun K "_law_signs" "_law_signs" s_law_signs a_law_signs d_law_signs
  g_law_signs : mg "_law_signs" = some (.ref a_law_signs)
  b_law_signs : Binds K d_law_signs [] []
  a_law_same : Addr
  d_law_same : FuncData
  F_law_same : Fun K "_law_same" "_law_same" s_law_same a_law_same d_law_same
  g_law_same : mg "_law_same" = some (.ref a_law_same)
  b_law_same : Binds K d_law_same ["_law_one", "_law_due_here"] []
  a_law_band : Addr
  d_law_band : FuncData
  F_law_band : Fun K "_law_band" "_law_band" s_law_band a_law_band d_law_band
  g_law_band : mg "_law_band" = some (.ref a_law_band)
  b_law_band : Binds K d_law_band ["_law_pool_here", "_law_wide"] []
  a_law_let : Addr
  d_law_let : FuncData
  F_law_let : Fun K "_law_let" "_law_let" s_law_let a_law_let d_law_let
  g_law_let : mg "_law_let" = some (.ref a_law_let)
  b_law_let : Binds K d_law_let ["_law_band_here", "_law_wide", "_law_bywords", "_law_low", "_law_high"] []
  a_law_due : Addr
  d_law_due : FuncData
  F_law_due : Fun K "_law_due" "_law_due" s_law_due a_law_due d_law_due
  g_law_due : mg "_law_due" = some (.ref a_law_due)
  b_law_due : Binds K d_law_due ["_law_band_here", "_law_wide", "_law_bywords"] []
  a_law : Addr
  d_law : FuncData
  F_law : Fun K "law" "law" s_law a_law d_law
  g_law : mg "law" = some (.ref a_law)
  b_law : Binds K d_law ["_law_script"] []
  kb_laid_0 : KBinds K d_laid ["row", "width", "wordwise"] ["wordwise"] (gk_laid_0) (gk_laid_0)
  kb_laid_1 : KBinds K d_laid ["row", "width", "wordwise"] ["width", "row"] (gk_laid_1 (.bool false)) (gk_laid_1 (.bl false))
  n_abs : mg "abs" = none
  n_bool : mg "bool" = none
  n_int : mg "int" = none
  n_isinstance : mg "isinstance" = none
  n_len : mg "len" = none
  n_list : mg "list" = none
  n_min : mg "min" = none
  n_range : mg "range" = none
  n_str : mg "str" = none
  n_tuple : mg "tuple" = none
def MP : Int := 2147483647
theorem natP {z : Int} (h0 : 0 ≤ z) (h : z < MP) : z.natAbs < 2 ^ 31 := by
  unfold MP at h
  have e : (2 : Nat) ^ 31 = 2147483648 := by decide
  omega
/-- the pool of draws: p, its list d -/
def pool (p d : Addr) : Box where
  A := fun x => x = p ∨ x = d
  B := fun H => d ≠ p ∧ ∃ (k : Nat) (z : Int) (ns : List Int), H p = some (.lst [.ref d, .int (k : Nat), .int z]) ∧ H d = some (.lst (ns.map V.int)) ∧ k ≤ ns.length ∧ ns.length ≤ 4000 ∧ 0 ≤ z ∧ z < MP
  live := fun H h x a => by
    obtain ⟨_, k, z, ns, h1, h2, _⟩ := h
    rcases a with rfl | rfl
    · exact ⟨_, h1⟩
    · exact ⟨_, h2⟩
  keep := fun H H' h e => by
    obtain ⟨n, k, z, ns, h1, h2, h3⟩ := h
    exact ⟨n, k, z, ns, e _ _ (.inl rfl) h1, e _ _ (.inr rfl) h2, h3⟩
def spPool (K : PySem.W.Frag) : Sp := fun vs H Q _ => ∃ (a : Addr) (ns : List Int), vs = [.ref a] ∧ SqL K H a (ns.map V.int) ∧ ns.length ≤ 63 ∧ ∀ p d H', Ex H H' → H p = none → H d = none → (pool p d).B H' → Q (.ref p) H'
def spNext : Sp := fun vs H Q _ => ∃ (p d : Addr) (n : Int), vs = [.ref p, .int n] ∧ (pool p d).B H ∧ 0 < n ∧ ∀ (v : Int) H', 0 ≤ v → v < n → Drw (pool p d) H H' → Q (.int v) H'
def SG : Str := "\n !\"#$&'()*+,-./0123456789:;<=>?@ABCDEFGHIJKLMNOPQRSTUVWXYZ[\\]^_`" ++ "abcdefghijklmnopqrstuvwxyz{|}~"
theorem SG_len : SG.length = 95 := by decide +kernel
def spSigns : Sp := fun vs H Q _ => vs = [] ∧ Q (.str SG) H
section
variable {P : Program} {w : World} {K : PySem.W.Frag} {mg : Str → Option Value} {base : Heap}
theorem ok_law_pool (T : Txt K mg) : FnOk P w K mg base CX0 1 T.a_law_pool T.d_law_pool ["_law_script"] (spPool K) := by
  refine T.F_law_pool.ok sc_law_pool (fun vs H Q E h => ?_) (fun cdv A outer s H vs Q E hr h => ?_)
  · obtain ⟨a, ns, rfl, _⟩ := h
    rfl
  · obtain ⟨a, ns, rfl, hS, hlen, q⟩ := h
    refine ⟨_, (pss_cons (ps_set (i := 1) sc_law_pool.nd rfl (Or.inl rfl) (pe_lst pa_nil))
        (pss_cons (ps_set (i := 2) sc_law_pool.nd rfl (Or.inl rfl) pe_int)
        (pss_cons (ps_for PassesOwn.never rfl (pi_list (pv 0)) (pg_name (i := 3) sc_law_pool.nd rfl (Or.inl rfl)) (pss_cons (ps_set (i := 4) sc_law_pool.nd rfl (Or.inl rfl) (pe_callB call_absU (by rfl) T.n_abs (by decide +kernel) (pa_cons (pv 3) pa_nil)))
        (pss_cons (ps_set (i := 2) sc_law_pool.nd rfl (Or.inl rfl) (pe_op op_modP (pe_callTy call_intU (by rfl) T.n_int (by decide +kernel) (pa_cons (pe_op op_addU (pe_op op_addU (pe_op op_addU (pe_op op_mulWW (pv 2) pe_int) (pv 4)) (pe_op op_mulWW pe_int (pe_callTy call_intU (by rfl) T.n_int (by decide +kernel) (pa_cons (pe_cmpR op_lt (pv 3) pe_int (nomark _)) pa_nil)))) pe_int) pa_nil)) pe_int))
        (pss_one (ps_if (pt_cmpR op_lt (pv 4) (pe_op op_pow pe_int pe_int) (nomark _)) (pss_cons (ps_expr (pe_bm PySem.F.plainAttrs_list PySem.F.slot_list_append PySem.F.type_list_append mt_append (pv 1) (pa_cons (pe_op op_modP (pe_callTy call_intU (by rfl) T.n_int (by decide +kernel) (pa_cons (pe_op op_addU (pe_op op_mulWW (pv 4) pe_int) (pe_op op_divW (pv 2) pe_int)) pa_nil)) pe_int) pa_nil)))
        (pss_one (ps_expr (pe_bm PySem.F.plainAttrs_list PySem.F.slot_list_append PySem.F.type_list_append mt_append (pv 1) (pa_cons (pe_op op_modP (pe_callTy call_intU (by rfl) T.n_int (by decide +kernel) (pa_cons (pe_op op_addU (pe_op op_divW (pv 4) pe_int) (pe_op op_mulWW (pv 2) pe_int)) pa_nil)) pe_int) pa_nil))))) (pss_one (ps_for PassesOwn.never rfl (pi_range1 (by rfl) T.n_range (pa_cons pe_int pa_nil)) (pg_name (i := 5) sc_law_pool.nd rfl (Or.inl rfl)) (pss_cons (ps_if (pt_cmpR (op_eqU hr.units) (pv 4) pe_int (nomark _)) (pss_one ps_break) pss_nil)
        (pss_cons (ps_expr (pe_bm PySem.F.plainAttrs_list PySem.F.slot_list_append PySem.F.type_list_append mt_append (pv 1) (pa_cons (pe_op op_modP (pe_callTy call_intU (by rfl) T.n_int (by decide +kernel) (pa_cons (pv 4) pa_nil)) pe_int) pa_nil)))
        (pss_one (ps_set (i := 4) sc_law_pool.nd rfl (Or.inl rfl) (pe_op op_divW (pv 4) pe_int))))))))))))
        (pss_one (ps_ret (pe_lst (pa_cons (pv 1) (pa_cons pe_int (pa_cons (pv 2) pa_nil))))))))), ?_⟩
    walk_at "rd"
    refine r_small nsz fun d hd => ?_
    have e0 : Ex H (upd H d (.lst [])) := Same.new (Same.refl H) hd
    walk_at "rd"
    refine l_L (SqL.up e0 hS) (fun i σ H' => ∃ z y1 y2 y3 ds, σ = [some (.ref a), some (.ref d), some (.int z), y1, y2, y3] ∧ 0 ≤ z ∧ z < MP ∧ Ex H H' ∧ H' d = some (.lst (List.map V.int ds)) ∧ ds.length ≤ 60 * i) ⟨_, none, none, none, [], rfl, by decide, by decide, e0, upd_same, Nat.le_refl _⟩ (fun i σ H' h => ?_) (fun i x σ H' hx hP => ?_) (fun σ H' hP => ?_)
    · obtain ⟨_, _, _, _, _, _, _, _, e, _⟩ := h
      exact SqL.up e hS
    · obtain ⟨z, y1, y2, y3, ds, rfl, z0, z1, e, hd', hl⟩ := hP
      obtain ⟨c, hc, rfl⟩ : ∃ c, ns[i]? = some c ∧ x = V.int c := by
        rw [List.getElem?_map] at hx
        cases e : ns[i]? with
        | none => rw [e] at hx; cases hx
        | some c => rw [e] at hx; exact ⟨c, rfl, (Option.some.inj hx).symm⟩
      have hi : i < ns.length := (List.getElem?_eq_some_iff.mp hc).1
      walk_at "rd"
      refine r_abs ?_
      walk_at "rd"
      refine r_mulW (wide_mul (a := 31) (b := 33) (natP z0 z1) (by decide) (by decide) (by decide) (by decide)) ?_
      walk_at "rd"
      refine r_bool ?_
      refine r_mulW (wide_mul (a := 31) (b := 33) (by decide) (by split <;> decide) (by decide) (by decide) (by decide)) ?_
      walk_at "rs"
      have mx : ∀ e : Int, 0 ≤ e % 2147483399 ∧ e % 2147483399 < MP := fun e => ⟨Int.emod_nonneg _ (by decide), Int.lt_trans (Int.emod_lt_of_pos _ (by decide)) (by decide)⟩
      walk_at "rd"
      refine r_I (by unfold CPow; decide) ?_
      have e18 : (10 : Int) ^ ((18 : Int)).toNat = 1000000000000000000 := by decide
      obtain ⟨C, hC⟩ : ∃ C : Int, C = 1000000000000000000 := ⟨_, rfl⟩
      rw [e18, ← hC]
      walk_at "rd"
      refine r_ite (fun hb => ?_) (fun hb => ?_)
      · have w60 : (c.natAbs : Int).natAbs < 2 ^ 60 := by
          rw [Int.natAbs_natCast]
          have e60 : (2 : Nat) ^ 60 = 1152921504606846976 := by decide
          omega
        generalize hZ : (z * 39989 + ↑c.natAbs + 3 * (if decide (c < 0) = true then 1 else 0) + 31) % 2147483399 = Z
        have hz := mx (z * 39989 + ↑c.natAbs + 3 * (if decide (c < 0) = true then 1 else 0) + 31)
        rw [hZ] at hz
        walk_at "rd"
        refine r_tyL (sqL hd') ?_
        walk_at "rd"
        refine r_mulW (wide_mul (a := 60) (b := 33) w60 (by decide) (by decide) (by decide) (by decide)) ?_
        walk_at "rd"
        refine r_divW (wide_div (b := 17) (by decide) (by decide) (by decide) (by decide)) ?_
        walk_at "rd"
        refine r_app hd' (by rw [List.length_map]; exact Nat.lt_of_le_of_lt (show ds.length ≤ 4000 by omega) (by decide)) ?_
        walk_at "rd"
        refine r_tyL (sqL upd_same) ?_
        walk_at "rd"
        refine r_divW (wide_div (b := 17) (by decide) (by decide) (by decide) (by decide)) ?_
        walk_at "rd"
        refine r_mulW (wide_mul (a := 31) (b := 33) (natP hz.1 hz.2) (by decide) (by decide) (by decide) (by decide)) ?_
        walk_at "rd"
        refine r_app upd_same (by rw [List.length_append, List.length_map]; exact Nat.lt_of_le_of_lt (show ds.length + 1 ≤ 4000 by omega) (by decide)) ?_
        walk_at "rd"
        refine ⟨Z, _, _, y3, ds ++ [_] ++ [_], rfl, hz.1, hz.2, Same.mut (Same.mut e hd) hd, by rw [upd_same, List.map_append, List.map_append]; rfl, ?_⟩
        rw [List.length_append, List.length_append]
        show ds.length + 1 + 1 ≤ _
        omega
      · have hz := mx (z * 39989 + ↑c.natAbs + 3 * (if decide (c < 0) = true then 1 else 0) + 31)
        generalize hZ : (z * 39989 + ↑c.natAbs + 3 * (if decide (c < 0) = true then 1 else 0) + 31) % 2147483399 = Z at hz
        walk_at "rd"
        refine l_R (by decide) (by decide) (fun j σ H1 => ∃ (s : Int), ∃ y5 ds', σ = [some (.ref a), some (.ref d), some (.int Z), some (.int c), some (.int s), y5] ∧ Ex H H1 ∧ H1 d = some (.lst (List.map V.int ds')) ∧ ds'.length ≤ 60 * i + j) ⟨_, y3, ds, rfl, e, hd', by omega⟩ (fun j σ H1 hj hP => ?_) (fun σ H1 hP => ?_)
        · obtain ⟨s, y5, ds', rfl, e', hd'', hl'⟩ := hP
          walk_at "rd"
          refine r_ite (fun h0 => ?_) (fun h0 => ?_)
          · walk_at "rd"
            exact ⟨_, _, _, _, ds', rfl, hz.1, hz.2, e', hd'', by omega⟩
          · walk_at "rd"
            refine r_tyL (sqL hd'') ?_
            walk_at "rd"
            refine r_app hd'' (by rw [List.length_map]; exact Nat.lt_of_le_of_lt (show ds'.length ≤ 4000 by omega) (by decide)) ?_
            walk_at "rd"
            refine r_divW (wide_div (b := 17) (by decide) (by decide) (by decide) (by decide)) ?_
            walk_at "rd"
            refine ⟨_, _, ds' ++ [_], rfl, Same.mut e' hd, by rw [upd_same, List.map_append]; rfl, ?_⟩
            rw [List.length_append]
            show ds'.length + 1 ≤ _
            omega
        · obtain ⟨s, y5, ds', rfl, e', hd'', hl'⟩ := hP
          exact ⟨_, _, _, _, ds', rfl, hz.1, hz.2, e', hd'', by have h60 : (60 : Int).toNat = 60 := rfl; rw [h60] at hl'; omega⟩
    · obtain ⟨z, y1, y2, y3, ds, rfl, z0, z1, e, hd', hl⟩ := hP
      rw [List.length_map] at hl
      walk_at "rd"
      refine r_small nsz fun p hp => ?_
      have hne : p ≠ d := fun z => by rw [z, hd'] at hp; cases hp
      exact q p d _ (e.trans (Same.new (Same.refl _) hp)) (e.free hp) hd ⟨Ne.symm hne, 0, z, ds, upd_same, by rw [upd_ne (Ne.symm hne)]; exact hd', by omega, by omega, z0, z1⟩
theorem ok_law_next (T : Txt K mg) : FnOk P w K mg base CX0 1 T.a_law_next T.d_law_next ["_law_pool_here", "_law_many"] spNext := by
  refine T.F_law_next.ok sc_law_next (fun vs H Q E h => ?_) (fun cdv A outer s H vs Q E hr h => ?_)
  · obtain ⟨p, d, n, rfl, _⟩ := h
    rfl
  · obtain ⟨p, d, n, rfl, ⟨ne, k, z, ns, hp, hd, hk, hn, z0, z1⟩, n0, q⟩ := h
    refine ⟨_, (pss_cons (ps_if (pt_cmpR op_lt (pe_ix ix_seq (pv 0) pe_int (fun _ _ => rfl)) (pe_callB call_lenU (by rfl) T.n_len (by decide +kernel) (pa_cons (pe_ix ix_seq (pv 0) pe_int (fun _ _ => rfl)) pa_nil)) (nomark _)) (pss_cons (ps_asg (pe_op op_addU (pe_ix ix_seq (pv 0) pe_int (fun _ _ => rfl)) pe_int) (pg_sub (pv 0) pe_int set_list))
        (pss_one (ps_ret (pe_op op_modP (pe_callTy call_intU (by rfl) T.n_int (by decide +kernel) (pa_cons (pe_ix ix_seq (pe_ix ix_seq (pv 0) pe_int (fun _ _ => rfl)) (pe_op op_sub (pe_ix ix_seq (pv 0) pe_int (fun _ _ => rfl)) pe_int) (fun _ _ => rfl)) pa_nil)) (pv 1))))) pss_nil)
        (pss_cons (ps_asg (pe_op op_modP (pe_callTy call_intU (by rfl) T.n_int (by decide +kernel) (pa_cons (pe_op op_addU (pe_op op_mulWW (pe_ix ix_seq (pv 0) pe_int (fun _ _ => rfl)) pe_int) pe_int) pa_nil)) pe_int) (pg_sub (pv 0) pe_int set_list))
        (pss_one (ps_ret (pe_op op_modP (pe_callTy call_intU (by rfl) T.n_int (by decide +kernel) (pa_cons (pe_op op_divW (pe_ix ix_seq (pv 0) pe_int (fun _ _ => rfl)) pe_int) pa_nil)) (pv 1)))))), ?_⟩
    walk_at "rd"
    refine r_ixL (sqL hp) (atI_nat (j := 1) rfl) ?_
    walk_at "rd"
    refine r_ixL (sqL hp) (atI_nat (j := 0) rfl) ?_
    walk_at "rd"
    refine r_lenL (sqL hd) ?_
    rw [List.length_map]
    walk_at "rd"
    refine r_ite (fun hb => ?_) (fun hb => ?_)
    · have hkl : k < ns.length := by omega
      walk_at "rd"
      refine r_ixL (sqL hp) (atI_nat (j := 1) rfl) ?_
      walk_at "rd"
      refine r_setL hp (n := 1) rfl ?_
      walk_at "rd"
      refine r_ixL (sqL upd_same) (atI_nat (j := 0) rfl) ?_
      walk_at "rd"
      refine r_ixL (sqL upd_same) (atI_nat (j := 1) rfl) ?_
      walk_at "rd"
      refine r_ixL (sqL (by rw [upd_ne ne]; exact hd)) (at_g (j := k) (by omega) (by rw [List.getElem?_map, List.getElem?_eq_getElem hkl]; rfl)) ?_
      walk_at "rd"
      refine r_modP n0 ?_
      refine q _ _ (Int.emod_nonneg _ (by omega)) (Int.emod_lt_of_pos _ n0) ⟨fun x o h e => by rw [upd_ne (fun z => h (.inl z))]; exact e, ne, k + 1, z, ns, ?_, by rw [upd_ne ne]; exact hd, hkl, hn, z0, z1⟩
      rw [upd_same]
      rfl
    · walk_at "rd"
      refine r_ixL (sqL hp) (atI_nat (j := 2) rfl) ?_
      walk_at "rd"
      refine r_mulW (wide_mul (a := 31) (b := 33) (natP z0 z1) (by decide) (by decide) (by decide) (by decide)) ?_
      walk_at "rd"
      refine r_setL hp (n := 2) rfl ?_
      walk_at "rd"
      refine r_ixL (sqL upd_same) (atI_nat (j := 2) rfl) ?_
      walk_at "rd"
      refine r_divW (wide_div (b := 17) (by decide) (by decide) (by decide) (by decide)) ?_
      walk_at "rd"
      refine r_modP n0 ?_
      refine q _ _ (Int.emod_nonneg _ (by omega)) (Int.emod_lt_of_pos _ n0) ⟨fun x o h e => by rw [upd_ne (fun z => h (.inl z))]; exact e, ne, k, _, ns, upd_same, by rw [upd_ne ne]; exact hd, hk, hn, Int.emod_nonneg _ (by decide), Int.emod_lt_of_pos _ (by decide)⟩
theorem ok_law_signs (T : Txt K mg) : FnOk P w K mg base CX0 1 T.a_law_signs T.d_law_signs [] spSigns := by
  refine T.F_law_signs.ok sc_law_signs (fun vs H Q E h => ?_) (fun cdv A outer s H vs Q E hr h => ?_)
  · obtain ⟨rfl, _⟩ := h
    rfl
  · obtain ⟨rfl, q⟩ := h
    refine ⟨_, (pss_cons (ps_set (i := 0) sc_law_signs.nd rfl (Or.inl rfl) pe_str)
        (pss_one (ps_ret (pe_op op_addU (pv 0) pe_str)))), ?_⟩
    walk_at "rd"
    refine r_addS (by decide +kernel) ?_
    exact q
end
end K61

namespace K61
open PySem PySem.Spec PyProof.Rows L2 Dk
/-- one step of a reading -/
local macro_rules | `(tactic| walk_at "rd1") => `(tactic| first
  | ((with_reducible refine r_var (v := ?rv) ?rh ?_); (case rh => rfl))
  | with_reducible refine r_c ?_
  | with_reducible refine r_seq ?_
  | with_reducible refine r_asg ?_
  | with_reducible refine r_par ?_
  | with_reducible refine r_gname ?_
  | with_reducible refine r_op ?_
  | with_reducible refine r_forLo ?_
  | with_reducible refine r_forTo ?_
  | with_reducible refine r_forSo ?_
  | with_reducible refine r_forRo ?_
  | with_reducible refine r_forRvo ?_
  | with_reducible refine r_forZo ?_
  | with_reducible refine r_revS ?_
  | with_reducible refine r_lcRo ?_
  | with_reducible refine r_lcLo ?_
  | with_reducible refine r_yes ?_
  | with_reducible refine r_callK0 ?_
  | with_reducible refine r_break ?_
  | with_reducible refine r_forR2o ?_
  | with_reducible refine r_forEo ?_
  | with_reducible refine r_forESo ?_
  | with_reducible refine r_xfo ?_
  | with_reducible refine r_noP ?_
  | with_reducible refine r_part ?_
  | with_reducible refine r_pI ?_
  | with_reducible refine r_gcons ?_
  | with_reducible refine r_gnil ?_
  | with_reducible refine r_mkO ?_
  | with_reducible refine r_un ?_
  | with_reducible refine r_addI ?_
  | with_reducible refine r_I0 ?_
  | with_reducible refine r_U ?_
  | with_reducible refine r_cons ?_
  | with_reducible refine r_nil ?_
  | with_reducible refine r_CB ?_
  | with_reducible refine r_call ?_
  | with_reducible refine r_callS ?_
  | with_reducible refine r_int ?_
  | with_reducible refine r_max ?_
  | with_reducible refine r_min ?_
  | with_reducible refine r_test ?_
  | with_reducible refine r_B ?_
  | with_reducible refine r_blv ?_
  | with_reducible refine r_and ?_
  | with_reducible refine r_or ?_
  | with_reducible refine r_not ?_
  | with_reducible refine r_andV ?_
  | with_reducible refine r_orV ?_
  | with_reducible refine r_notV ?_
  | with_reducible refine r_ifE ?_
  | with_reducible refine r_ifS ?_
  | with_reducible refine r_ret ?_
  | with_reducible refine r_retN ?_
  | with_reducible refine r_drop ?_
  | with_reducible refine r_next ?_
  | with_reducible refine r_sl ?_
  | with_reducible refine r_gsub ?_
  | with_reducible refine r_bm ?_
  | with_reducible refine r_tup ?_
  | with_reducible refine r_lst ?_
  | with_reducible refine r_isN ?_
  | with_reducible refine r_notN ?_
  | with_reducible refine r_chain ?_
  | with_reducible refine r_lcEio ?_
  | with_reducible refine r_forEi ?_
  | with_reducible refine r_lcTo ?_
  | with_reducible refine r_m1 ?_
  | with_reducible refine r_dget ?_
  | with_reducible refine r_din ?_
  | with_reducible refine r_dnotin ?_
  | with_reducible refine r_starC ?_
  | with_reducible refine r_callKS ?_
  | with_reducible refine r_itt ?_
  | with_reducible refine r_iff ?_
  | with_reducible refine r_ittN ?_
  | with_reducible refine r_iffN ?_
  | ((with_reducible refine r_ittD ?rh ?_); (case rh => rfl))
  | ((with_reducible refine r_iffD ?rh ?_); (case rh => rfl))
  | ((with_reducible refine r_modP ?rh ?_); (case rh => decide))
  | ((with_reducible refine r_eq ?rh ?_); (case rh => rfl))
  | ((with_reducible refine r_eqP ?rh ?_); (case rh => rfl))
  | ((with_reducible refine r_ne ?rh ?_); (case rh => rfl)))
local macro_rules | `(tactic| walk_at "rd") => `(tactic| repeat walk_at "rd1")
local macro_rules | `(tactic| walk_at "isi") => `(tactic| first | refine r_isi (b := true) (by assumption) (by decide +kernel) ?_ | refine r_isi (b := false) (by assumption) (by decide +kernel) ?_)
local macro_rules | `(tactic| walk_at "rs1") => `(tactic| first
  | with_reducible refine r_seq ?_
  | with_reducible refine r_asg ?_
  | with_reducible refine r_gname ?_
  | with_reducible refine r_ret ?_)
local macro_rules | `(tactic| walk_at "rs") => `(tactic| repeat walk_at "rs1")

def spBand : Sp := fun vs H Q _ => ∃ (p d : Addr) (n : Nat), vs = [.ref p, .int (n : Nat)] ∧ (pool p d).B H ∧ 1 ≤ n ∧ n ≤ 100 ∧ ∀ z H', z.length ≤ 700 → Drw (pool p d) H H' → Q (.str z) H'
/-- a blank at i -/
def spc (z : Str) (i : Nat) : Bool := decide ((cs z)[i]? = some 32)
theorem blank : (" " : Str) = ⟨#[32]⟩ := rfl
section
variable {P : Program} {w : World} {K : PySem.W.Frag} {mg : Str → Option Value} {base : Heap}
theorem sg_at {i : Int} (h0 : 0 ≤ i) (h : i < 95) : ∃ c, atI SG.cps.toList i = some c := by
  have hl : (cs SG).length = 95 := by rw [cs_len]; exact SG_len
  have hi : i.toNat < (cs SG).length := by omega
  exact ⟨(cs SG)[i.toNat], at_g (by omega) (List.getElem?_eq_getElem hi)⟩
theorem ok_law_band (T : Txt K mg) : FnOk P w K mg base CX0 2 T.a_law_band T.d_law_band ["_law_pool_here", "_law_wide"] spBand := by
  refine T.F_law_band.ok sc_law_band (fun vs H Q E h => ?_) (fun cdv A outer s H vs Q E hr h => ?_)
  · obtain ⟨p, d, n, rfl, _⟩ := h
    rfl
  · obtain ⟨p, d, n, rfl, hB, n0, n1, q⟩ := h
    refine ⟨_, (pss_cons (ps_set (i := 2) sc_law_band.nd rfl (Or.inl rfl) (pe_call0 (ok_law_signs T) hr (by rfl) T.g_law_signs T.F_law_signs.kp T.b_law_signs .nil pass0))
        (pss_cons (ps_set (i := 3) sc_law_band.nd rfl (Or.inl rfl) (pe_call (ok_law_next T) hr (by rfl) T.g_law_next T.F_law_next.kp T.b_law_next .nil pass0 (pa_cons (pv 0) (pa_cons (pe_op op_addU (pe_op op_mulWW pe_int (pv 1)) pe_int) pa_nil))))
        (Evl.pss_cut (ps_if (pt_cmpR (op_eqU hr.units) (pe_call (ok_law_next T) hr (by rfl) T.g_law_next T.F_law_next.kp T.b_law_next .nil pass0 (pa_cons (pv 0) (pa_cons pe_int pa_nil))) pe_int (nomark _)) (pss_one (ps_set (i := 3) sc_law_band.nd rfl (Or.inl rfl) (pe_op op_addU pe_int (pe_call (ok_law_next T) hr (by rfl) T.g_law_next T.F_law_next.kp T.b_law_next .nil pass0 (pa_cons (pv 0) (pa_cons pe_int pa_nil)))))) pss_nil)
        (pss_cons (ps_set (i := 4) sc_law_band.nd rfl (Or.inl rfl) (pe_op op_addU pe_int (pe_call (ok_law_next T) hr (by rfl) T.g_law_next T.F_law_next.kp T.b_law_next .nil pass0 (pa_cons (pv 0) (pa_cons pe_int pa_nil)))))
        (pss_cons (ps_set (i := 5) sc_law_band.nd rfl (Or.inl rfl) (pe_ix ix_seq (pv 2) (pe_op op_addU pe_int (pe_call (ok_law_next T) hr (by rfl) T.g_law_next T.F_law_next.kp T.b_law_next .nil pass0 (pa_cons (pv 0) (pa_cons pe_int pa_nil)))) (fun _ _ => rfl)))
        (pss_cons (ps_set (i := 6) sc_law_band.nd rfl (Or.inl rfl) pe_str)
        (pss_cons (ps_for PassesOwn.never rfl (pi_range1 (by rfl) T.n_range (pa_cons (pv 3) pa_nil)) (pg_name (i := 7) sc_law_band.nd rfl (Or.inl rfl)) (pss_one (ps_if (pt_cmpR (op_eqU hr.units) (pe_call (ok_law_next T) hr (by rfl) T.g_law_next T.F_law_next.kp T.b_law_next .nil pass0 (pa_cons (pv 0) (pa_cons (pe_op op_addU pe_int (pv 4)) pa_nil))) pe_int (nomark _)) (pss_one (ps_set (i := 6) sc_law_band.nd rfl (Or.inl rfl) (pe_op op_addU (pv 6) pe_str))) (pss_one (ps_if (pt_cmpR (op_eqU hr.units) (pe_call (ok_law_next T) hr (by rfl) T.g_law_next T.F_law_next.kp T.b_law_next .nil pass0 (pa_cons (pv 0) (pa_cons pe_int pa_nil))) pe_int (nomark _)) (pss_one (ps_set (i := 6) sc_law_band.nd rfl (Or.inl rfl) (pe_op op_addU (pv 6) (pe_ix ix_seq (pv 2) (pe_op op_addU pe_int (pe_call (ok_law_next T) hr (by rfl) T.g_law_next T.F_law_next.kp T.b_law_next .nil pass0 (pa_cons (pv 0) (pa_cons pe_int pa_nil)))) (fun _ _ => rfl))))) (pss_one (ps_set (i := 6) sc_law_band.nd rfl (Or.inl rfl) (pe_op op_addU (pv 6) (pv 5)))))))))
        (pss_cons (ps_if (pt_cmpR (op_eqU hr.units) (pe_call (ok_law_next T) hr (by rfl) T.g_law_next T.F_law_next.kp T.b_law_next .nil pass0 (pa_cons (pv 0) (pa_cons pe_int pa_nil))) pe_int (nomark _)) (pss_one (ps_set (i := 6) sc_law_band.nd rfl (Or.inl rfl) (pe_op op_addU (pv 6) (pe_op op_repS pe_str (pe_call (ok_law_next T) hr (by rfl) T.g_law_next T.F_law_next.kp T.b_law_next .nil pass0 (pa_cons (pv 0) (pa_cons (pe_op op_addU (pv 1) pe_int) pa_nil))))))) pss_nil)
        (pss_one (ps_ret (pv 6))))))))))), ?_⟩
    have sgl : SG.length ≤ sizeLine := by rw [SG_len]; decide
    walk_at "rd"
    refine ⟨rfl, ?_⟩
    walk_at "rd"
    refine r_mulW (wide_mul (a := 33) (b := 33) (by decide) (by rw [Int.natAbs_natCast]; exact Nat.lt_of_le_of_lt n1 (by decide)) (by decide) (by decide) (by decide)) ?_
    walk_at "rd"
    refine ⟨p, d, _, rfl, hB, by omega, fun lg H1 l0 l1 D1 => ?_⟩
    walk_at "rs"
    refine ⟨fun σ H2 => ∃ m : Nat, m ≤ 500 ∧ σ = [some (.ref p), some (.int (n : Nat)), some (.str SG), some (.int (m : Nat)), none, none, none, none] ∧ Drw (pool p d) H H2, ?_, ?_⟩
    · walk_at "rd"
      refine ⟨p, d, 20, rfl, D1.st, by decide, fun v H2 v0 v1 D2 => ?_⟩
      walk_at "rd"
      refine r_ite (fun _ => ?_) (fun _ => ?_)
      · walk_at "rd"
        refine ⟨p, d, 200, rfl, D2.st, by decide, fun v H3 v0 v1 D3 => ?_⟩
        walk_at "rd"
        exact ⟨(200 + v).toNat, by omega, by rw [Int.toNat_of_nonneg (by omega)]; rfl, (D1.trans D2).trans D3⟩
      · walk_at "rd"
        exact ⟨lg.toNat, by omega, by rw [Int.toNat_of_nonneg l0]; rfl, D1.trans D2⟩
    · rintro σ H2 ⟨m, hm, rfl, D2⟩
      walk_at "rd"
      refine ⟨p, d, 9, rfl, D2.st, by decide, fun of H3 o0 o1 D3 => ?_⟩
      walk_at "rd"
      refine ⟨p, d, 94, rfl, D3.st, by decide, fun sg H4 s0 s1 D4 => ?_⟩
      obtain ⟨c, hc⟩ := sg_at (i := 1 + sg) (by omega) (by omega)
      walk_at "rd"
      refine r_ixS sgl hc ?_
      walk_at "rd"
      refine l_R (by omega) (by omega) (fun i σ H' => ∃ y z, σ = [some (.ref p), some (.int (n : Nat)), some (.str SG), some (.int (m : Nat)), some (.int (1 + of)), some (.str ⟨#[c]⟩), some (.str z), y] ∧ z.length = i ∧ Drw (pool p d) H H') ⟨none, "", rfl, rfl, (D2.trans D3).trans D4⟩ (fun i σ H' hi hP => ?_) (fun σ H' hP => ?_)
      · obtain ⟨y, z, rfl, hz, D5⟩ := hP
        walk_at "rd"
        refine ⟨p, d, _, rfl, D5.st, by omega, fun a H6 a0 a1 D6 => ?_⟩
        walk_at "rd"
        refine r_ite (fun _ => ?_) (fun _ => ?_)
        · walk_at "rd"
          refine r_addS (by rw [sizeLine_eq, hz]; show i + 1 ≤ _; omega) ?_
          walk_at "rd"
          exact ⟨_, _, rfl, by rw [app_len, hz]; rfl, D5.trans D6⟩
        · walk_at "rd"
          refine ⟨p, d, 4, rfl, D6.st, by decide, fun b H7 b0 b1 D7 => ?_⟩
          walk_at "rd"
          refine r_ite (fun _ => ?_) (fun _ => ?_)
          · walk_at "rd"
            refine ⟨p, d, 94, rfl, D7.st, by decide, fun g H8 g0 g1 D8 => ?_⟩
            obtain ⟨c', hc'⟩ := sg_at (i := 1 + g) (by omega) (by omega)
            walk_at "rd"
            refine r_ixS sgl hc' ?_
            walk_at "rd"
            refine r_addS (by rw [sizeLine_eq, hz]; show i + 1 ≤ _; omega) ?_
            walk_at "rd"
            exact ⟨_, _, rfl, by rw [app_len, hz]; rfl, ((D5.trans D6).trans D7).trans D8⟩
          · walk_at "rd"
            refine r_addS (by rw [sizeLine_eq, hz]; show i + 1 ≤ _; omega) ?_
            walk_at "rd"
            exact ⟨_, _, rfl, by rw [app_len, hz]; rfl, (D5.trans D6).trans D7⟩
      · obtain ⟨y, z, rfl, hz, D5⟩ := hP
        rw [Int.toNat_natCast] at hz
        walk_at "rd"
        refine ⟨p, d, 6, rfl, D5.st, by decide, fun a H6 a0 a1 D6 => ?_⟩
        walk_at "rd"
        refine r_ite (fun _ => ?_) (fun _ => ?_)
        · walk_at "rd"
          refine ⟨p, d, _, rfl, D6.st, by omega, fun b H7 b0 b1 D7 => ?_⟩
          obtain ⟨k, rfl⟩ := Int.eq_ofNat_of_zero_le b0
          refine r_repS (by decide) (by omega) ?_
          have hk : (Txt.mul " " k).length = k := by
            rw [← cs_len, cs_mul, List.length_flatten, List.map_replicate]
            show (List.replicate k 1).sum = k
            clear b1 D7
            induction k with
            | zero => rfl
            | succ k ih => rw [List.replicate_succ, List.sum_cons, ih (by omega)]; omega
          refine r_addS (by rw [sizeLine_eq, hk]; omega) ?_
          walk_at "rd"
          refine q _ _ ?_ ((D5.trans D6).trans D7)
          rw [app_len, hk]
          have : m ≤ 500 := hm
          omega
        · walk_at "rd"
          exact q _ _ (by omega) (D5.trans D6)
theorem cut_has {z : Str} {a b : Nat} : (32 ∈ (cutS z (some (a : Int)) (some (b : Int))).cps.toList) ↔ ∃ i, a ≤ i ∧ i < b ∧ spc z i = true := by
  show 32 ∈ cs _ ↔ _
  rw [cs_cut]
  constructor
  · intro h
    obtain ⟨j, hj, e⟩ := List.mem_iff_getElem.mp h
    rw [List.length_take, List.length_drop] at hj
    rw [List.getElem_take, List.getElem_drop] at e
    refine ⟨a + j, by omega, by omega, decide_eq_true ?_⟩
    rw [List.getElem?_eq_getElem (by omega), e]
  · rintro ⟨i, h1, h2, h3⟩
    have h3 := of_decide_eq_true h3
    obtain ⟨hi, e⟩ := List.getElem?_eq_some_iff.mp h3
    refine List.mem_iff_getElem.mpr ⟨i - a, by rw [List.length_take, List.length_drop]; omega, ?_⟩
    rw [List.getElem_take, List.getElem_drop]
    have : a + (i - a) = i := by omega
    simp only [this]
    exact e
open Classical in
noncomputable def letB (z : Str) (n : Nat) (b : Bool) (lo hi : Nat) : Bool := decide (Q61.Let (spc z) n b lo hi)
def spLet : Sp := fun vs H Q _ => ∃ (z : Str) (n : Nat) (b : Bool) (lo hi : Nat), vs = [.str z, .int (n : Nat), .bl b, .int (lo : Nat), .int (hi : Nat)] ∧ z.length ≤ 700 ∧ hi ≤ z.length ∧ lo < hi ∧ hi ≤ lo + n ∧ ∀ c : Bool, (c = true ↔ Q61.Let (spc z) n b lo hi) → Q (.bl c) H
theorem ok_law_let (T : Txt K mg) : FnOk P w K mg base CX0 1 T.a_law_let T.d_law_let ["_law_band_here", "_law_wide", "_law_bywords", "_law_low", "_law_high"] spLet := by
  refine T.F_law_let.ok sc_law_let (fun vs H Q E h => ?_) (fun cdv A outer s H vs Q E hr h => ?_)
  · obtain ⟨z, n, b, lo, hi, rfl, _⟩ := h
    rfl
  · obtain ⟨z, n, b, lo, hi, rfl, hz, hh, lh, hl, q⟩ := h
    refine ⟨_, (pss_cons (ps_if (PW.pt (pw_or (pt_cmpR op_gt (pe_op op_sub (pv 4) (pv 3)) (pv 1) (nomark _)) (pw_or1 (pt_cmpR op_le (pv 4) (pv 3) (nomark _))))) (pss_one (ps_ret pe_bl)) pss_nil)
        (pss_cons (ps_if (PW.pt (pw_or (pt_not (pt_val (pv 2))) (pw_or1 (pt_cmpR (op_eqU hr.units) (pe_ix ix_seq (pv 0) (pe_op op_sub (pv 4) pe_int) (fun _ _ => rfl)) pe_str (nomark _))))) (pss_one (ps_ret pe_bl)) pss_nil)
        (pss_one (ps_ret (pe_and (pe_cmpR (op_eqU hr.units) (pe_op op_sub (pv 4) (pv 3)) (pv 1) (nomark _)) (pe_one (pe_cmpR op_notInU pe_str (pe_slice sl_U (pv 0) (po_some (pv 3)) (po_some (pv 4))) (by rfl)))))))), ?_⟩
    have zl : z.length ≤ sizeLine := by rw [sizeLine_eq]; omega
    walk_at "rd"
    refine r_ite (fun h1 => absurd h1 (by omega)) (fun _ => ?_)
    walk_at "rd"
    refine r_ite (fun h1 => absurd h1 (by omega)) (fun _ => ?_)
    walk_at "rd"
    cases b with
    | false =>
      walk_at "rd"
      exact q true ⟨fun _ => ⟨lh, hl, fun z => nomatch z⟩, fun _ => rfl⟩
    | true =>
      walk_at "rd"
      have hi1 : hi - 1 < (cs z).length := by rw [cs_len]; omega
      have hc : atI z.cps.toList ((hi : Int) - 1) = some (cs z)[hi - 1] := at_g (j := hi - 1) (by omega) (List.getElem?_eq_getElem hi1)
      refine r_ixS zl hc ?_
      rw [blank]
      walk_at "rd"
      have sp1 : spc z (hi - 1) = decide ((cs z)[hi - 1] = 32) := by
        unfold spc
        rw [List.getElem?_eq_getElem hi1]
        simp
      refine r_ite (fun he => ?_) (fun he => ?_)
      · walk_at "rd"
        refine q true ⟨fun _ => ⟨lh, hl, fun _ => .inl ?_⟩, fun _ => rfl⟩
        rw [sp1]
        have := V.str.inj he
        simpa using this
      · have hn : spc z (hi - 1) = false := by
          rw [sp1, decide_eq_false_iff_not]
          intro g
          exact he (by rw [g])
        walk_at "rd"
        refine r_ite (fun hw => ?_) (fun hw => ?_)
        · walk_at "rd"
          refine r_slS zl ?_
          refine r_niS ?_
          refine q _ ?_
          rw [Bool.not_eq_true', decide_eq_false_iff_not, cut_has]
          constructor
          · intro g
            refine ⟨lh, hl, fun _ => .inr ⟨?_, fun i h1 h2 => ?_⟩⟩
            · have := V.int.inj hw; omega
            · cases e : spc z i with
              | false => rfl
              | true => exact absurd ⟨i, h1, h2, e⟩ g
          · rintro ⟨_, _, g⟩ ⟨i, h1, h2, h3⟩
            rcases g rfl with g | ⟨_, g⟩
            · rw [hn] at g; cases g
            · rw [g i h1 h2] at h3; cases h3
        · walk_at "rd"
          refine q false ⟨(fun z => nomatch z), ?_⟩
          rintro ⟨_, _, g⟩
          rcases g rfl with g | ⟨g, _⟩
          · rw [hn] at g; cases g
          · exact absurd (by rw [g]; congr 1; omega) hw
end
end K61

namespace K61
open PySem PySem.Spec PyProof.Rows L2 Dk Q61
/-- one step of a reading -/
local macro_rules | `(tactic| walk_at "rd1") => `(tactic| first
  | ((with_reducible refine r_var (v := ?rv) ?rh ?_); (case rh => rfl))
  | with_reducible refine r_c ?_
  | with_reducible refine r_seq ?_
  | with_reducible refine r_asg ?_
  | with_reducible refine r_par ?_
  | with_reducible refine r_gname ?_
  | with_reducible refine r_op ?_
  | with_reducible refine r_forLo ?_
  | with_reducible refine r_forTo ?_
  | with_reducible refine r_forSo ?_
  | with_reducible refine r_forRo ?_
  | with_reducible refine r_forRvo ?_
  | with_reducible refine r_forZo ?_
  | with_reducible refine r_revS ?_
  | with_reducible refine r_lcRo ?_
  | with_reducible refine r_lcLo ?_
  | with_reducible refine r_yes ?_
  | with_reducible refine r_callK0 ?_
  | with_reducible refine r_break ?_
  | with_reducible refine r_forR2o ?_
  | with_reducible refine r_forEo ?_
  | with_reducible refine r_forESo ?_
  | with_reducible refine r_xfo ?_
  | with_reducible refine r_noP ?_
  | with_reducible refine r_part ?_
  | with_reducible refine r_pI ?_
  | with_reducible refine r_gcons ?_
  | with_reducible refine r_gnil ?_
  | with_reducible refine r_mkO ?_
  | with_reducible refine r_un ?_
  | with_reducible refine r_addI ?_
  | with_reducible refine r_I0 ?_
  | with_reducible refine r_U ?_
  | with_reducible refine r_cons ?_
  | with_reducible refine r_nil ?_
  | with_reducible refine r_CB ?_
  | with_reducible refine r_call ?_
  | with_reducible refine r_callS ?_
  | with_reducible refine r_int ?_
  | with_reducible refine r_max ?_
  | with_reducible refine r_min ?_
  | with_reducible refine r_test ?_
  | with_reducible refine r_B ?_
  | with_reducible refine r_blv ?_
  | with_reducible refine r_and ?_
  | with_reducible refine r_or ?_
  | with_reducible refine r_not ?_
  | with_reducible refine r_andV ?_
  | with_reducible refine r_orV ?_
  | with_reducible refine r_notV ?_
  | with_reducible refine r_ifE ?_
  | with_reducible refine r_ifS ?_
  | with_reducible refine r_ret ?_
  | with_reducible refine r_retN ?_
  | with_reducible refine r_drop ?_
  | with_reducible refine r_next ?_
  | with_reducible refine r_sl ?_
  | with_reducible refine r_gsub ?_
  | with_reducible refine r_bm ?_
  | with_reducible refine r_tup ?_
  | with_reducible refine r_lst ?_
  | with_reducible refine r_isN ?_
  | with_reducible refine r_notN ?_
  | with_reducible refine r_chain ?_
  | with_reducible refine r_lcEio ?_
  | with_reducible refine r_forEi ?_
  | with_reducible refine r_lcTo ?_
  | with_reducible refine r_m1 ?_
  | with_reducible refine r_dget ?_
  | with_reducible refine r_din ?_
  | with_reducible refine r_dnotin ?_
  | with_reducible refine r_starC ?_
  | with_reducible refine r_callKS ?_
  | with_reducible refine r_itt ?_
  | with_reducible refine r_iff ?_
  | with_reducible refine r_ittN ?_
  | with_reducible refine r_iffN ?_
  | ((with_reducible refine r_ittD ?rh ?_); (case rh => rfl))
  | ((with_reducible refine r_iffD ?rh ?_); (case rh => rfl))
  | ((with_reducible refine r_modP ?rh ?_); (case rh => decide))
  | ((with_reducible refine r_eq ?rh ?_); (case rh => rfl))
  | ((with_reducible refine r_eqP ?rh ?_); (case rh => rfl))
  | ((with_reducible refine r_ne ?rh ?_); (case rh => rfl)))
local macro_rules | `(tactic| walk_at "rd") => `(tactic| repeat walk_at "rd1")
local macro_rules | `(tactic| walk_at "isi") => `(tactic| first | refine r_isi (b := true) (by assumption) (by decide +kernel) ?_ | refine r_isi (b := false) (by assumption) (by decide +kernel) ?_)
local macro_rules | `(tactic| walk_at "rs1") => `(tactic| first
  | with_reducible refine r_seq ?_
  | with_reducible refine r_asg ?_
  | with_reducible refine r_gname ?_
  | with_reducible refine r_ret ?_)
local macro_rules | `(tactic| walk_at "rs") => `(tactic| repeat walk_at "rs1")

def spCut (K : PySem.W.Frag) : Sp := fun vs H Q _ => ∃ (z : Str) (n : Nat) (b : Bool), vs = [.str z, .int (n : Nat), .bl b] ∧ z.length ≤ 700 ∧ 1 ≤ n ∧ n ≤ 100 ∧ ∀ v t H', Ex H H' → IsT (spc z) n b z.length t → TupV K (SgV K) H' v (pcl (spc z) n b z.length t) → Q v H'
section
variable {P : Program} {w : World} {K : PySem.W.Frag} {mg : Str → Option Value} {base : Heap}
theorem bl_at {ds : List Bool} {i : Nat} {x : Bool} (h : ds[i]? = some x) : (ds.map V.bl)[i]? = some (V.bl x) := by rw [List.getElem?_map, h]; rfl
set_option maxHeartbeats 16000000 in
theorem ok_law_due (T : Txt K mg) : FnOk P w K mg base CX0 2 T.a_law_due T.d_law_due ["_law_band_here", "_law_wide", "_law_bywords"] (spCut K) := by
  refine T.F_law_due.ok sc_law_due (fun vs H Q E h => ?_) (fun cdv A outer s H vs Q E hr h => ?_)
  · obtain ⟨z, n, b, rfl, _⟩ := h
    rfl
  · obtain ⟨z, n, b, rfl, hz, n0, n1, q⟩ := h
    refine ⟨_, (pss_cons (ps_set (i := 3) sc_law_due.nd rfl (Or.inr rfl) (pe_callB call_lenU (by rfl) T.n_len (by decide +kernel) (pa_cons (pv 0) pa_nil)))
        (pss_cons (ps_set (i := 4) sc_law_due.nd rfl (Or.inl rfl) (pe_op op_rep (pe_lst (pa_cons pe_bl pa_nil)) (pe_op op_addU (pv 3) pe_int)))
        (pss_cons (ps_for PassesOwn.never rfl (pi_range1 (by rfl) T.n_range (pa_cons (pe_op op_addU (pv 3) pe_int) pa_nil)) (pg_name (i := 5) sc_law_due.nd rfl (Or.inl rfl)) (pss_cons (ps_set (i := 6) sc_law_due.nd rfl (Or.inl rfl) (pe_op op_sub (pv 3) (pv 5)))
        (pss_cons (ps_asg (pe_cmpR op_le (pv 5) (pv 1) (nomark _)) (pg_sub (pv 4) (pv 6) set_list))
        (pss_one (ps_for PassesOwn.never rfl (pi_range2 (by rfl) T.n_range (pa_cons (pe_op op_addU (pv 6) pe_int) (pa_cons (pe_op op_addU (pe_callB (call_minU rfl) (by rfl) T.n_min (by decide +kernel) (pa_cons (pv 3) (pa_cons (pe_op op_addU (pv 6) (pv 1)) pa_nil))) pe_int) pa_nil))) (pg_name (i := 7) sc_law_due.nd rfl (Or.inl rfl)) (pss_one (ps_if (PW.pt (pw_and (pt_val (pe_ix ix_seq (pv 4) (pv 7) (fun _ _ => rfl))) (pw_and1 (pt_val (pe_call (ok_law_let T) hr (by rfl) T.g_law_let T.F_law_let.kp T.b_law_let .nil pass0 (pa_cons (pv 0) (pa_cons (pv 1) (pa_cons (pv 2) (pa_cons (pv 6) (pa_cons (pv 7) pa_nil)))))))))) (pss_one (ps_asg pe_bl (pg_sub (pv 4) (pv 6) set_list))) pss_nil)))))))
        (pss_cons (ps_set (i := 8) sc_law_due.nd rfl (Or.inl rfl) (pe_lst (pa_cons pe_int pa_nil)))
        (pss_cons (ps_set (i := 9) sc_law_due.nd rfl (Or.inl rfl) (pe_lst pa_nil))
        (pss_cons (ps_for PassesOwn.never rfl (pi_range1 (by rfl) T.n_range (pa_cons (pe_op op_addU (pv 3) pe_int) pa_nil)) (pg_name (i := 10) sc_law_due.nd rfl (Or.inl rfl)) (pss_cons (ps_if (pt_cmpR op_gt (pe_callB call_lenU (by rfl) T.n_len (by decide +kernel) (pa_cons (pe_lc (own := [("_law_low", 6)]) (g := gName 6) rfl sc_law_due.nd (pi_list (pv 8)) (blkOk_by (N := N_law_due) (sc := defScope s_law_due) (by decide +kernel)) (fun _ _ _ _ _ => pg_name (i := 6) sc_law_due.nd rfl (Or.inl rfl)) (fun _ _ _ _ _ => (pts_one (pt_cmpR op_le (pe_op op_sub (pv 3) (pv 6)) (pv 1) (nomark _)))) (fun _ _ _ _ _ => (pv 6))) pa_nil)) pe_int (nomark _)) (pss_one ps_break) pss_nil)
        (pss_cons (ps_set (i := 11) sc_law_due.nd rfl (Or.inr rfl) (pe_op op_rep (pe_lst (pa_cons pe_bl pa_nil)) (pe_op op_addU (pv 3) pe_int)))
        (pss_cons (ps_for PassesOwn.never rfl (pi_list (pv 8)) (pg_name (i := 6) sc_law_due.nd rfl (Or.inl rfl)) (pss_one (ps_for PassesOwn.never rfl (pi_range2 (by rfl) T.n_range (pa_cons (pe_op op_addU (pv 6) pe_int) (pa_cons (pe_op op_addU (pe_callB (call_minU rfl) (by rfl) T.n_min (by decide +kernel) (pa_cons (pv 3) (pa_cons (pe_op op_addU (pv 6) (pv 1)) pa_nil))) pe_int) pa_nil))) (pg_name (i := 7) sc_law_due.nd rfl (Or.inl rfl)) (pss_one (ps_if (PW.pt (pw_and (pt_val (pe_ix ix_seq (pv 4) (pv 7) (fun _ _ => rfl))) (pw_and1 (pt_val (pe_call (ok_law_let T) hr (by rfl) T.g_law_let T.F_law_let.kp T.b_law_let .nil pass0 (pa_cons (pv 0) (pa_cons (pv 1) (pa_cons (pv 2) (pa_cons (pv 6) (pa_cons (pv 7) pa_nil)))))))))) (pss_one (ps_asg pe_bl (pg_sub (pv 11) (pv 7) set_list))) pss_nil)))))
        (pss_cons (ps_setLc (i := 8) (own := [("_law_high", 7)]) (g := gName 7) rfl sc_law_due.nd rfl rfl (sw_true rfl rfl rfl (by decide +kernel)) (pi_range1 (by rfl) T.n_range (pa_cons (pe_op op_addU (pv 3) pe_int) pa_nil)) (blkOk_by (N := N_law_due) (sc := defScope s_law_due) (by decide +kernel)) (fun _ _ _ _ _ => pg_name (i := 7) sc_law_due.nd rfl (Or.inl rfl)) (fun _ _ _ _ _ => (pts_one (pt_val (pe_ix (k_ix (K := K) rfl) (pv 11) (pv 7) (fun _ _ => rfl))))) (fun _ _ _ _ _ => (pv 7)))
        (pss_one (ps_expr (pe_bm PySem.F.plainAttrs_list PySem.F.slot_list_append PySem.F.type_list_append mt_append (pv 9) (pa_cons (pe_ix ix_seq (pv 8) (pe_un un_neg pe_int) (fun _ _ => rfl)) pa_nil)))))))))
        (pss_cons (ps_set (i := 12) sc_law_due.nd rfl (Or.inr rfl) (pe_op op_addU (pv 9) (pe_lst (pa_cons (pv 3) pa_nil))))
        (pss_one (ps_ret (pe_callTy call_tupU (by rfl) T.n_tuple (by decide +kernel) (pa_cons (pe_lc (own := [("_law_k", 13)]) (g := gName 13) rfl sc_law_due.nd (pi_range1 (by rfl) T.n_range (pa_cons (pe_callB call_lenU (by rfl) T.n_len (by decide +kernel) (pa_cons (pv 12) pa_nil)) pa_nil)) (blkOk_by (N := N_law_due) (sc := defScope s_law_due) (by decide +kernel)) (fun _ _ _ _ _ => pg_name (i := 13) sc_law_due.nd rfl (Or.inl rfl)) (fun _ _ _ _ _ => pts_nil) (fun _ _ _ _ _ => (pe_tup (pa_cons (pe_ix (k_ix (K := K) rfl) (pe_op (k_add (K := K) rfl) (pe_lst (pa_cons pe_int pa_nil)) (pv 12)) (pv 13) (fun _ _ => rfl)) (pa_cons (pe_ix (k_ix (K := K) rfl) (pv 12) (pv 13) (fun _ _ => rfl)) pa_nil))))) pa_nil))))))))))), ?_⟩
    have zl : z.length ≤ sizeLine := by rw [sizeLine_eq]; omega
    obtain ⟨N, hN⟩ : ∃ N, N = z.length := ⟨_, rfl⟩
    walk_at "rd"
    refine r_lenS zl ?_
    rw [← hN]
    walk_at "rd"
    refine r_small nsz fun l0 hl0 => ?_
    walk_at "rd"
    refine r_repL (n := N + 1) upd_same (by omega) fun D hD => ?_
    walk_at "rd"
    have hDH : H D = none := (Same.new (Same.refl H) hl0).free hD
    have eD : Ex H (upd (upd H l0 (.lst [.bl false])) D (.lst (List.replicate (N + 1) (.bl false)))) := Same.mut (Same.new (Same.refl H) hl0) hDH
    refine l_R (by omega) (by omega) (fun i σ H' => ∃ y5 y6 y7, ∃ ds : List Bool, σ = [some (.str z), some (.int (n : Nat)), some (.bl b), some (.int (N : Nat)), some (.ref D), y5, y6, y7, none, none, none, none, none, none] ∧ Ex H H' ∧ H' D = some (.lst (ds.map V.bl)) ∧ ds.length = N + 1 ∧ ∀ j, j ≤ N → N < j + i → ds[j]? = some true)
      ⟨none, none, none, List.replicate (N + 1) false, rfl, eD, by rw [upd_same, List.map_replicate], by rw [List.length_replicate], fun j h1 h2 => absurd h2 (by omega)⟩ (fun i σ H' hi hP => ?_) (fun σ H' hP => ?_)
    · obtain ⟨y5, y6, y7, ds, rfl, e, gD, dl, hds⟩ := hP
      obtain ⟨lo, hlo⟩ : ∃ lo, N = lo + i := ⟨N - i, by omega⟩
      have elo : ((N : Int) - (i : Nat)) = (lo : Nat) := by omega
      walk_at "rd"
      rw [elo]
      walk_at "rd"
      refine r_setL gD (n := lo) (ixN_nat (by omega) (by rw [List.length_map]; omega)) ?_
      walk_at "rd"
      refine l_R2g (a := lo + 1) (n := min N (lo + n) - lo) (by omega) (by omega) (by omega) (fun k σ H1 => ∃ y7, ∃ ds : List Bool, σ = [some (.str z), some (.int (n : Nat)), some (.bl b), some (.int (N : Nat)), some (.ref D), some (.int (i : Nat)), some (.int (lo : Nat)), y7, none, none, none, none, none, none] ∧ Ex H H1 ∧ H1 D = some (.lst (ds.map V.bl)) ∧ ds.length = N + 1 ∧ (∀ j, j ≤ N → lo < j → ds[j]? = some true) ∧ (ds[lo]? = some true ∨ (¬ i ≤ n ∧ ∀ h, h < lo + 1 + k → ¬ Let (spc z) n b lo h)))
        ⟨y7, ds.set lo (decide ((i : Int) ≤ (n : Int))), rfl, Same.mut e hDH, by rw [upd_same, List.map_set], by rw [List.length_set]; exact dl, fun j h1 h2 => ?_, ?_⟩ (fun k σ H1 hk hP => ?_) (fun σ H1 hP => ?_)
      · rw [List.getElem?_set_ne (by omega)]
        exact hds j h1 (by omega)
      · rw [List.getElem?_set_self (by omega)]
        by_cases hc : i ≤ n
        · exact .inl (by rw [decide_eq_true (by omega)])
        · exact .inr ⟨hc, fun h h1 h2 => by have := h2.1; omega⟩
      · obtain ⟨y7, ds, rfl, e, gD, dl, hds, hor⟩ := hP
        obtain ⟨hi, hhi⟩ : ∃ hi, hi = lo + 1 + k := ⟨_, rfl⟩
        rw [← hhi]
        walk_at "rd"
        refine r_ixL (sqL gD) (atI_nat (bl_at (hds hi (by omega) (by omega)))) ?_
        walk_at "rd"
        refine ⟨z, n, b, lo, hi, rfl, hz, by omega, by omega, by omega, fun c hc => ?_⟩
        walk_at "rd"
        refine r_iteB (fun h1 => ?_) (fun h1 => ?_)
        · walk_at "rd"
          refine r_setL gD (n := lo) (ixN_nat (by omega) (by rw [List.length_map]; omega)) ?_
          refine ⟨_, ds.set lo true, rfl, Same.mut e hDH, by rw [upd_same, List.map_set], by rw [List.length_set]; exact dl, fun j h1 h2 => ?_, .inl ?_⟩
          · rw [List.getElem?_set_ne (by omega)]
            exact hds j h1 (by omega)
          · rw [List.getElem?_set_self (by omega)]
        · walk_at "rd"
          refine ⟨_, ds, rfl, e, gD, dl, hds, hor.imp id fun h2 => ⟨h2.1, fun h h3 h4 => ?_⟩⟩
          rcases Nat.lt_or_ge h hi with g | g
          · exact h2.2 h (by omega) h4
          · have eh : h = hi := by omega
            rw [eh] at h4
            rw [hc.mpr h4] at h1
            cases h1
      · obtain ⟨y7, ds, rfl, e, gD, dl, hds, hor⟩ := hP
        have h0 : ds[lo]? = some true := by
          rcases hor with h | ⟨h1, h2⟩
          · exact h
          · exfalso
            have g := isg_let (sp := spc z) (bw := b) n0 (gr_is lo)
            have g2 := gr_le (sp := spc z) (bw := b) n0 lo
            exact h2 _ (by omega) g
        refine ⟨_, _, _, ds, rfl, e, gD, dl, fun j h1 h2 => ?_⟩
        rcases Nat.lt_or_ge lo j with g | g
        · exact hds j h1 g
        · rw [show j = lo by omega]
          exact h0
    · obtain ⟨y5, y6, y7, ds, rfl, e, gD, dl, hds⟩ := hP
      have hds : ∀ j, j ≤ N → ds[j]? = some true := fun j h => hds j h (by omega)
      walk_at "rd"
      refine r_small nsz fun R0 hR0 => ?_
      walk_at "rd"
      refine r_small nsz fun F hF => ?_
      walk_at "rd"
      have hFH : H F = none := (e.trans (Same.new (Same.refl _) hR0)).free hF
      have neDF : D ≠ F := fun z => by
        have := (Same.new (Same.refl _) hR0 : Ex _ (upd H' R0 (HO.lst [V.int 0]))) _ _ gD
        rw [z, hF] at this
        cases this
      have neRF : R0 ≠ F := fun z => by
        rw [← z, upd_same] at hF
        cases hF
      have i0 : H R0 = none := e.free hR0
      refine l_R (by omega) (by omega) (fun t σ H' => ∃ y5 y6 y7 y10 y11, ∃ (R : Addr) (rs : List Nat), σ = [some (.str z), some (.int (n : Nat)), some (.bl b), some (.int (N : Nat)), some (.ref D), y5, y6, y7, some (.ref R), some (.ref F), y10, y11, none, none] ∧ Ex H H' ∧ H' D = some (.lst (ds.map V.bl)) ∧ H' R = some (.lst (rs.map fun r : Nat => V.int r)) ∧
          H' F = some (.lst ((List.range t).map fun i => V.int (it (spc z) n b (i + 1) : Nat))) ∧ R ≠ F ∧ H R = none ∧ rs.length ≤ N + 1 ∧ (∀ r ∈ rs, r ≤ it (spc z) n b t) ∧ it (spc z) n b t ∈ rs ∧ ∀ i, i < t → it (spc z) n b i + n < N)
        ⟨_, _, _, none, none, R0, [0], rfl, Same.mut (Same.mut e i0) hFH, ?_, ?_, upd_same, neRF, i0, by simp, by simp, by simp [it], fun i h => absurd h (by omega)⟩ (fun t σ H' ht hP => ?_) (fun σ H' hP => ?_)
      · rw [upd_ne neDF]
        exact (Same.new (Same.refl _) hR0 : Ex _ (upd H' R0 (HO.lst [V.int 0]))) _ _ gD
      · rw [upd_ne neRF, upd_same]
        rfl
      · obtain ⟨y5, y6, y7, y10, y11, R, rs, rfl, e, gD, gR, gF, nRF, hR, rl, hle, hmem, hlt⟩ := hP
        have hN' : it (spc z) n b t ≤ N := it_le n0 hlt
        walk_at "rd"
        refine l_lcL (sqL gR) (fun C i H2 => Ex H' H2 ∧ ∃ acc, H2 C = some (.lst acc) ∧ acc.length ≤ i ∧ (0 < acc.length ↔ ∃ r ∈ rs.take i, N ≤ r + n)) (fun C hC => ⟨Same.new (Same.refl _) hC, [], upd_same, Nat.le_refl _, by simp⟩) (fun C i H2 hP => sqL (hP.1 _ _ gR)) (fun C i x H2 hC hx hP => ?_) (fun C H2 hC hP => ?_)
        · obtain ⟨e2, acc, gC, la, hacc⟩ := hP
          obtain ⟨r, hr', rfl⟩ : ∃ r, rs[i]? = some r ∧ x = V.int (r : Nat) := by
            rw [List.getElem?_map] at hx
            cases e : rs[i]? with
            | none => rw [e] at hx; cases hx
            | some c => rw [e] at hx; exact ⟨c, rfl, (Option.some.inj hx).symm⟩
          have hil : i < rs.length := (List.getElem?_eq_some_iff.mp hr').1
          walk_at "rd"
          refine ⟨rfl, ?_⟩
          have tk : ∀ P : Nat → Prop, (∃ r' ∈ rs.take (i + 1), P r') ↔ (∃ r' ∈ rs.take i, P r') ∨ P r := fun P => by
            rw [List.take_add_one, hr']
            simp only [Option.toList_some, List.mem_append, List.mem_singleton]
            constructor
            · rintro ⟨r', h1 | rfl, h2⟩
              · exact .inl ⟨r', h1, h2⟩
              · exact .inr h2
            · rintro (⟨r', h1, h2⟩ | h)
              · exact ⟨r', .inl h1, h2⟩
              · exact ⟨r, .inr rfl, h⟩
          walk_at "rd"
          refine r_ite (fun h1 => ?_) (fun h1 => ?_)
          · walk_at "rd"
            refine ⟨acc, gC, Nat.lt_of_le_of_lt (show acc.length ≤ 1000 by omega) (by decide), Same.mut e2 hC, _, upd_same, by rw [List.length_append]; simp; omega, ?_⟩
            rw [tk, List.length_append]
            constructor
            · intro _
              exact .inr (by omega)
            · intro _
              simp
          · refine ⟨e2, acc, gC, by omega, ?_⟩
            rw [tk, hacc]
            constructor
            · exact .inl
            · rintro (h | h)
              · exact h
              · exact absurd (show (N : Int) - (r : Nat) ≤ (n : Nat) by omega) h1
        · obtain ⟨e2, acc, gC, la, hacc⟩ := hP
          rw [List.length_map, List.take_length] at hacc
          have gD2 := e2 _ _ gD
          have gR2 := e2 _ _ gR
          have gF2 := e2 _ _ gF
          walk_at "rd"
          refine r_lenL (sqL gC) ?_
          walk_at "rd"
          refine r_ite (fun h1 => ?_) (fun h1 => ?_)
          · -- the last round
            obtain ⟨r, hr1, hr2⟩ := hacc.mp (by omega)
            have hT : IsT (spc z) n b N t := ⟨hlt, by have := hle r hr1; omega⟩
            obtain ⟨pk, hpk⟩ : ∃ pk : Nat → Nat × Nat, pk = fun k => (it (spc z) n b k, if k < t then it (spc z) n b (k + 1) else N) := ⟨_, rfl⟩
            obtain ⟨es, hes⟩ : ∃ es : List Nat, es = (List.range t).map (fun i => it (spc z) n b (i + 1)) ++ [N] := ⟨_, rfl⟩
            have esl : es.length = t + 1 := by rw [hes, List.length_append, List.length_map, List.length_range]; rfl
            have es_at : ∀ k, k < t + 1 → es[k]? = some (pk k).2 := fun k hk => by
              rw [hes, hpk]
              rcases Nat.lt_or_ge k t with g | g
              · rw [List.getElem?_append_left (by rw [List.length_map, List.length_range]; exact g), List.getElem?_map, List.getElem?_range g]
                show some _ = some (if k < t then _ else _)
                rw [if_pos g]
              · have : k = t := by omega
                subst this
                rw [List.getElem?_append_right (by rw [List.length_map, List.length_range]; exact Nat.le_refl _), List.length_map, List.length_range, Nat.sub_self]
                show some _ = some (if k < k then _ else _)
                rw [if_neg (Nat.lt_irrefl _)]
            have zs_at : ∀ k, k < t + 1 → (0 :: es)[k]? = some (pk k).1 := fun k hk => by
              cases k with
              | zero => rw [hpk]; rfl
              | succ k =>
                rw [List.getElem?_cons_succ, es_at k (by omega), hpk]
                show some (if k < t then _ else _) = some _
                rw [if_pos (by omega)]
            have tN : t ≤ N := Nat.le_trans (it_ge (sp := spc z) (bw := b) n0 t) hN'
            walk_at "rd"
            refine r_small nsz fun L1 hL1 => ?_
            have eL1 : Ex H2 (upd H2 L1 (.lst [.int (N : Nat)])) := Same.new (Same.refl _) hL1
            refine r_addL (eL1 _ _ gF2) upd_same (by rw [List.length_map, List.length_range, sizeLine_eq]; simp; omega) fun E hE => ?_
            have eE : Ex H2 (upd (upd H2 L1 (.lst [.int (N : Nat)])) E (.lst (es.map fun r : Nat => V.int r))) := eL1.trans (Same.new (Same.refl _) hE)
            have eq : (List.range t).map (fun i => V.int (it (spc z) n b (i + 1) : Nat)) ++ [V.int (N : Nat)] = es.map fun r : Nat => V.int r := by
              rw [hes, List.map_append, List.map_map]
              rfl
            rw [eq]
            generalize hH3 : upd (upd H2 L1 (.lst [.int (N : Nat)])) E (.lst (es.map fun r : Nat => V.int r)) = H3 at eE ⊢
            have gE : H3 E = some (.lst (es.map fun r : Nat => V.int r)) := by rw [← hH3, upd_same]
            walk_at "rd"
            refine r_lenL (sqL gE) ?_
            rw [List.length_map, esl]
            walk_at "rd"
            refine l_lcR (by omega) (by omega) (fun C i H4 => Ex H3 H4 ∧ ∃ acc, H4 C = some (.lst acc) ∧ SgL K H4 acc ((List.range i).map pk)) (fun C hC => ⟨Same.new (Same.refl _) hC, [], upd_same, .nil⟩) (fun C i H4 hC hi hP => ?_) (fun C H4 hC hP => ?_)
            · obtain ⟨e4, acc, gC, hacc⟩ := hP
              have al : acc.length = i := by rw [hacc.len, List.length_map, List.length_range]
              have hi' : i < t + 1 := by omega
              walk_at "rd"
              refine ⟨rfl, ?_⟩
              walk_at "rd"
              refine r_small nsz fun Z0 hZ0 => ?_
              have eZ0 : Ex H4 (upd H4 Z0 (.lst [.int 0])) := Same.new (Same.refl _) hZ0
              walk_at "rd"
              refine r_addL upd_same (eZ0 _ _ (e4 _ _ gE)) (by rw [List.length_map, esl, sizeLine_eq]; simp; omega) fun Z hZ => ?_
              have eZ : Ex H4 (upd (upd H4 Z0 (.lst [.int 0])) Z (.lst ([V.int 0] ++ es.map fun r : Nat => V.int r))) := eZ0.trans (Same.new (Same.refl _) hZ)
              walk_at "rd"
              refine r_ixL (sqL upd_same) (atI_nat (j := i) (v := V.int (pk i).1) ?_) ?_
              · have h := zs_at i hi'
                have h2 : ([V.int 0] ++ es.map fun r : Nat => V.int r) = (0 :: es).map fun r : Nat => V.int r := rfl
                rw [h2, List.getElem?_map, h]
                rfl
              walk_at "rd"
              refine r_ixL (sqL (eZ _ _ (e4 _ _ gE))) (atI_nat (j := i) (v := V.int (pk i).2) (by rw [List.getElem?_map, es_at i hi']; rfl)) ?_
              walk_at "rd"
              refine r_small nsz fun p hp => ?_
              obtain ⟨H5, k5, e5, h5⟩ := new1 hp (.tup [V.int ((pk i).1 : Nat), V.int ((pk i).2 : Nat)])
              rw [← k5]
              have hS : SgV K H5 (.ref p) (pk i) := ⟨p, rfl, .inl h5⟩
              have e45 : Ex H4 H5 := eZ.trans e5
              refine ⟨acc, e45 _ _ gC, Nat.lt_of_le_of_lt (show acc.length ≤ 1000 by omega) (by decide), Same.mut (e4.trans e45) hC, _, upd_same, ?_⟩
              rw [List.range_succ, List.map_append]
              have eC : Tk H5 (upd H5 C (.lst (acc ++ [.ref p]))) := .put (e45 _ _ gC)
              exact (p2_imm eC (p2_imm (.ex e45) hacc)).snoc (imm eC hS)
            · obtain ⟨e4, acc, gC, hacc⟩ := hP
              have e1 : ((t + 1 : Nat) : Int).toNat = t + 1 := rfl
              rw [e1] at hacc
              refine r_tupLV gC hacc fun p H5 hp e5 hT' => ?_
              refine q _ t _ (((e.trans e2).trans eE).trans (e4.trans e5)) (hN ▸ hT) ?_
              have ep : pcl (spc z) n b z.length t = (List.range (t + 1)).map pk := by rw [hpk, hN]; rfl
              rw [ep]
              exact hT'
          · have hno : it (spc z) n b t + n < N := by
              rcases Nat.lt_or_ge (it (spc z) n b t + n) N with g | g
              · exact g
              · exact absurd (hacc.mpr ⟨_, hmem, g⟩) (by omega)
            walk_at "rd"
            refine r_small nsz fun l1 hl1 => ?_
            walk_at "rd"
            refine r_repL (n := N + 1) upd_same (by omega) fun M hM => ?_
            walk_at "rd"
            have hM2 : H2 M = none := (Same.new (Same.refl _) hl1).free hM
            have eM : Ex H2 (upd (upd H2 l1 (.lst [.bl false])) M (.lst (List.replicate (N + 1) (.bl false)))) := Same.mut (Same.new (Same.refl _) hl1) hM2
            have tk : ∀ (i r : Nat) (P : Nat → Prop), rs[i]? = some r → ((∃ r' ∈ rs.take (i + 1), P r') ↔ (∃ r' ∈ rs.take i, P r') ∨ P r) := fun i r P hr' => by
              rw [List.take_add_one, hr']
              simp only [Option.toList_some, List.mem_append, List.mem_singleton]
              constructor
              · rintro ⟨r', h1 | rfl, h2⟩
                · exact .inl ⟨r', h1, h2⟩
                · exact .inr h2
              · rintro (⟨r', h1, h2⟩ | h)
                · exact ⟨r', .inl h1, h2⟩
                · exact ⟨r, .inr rfl, h⟩
            refine l_L (sqL (eM _ _ gR2)) (fun i σ H4 => ∃ y6 y7, ∃ ms : List Bool, σ = [some (.str z), some (.int (n : Nat)), some (.bl b), some (.int (N : Nat)), some (.ref D), y5, y6, y7, some (.ref R), some (.ref F), some (.int (t : Nat)), some (.ref M), none, none] ∧ Ex H2 H4 ∧ H4 M = some (.lst (ms.map V.bl)) ∧ ms.length = N + 1 ∧ ∀ h, h ≤ N → (ms[h]? = some true ↔ ∃ r ∈ rs.take i, Let (spc z) n b r h))
              ⟨_, _, List.replicate (N + 1) false, rfl, eM, by rw [upd_same, List.map_replicate], by rw [List.length_replicate], fun h hh => ?_⟩ (fun i σ H4 hP => ?_) (fun i x σ H4 hx hP => ?_) (fun σ H4 hP => ?_)
            · rw [List.getElem?_replicate]
              constructor
              · intro g
                split at g
                · cases g
                · cases g
              · rintro ⟨r, h1, _⟩
                rw [List.take_zero] at h1
                cases h1
            · obtain ⟨_, _, _, _, e4, _⟩ := hP
              exact sqL (e4 _ _ gR2)
            · obtain ⟨y6, y7, ms, rfl, e4, gM, ml, hms⟩ := hP
              obtain ⟨r, hr', rfl⟩ : ∃ r, rs[i]? = some r ∧ x = V.int (r : Nat) := by
                rw [List.getElem?_map] at hx
                cases e : rs[i]? with
                | none => rw [e] at hx; cases hx
                | some c => rw [e] at hx; exact ⟨c, rfl, (Option.some.inj hx).symm⟩
              have hrt := hle r (List.mem_of_getElem? hr')
              walk_at "rd"
              refine l_R2g (a := r + 1) (n := min N (r + n) - r) (by omega) (by omega) (by omega) (fun k σ H5 => ∃ y7, ∃ ms : List Bool, σ = [some (.str z), some (.int (n : Nat)), some (.bl b), some (.int (N : Nat)), some (.ref D), y5, some (.int (r : Nat)), y7, some (.ref R), some (.ref F), some (.int (t : Nat)), some (.ref M), none, none] ∧ Ex H2 H5 ∧ H5 M = some (.lst (ms.map V.bl)) ∧ ms.length = N + 1 ∧ ∀ h, h ≤ N → (ms[h]? = some true ↔ (∃ r ∈ rs.take i, Let (spc z) n b r h) ∨ (h < r + 1 + k ∧ Let (spc z) n b r h)))
                ⟨y7, ms, rfl, e4, gM, ml, fun h hh => ?_⟩ (fun k σ H5 hk hP => ?_) (fun σ H5 hP => ?_)
              · rw [hms h hh]
                constructor
                · exact .inl
                · rintro (g | ⟨g1, g2⟩)
                  · exact g
                  · have := g2.1; omega
              · obtain ⟨y7, ms, rfl, e5, gM, ml, hms⟩ := hP
                obtain ⟨hi, hhi⟩ : ∃ hi, hi = r + 1 + k := ⟨_, rfl⟩
                rw [← hhi]
                walk_at "rd"
                refine r_ixL (sqL (e5 _ _ gD2)) (atI_nat (bl_at (hds hi (by omega)))) ?_
                walk_at "rd"
                refine ⟨z, n, b, r, hi, rfl, hz, by omega, by omega, by omega, fun c hc => ?_⟩
                walk_at "rd"
                have st : ∀ h, (h < r + 1 + (k + 1) ∧ Let (spc z) n b r h) ↔ (h < r + 1 + k ∧ Let (spc z) n b r h) ∨ (h = hi ∧ Let (spc z) n b r hi) := fun h => by
                  constructor
                  · rintro ⟨g1, g2⟩
                    rcases Nat.lt_or_ge h hi with g | g
                    · exact .inl ⟨by omega, g2⟩
                    · have eh : h = hi := by omega
                      exact .inr ⟨eh, eh ▸ g2⟩
                  · rintro (⟨g1, g2⟩ | ⟨rfl, g2⟩)
                    · exact ⟨by omega, g2⟩
                    · exact ⟨by omega, g2⟩
                refine r_iteB (fun h1 => ?_) (fun h1 => ?_)
                · walk_at "rd"
                  refine r_setL gM (n := hi) (ixN_nat (by omega) (by rw [List.length_map]; omega)) ?_
                  refine ⟨_, ms.set hi true, rfl, Same.mut e5 hM2, by rw [upd_same, List.map_set], by rw [List.length_set]; exact ml, fun h hh => ?_⟩
                  rw [st h, ← or_assoc, ← hms h hh]
                  by_cases eh : h = hi
                  · subst eh
                    rw [List.getElem?_set_self (by omega)]
                    exact ⟨fun _ => .inr ⟨rfl, hc.mp h1⟩, fun _ => rfl⟩
                  · rw [List.getElem?_set_ne (Ne.symm eh)]
                    exact ⟨.inl, fun g => g.elim id fun g => absurd g.1 eh⟩
                · walk_at "rd"
                  refine ⟨_, ms, rfl, e5, gM, ml, fun h hh => ?_⟩
                  rw [st h, ← or_assoc, ← hms h hh]
                  refine ⟨.inl, fun g => g.elim id fun g => ?_⟩
                  rw [hc.mpr g.2] at h1
                  cases h1
              · obtain ⟨y7, ms, rfl, e5, gM, ml, hms⟩ := hP
                refine ⟨_, _, ms, rfl, e5, gM, ml, fun h hh => ?_⟩
                rw [hms h hh, tk i r (fun r => Let (spc z) n b r h) hr']
                constructor
                · exact fun g => g.imp id fun g => g.2
                · refine fun g => g.imp id fun g => ⟨?_, g⟩
                  have := g.2.1
                  omega
            · obtain ⟨y6, y7, ms, rfl, e4, gM, ml, hms⟩ := hP
              have hms : ∀ h, h ≤ N → (ms[h]? = some true ↔ ∃ r ∈ rs, Let (spc z) n b r h) := fun h hh => by
                have g := hms h hh
                rw [List.length_map, List.take_length] at g
                exact g
              walk_at "rd"
              refine l_lcR (by omega) (by omega) (fun C i H5 => Ex H4 H5 ∧ H5 C = some (.lst (((List.range i).filter fun h => ms[h]? == some true).map fun r : Nat => V.int r))) (fun C hC => ⟨Same.new (Same.refl _) hC, upd_same⟩) (fun C i H5 hC hi hP => ?_) (fun C H5 hC hP => ?_)
              · obtain ⟨e5, gC⟩ := hP
                obtain ⟨x, hx⟩ : ∃ x, ms[i]? = some x := ⟨_, List.getElem?_eq_getElem (by omega)⟩
                walk_at "rd"
                refine ⟨rfl, ?_⟩
                walk_at "rd"
                refine r_ixL (sqL (e5 _ _ gM)) (atI_nat (bl_at hx)) ?_
                refine ⟨x, rfl, ?_⟩
                refine r_iteB (fun h1 => ?_) (fun h1 => ?_)
                · walk_at "rd"
                  refine ⟨_, gC, Nat.lt_of_le_of_lt (show _ ≤ 1000 by rw [List.length_map]; have := List.length_filter_le (fun h => ms[h]? == some true) (List.range i); rw [List.length_range] at this; omega) (by decide), Same.mut e5 hC, ?_⟩
                  rw [upd_same, List.range_succ, List.filter_append, List.map_append]
                  have e1 : [i].filter (fun h => ms[h]? == some true) = [i] := by rw [List.filter_cons_of_pos (by rw [hx, h1]; rfl)]; rfl
                  rw [e1]
                  rfl
                · refine ⟨e5, ?_⟩
                  rw [gC, List.range_succ, List.filter_append]
                  have e1 : [i].filter (fun h => ms[h]? == some true) = [] := by rw [List.filter_cons_of_neg (by rw [hx, h1]; decide)]; rfl
                  rw [e1, List.append_nil]
              · obtain ⟨e5, gC⟩ := hP
                have eN1 : ((N : Int) + 1).toNat = N + 1 := by omega
                rw [eN1] at gC
                obtain ⟨rs', hrs'⟩ : ∃ rs', rs' = (List.range (N + 1)).filter fun h => ms[h]? == some true := ⟨_, rfl⟩
                rw [← hrs'] at gC
                have mem' : ∀ h, h ∈ rs' ↔ h ≤ N ∧ ∃ r ∈ rs, Let (spc z) n b r h := fun h => by
                  rw [hrs', List.mem_filter, List.mem_range, beq_iff_eq]
                  constructor
                  · rintro ⟨h1, h2⟩
                    exact ⟨by omega, (hms h (by omega)).mp h2⟩
                  · rintro ⟨h1, h2⟩
                    exact ⟨by omega, (hms h h1).mpr h2⟩
                obtain ⟨g1, hg1⟩ : ∃ g1, g1 = it (spc z) n b (t + 1) := ⟨_, rfl⟩
                have isg : IsG (spc z) n b (it (spc z) n b t) g1 := by rw [hg1]; exact gr_is _
                have lg := isg_let n0 isg
                have gN : g1 ≤ N := by have := lg.2.1; omega
                have gm : g1 ∈ rs' := (mem' g1).mpr ⟨gN, _, hmem, lg⟩
                have gmax : ∀ r ∈ rs', r ≤ g1 := fun r hr => by
                  obtain ⟨_, r', h1, h2⟩ := (mem' r).mp hr
                  exact isg_max n0 isg (hle r' h1) h2
                obtain ⟨l, hl⟩ : ∃ l, rs' = l ++ [g1] := by
                  have pw : rs'.Pairwise (· < ·) := by rw [hrs']; exact List.Pairwise.filter _ List.pairwise_lt_range
                  have ne : rs' ≠ [] := fun z => by rw [z] at gm; cases gm
                  refine ⟨rs'.dropLast, ?_⟩
                  have h1 := (List.dropLast_concat_getLast ne).symm
                  rw [h1] at pw gm
                  have h2 := gmax _ (List.getLast_mem ne)
                  rcases List.mem_append.mp gm with g | g
                  · have := (List.pairwise_append.mp pw).2.2 _ g _ (List.mem_singleton.mpr rfl)
                    omega
                  · rw [List.mem_singleton.mp g]
                    exact h1
                have gC' : H5 C = some (.lst ((l.map fun r : Nat => V.int r) ++ [V.int (g1 : Nat)])) := by rw [gC, hl, List.map_append]; rfl
                have gF5 := e5 _ _ (e4 _ _ gF2)
                have gD5 := e5 _ _ (e4 _ _ gD2)
                have neCF : C ≠ F := fun z => by
                  have g := e4 _ _ gF2
                  rw [← z, hC] at g
                  cases g
                walk_at "rd"
                refine r_tyL (sqL gF5) ?_
                walk_at "rd"
                refine r_ixL (sqL gC') (atI_last _ _) ?_
                walk_at "rd"
                refine r_app gF5 (by rw [List.length_map, List.length_range]; exact Nat.lt_of_le_of_lt (show t ≤ 1000 by omega) (by decide)) ?_
                have e05 : Ex H H5 := ((e.trans e2).trans e4).trans e5
                refine ⟨_, _, _, _, _, C, rs', rfl, Same.mut e05 hFH, by rw [upd_ne neDF]; exact gD5, by rw [upd_ne neCF]; exact gC, ?_, neCF, ((e.trans e2).trans e4).free hC, ?_, fun r hr => hg1 ▸ gmax r hr, hg1 ▸ gm, fun i hi => ?_⟩
                · rw [upd_same, List.range_succ, List.map_append, hg1]
                  rfl
                · rw [hrs']
                  have := List.length_filter_le (fun h => ms[h]? == some true) (List.range (N + 1))
                  rw [List.length_range] at this
                  exact this
                · rcases Nat.lt_or_ge i t with g | g
                  · exact hlt i g
                  · rw [show i = t by omega]
                    exact hno
      · obtain ⟨y5, y6, y7, y10, y11, R, rs, rfl, e, gD, gR, gF, nRF, hR, rl, hle, hmem, hlt⟩ := hP
        exfalso
        have h1 := it_ge (sp := spc z) (bw := b) n0 (N + 1)
        have e1 : ((N : Int) + 1).toNat = N + 1 := by omega
        rw [e1] at hlt
        have h2 := it_le (sp := spc z) (bw := b) n0 hlt
        omega
end
end K61

namespace K61
open PySem PySem.Spec PyProof.Rows L2 Dk Q61
/-- one step of a reading -/
local macro_rules | `(tactic| walk_at "rd1") => `(tactic| first
  | ((with_reducible refine r_var (v := ?rv) ?rh ?_); (case rh => rfl))
  | with_reducible refine r_c ?_
  | with_reducible refine r_seq ?_
  | with_reducible refine r_asg ?_
  | with_reducible refine r_par ?_
  | with_reducible refine r_gname ?_
  | with_reducible refine r_op ?_
  | with_reducible refine r_forLo ?_
  | with_reducible refine r_forTo ?_
  | with_reducible refine r_forSo ?_
  | with_reducible refine r_forRo ?_
  | with_reducible refine r_forRvo ?_
  | with_reducible refine r_forZo ?_
  | with_reducible refine r_revS ?_
  | with_reducible refine r_lcRo ?_
  | with_reducible refine r_lcLo ?_
  | with_reducible refine r_yes ?_
  | with_reducible refine r_callK0 ?_
  | with_reducible refine r_break ?_
  | with_reducible refine r_forR2o ?_
  | with_reducible refine r_forEo ?_
  | with_reducible refine r_forESo ?_
  | with_reducible refine r_xfo ?_
  | with_reducible refine r_noP ?_
  | with_reducible refine r_part ?_
  | with_reducible refine r_pI ?_
  | with_reducible refine r_gcons ?_
  | with_reducible refine r_gnil ?_
  | with_reducible refine r_mkO ?_
  | with_reducible refine r_un ?_
  | with_reducible refine r_addI ?_
  | with_reducible refine r_I0 ?_
  | with_reducible refine r_U ?_
  | with_reducible refine r_cons ?_
  | with_reducible refine r_nil ?_
  | with_reducible refine r_CB ?_
  | with_reducible refine r_call ?_
  | with_reducible refine r_callS ?_
  | with_reducible refine r_int ?_
  | with_reducible refine r_max ?_
  | with_reducible refine r_min ?_
  | with_reducible refine r_test ?_
  | with_reducible refine r_B ?_
  | with_reducible refine r_blv ?_
  | with_reducible refine r_and ?_
  | with_reducible refine r_or ?_
  | with_reducible refine r_not ?_
  | with_reducible refine r_andV ?_
  | with_reducible refine r_orV ?_
  | with_reducible refine r_notV ?_
  | with_reducible refine r_ifE ?_
  | with_reducible refine r_ifS ?_
  | with_reducible refine r_ret ?_
  | with_reducible refine r_retN ?_
  | with_reducible refine r_drop ?_
  | with_reducible refine r_next ?_
  | with_reducible refine r_sl ?_
  | with_reducible refine r_gsub ?_
  | with_reducible refine r_bm ?_
  | with_reducible refine r_tup ?_
  | with_reducible refine r_lst ?_
  | with_reducible refine r_isN ?_
  | with_reducible refine r_notN ?_
  | with_reducible refine r_chain ?_
  | with_reducible refine r_callK ?_
  | with_reducible refine r_isB ?_
  | with_reducible refine r_lcEio ?_
  | with_reducible refine r_forEi ?_
  | with_reducible refine r_lcTo ?_
  | with_reducible refine r_m1 ?_
  | with_reducible refine r_dget ?_
  | with_reducible refine r_din ?_
  | with_reducible refine r_dnotin ?_
  | with_reducible refine r_starC ?_
  | with_reducible refine r_callKS ?_
  | with_reducible refine r_itt ?_
  | with_reducible refine r_iff ?_
  | with_reducible refine r_ittN ?_
  | with_reducible refine r_iffN ?_
  | ((with_reducible refine r_ittD ?rh ?_); (case rh => rfl))
  | ((with_reducible refine r_iffD ?rh ?_); (case rh => rfl))
  | ((with_reducible refine r_modP ?rh ?_); (case rh => decide))
  | ((with_reducible refine r_eq ?rh ?_); (case rh => rfl))
  | ((with_reducible refine r_eqP ?rh ?_); (case rh => rfl))
  | ((with_reducible refine r_ne ?rh ?_); (case rh => rfl)))
local macro_rules | `(tactic| walk_at "rd") => `(tactic| repeat walk_at "rd1")
local macro_rules | `(tactic| walk_at "isi") => `(tactic| first | refine r_isi (b := true) (by assumption) (by decide +kernel) ?_ | refine r_isi (b := false) (by assumption) (by decide +kernel) ?_)
local macro_rules | `(tactic| walk_at "rs1") => `(tactic| first
  | with_reducible refine r_seq ?_
  | with_reducible refine r_asg ?_
  | with_reducible refine r_gname ?_
  | with_reducible refine r_ret ?_)
local macro_rules | `(tactic| walk_at "rs") => `(tactic| repeat walk_at "rs1")

def sp_law (K : PySem.W.Frag) : Sp := fun vs H Q _ => ∃ (a : Addr) (ns : List Int), vs = [.ref a] ∧ SqL K H a (ns.map V.int) ∧ ns.length ≤ 63 ∧ ∀ H', Q (.bl true) H'
def Sm (K : PySem.W.Frag) (H : Hp) : Nat → V → V → Prop
  | 0 => fun _ _ => False
  | d + 1 => fun v u => (∃ i : Int, v = .int i ∧ u = .int i) ∨ ∃ p q xs ys, v = .ref p ∧ u = .ref q ∧ Tu K H p xs ∧ Tu K H q ys ∧ xs.length ≤ 1000 ∧ P2 (Sm K H d) xs ys
theorem Sm.up {K : PySem.W.Frag} {H H' : Hp} (e : Ex H H') : ∀ {d : Nat} {v u : V}, Sm K H d v u → Sm K H' d v u
  | 0, _, _, h => h.elim
  | d + 1, v, u, h => by
    rcases h with h | ⟨p, q, xs, ys, h1, h2, h3, h4, h5, h6⟩
    · exact .inl h
    · exact .inr ⟨p, q, xs, ys, h1, h2, h3.up e, h4.up e, h5, h6.imp fun _ _ z => Sm.up e z⟩
def spSame (K : PySem.W.Frag) (d : Nat) : Sp := fun vs H Q _ => ∃ v u, vs = [v, u] ∧ Sm K H d v u ∧ ∀ H', Ex H H' → Q (.bl true) H'
def tyT {K : PySem.W.Frag} {H : Hp} {p : Addr} {xs : List V} (h : Tu K H p xs) : TyX K H (.ref p) (.type "tuple") := by
  rcases h with h | ⟨o, its, n, h1, h2, _⟩
  · exact .base (.tup h)
  · exact .kTuple h1 h2
theorem sm_sg {K : PySem.W.Frag} {H : Hp} {v u : V} {x : Tl.Sg} (h : SgV K H v x) (g : SgV K H u x) {d : Nat} : Sm K H (d + 2) v u := by
  obtain ⟨p, rfl, hp⟩ := h
  obtain ⟨q, rfl, hq⟩ := g
  exact .inr ⟨p, q, _, _, rfl, rfl, hp.tu, hq.tu, nsz, .cons (.inl ⟨_, rfl, rfl⟩) (.cons (.inl ⟨_, rfl, rfl⟩) .nil)⟩
theorem sm_tv {K : PySem.W.Frag} {H : Hp} {v u : V} {l : List Tl.Sg} (h : TupV K (SgV K) H v l) (g : TupV K (SgV K) H u l) (hl : l.length ≤ 1000) {d : Nat} : Sm K H (d + 3) v u := by
  obtain ⟨p, xs, rfl, hp, hx⟩ := h
  obtain ⟨q, ys, rfl, hq, hy⟩ := g
  exact .inr ⟨p, q, _, _, rfl, rfl, hp, hq, by rw [hx.len]; exact hl, hx.join (S := SgV K H) (fun a b c h1 h2 => sm_sg h1 h2) hy⟩
section
variable {P : Program} {w : World} {K : PySem.W.Frag} {mg : Str → Option Value} {base : Heap}
theorem ok_same (T : Txt K mg) : ∀ d, FnOk P w K mg base CX0 d T.a_law_same T.d_law_same ["_law_one", "_law_due_here"] (spSame K d) := by
  intro d
  induction d with
  | zero => exact ⟨fun vs H Q E h => by
      obtain ⟨_, _, _, h, _⟩ := h
      exact h.elim, fun A outer s H args us vs Q E _ _ _ _ h => by
      obtain ⟨_, _, _, h, _⟩ := h
      exact h.elim⟩
  | succ d ih =>
    have ok_law_same : Txt K mg → FnOk P w K mg base CX0 d T.a_law_same T.d_law_same ["_law_one", "_law_due_here"] (spSame K d) := fun _ => ih
    refine T.F_law_same.ok sc_law_same (fun vs H Q E h => ?_) (fun cdv A outer s H vs Q E hr h => ?_)
    · obtain ⟨v, u, rfl, _⟩ := h
      rfl
    · obtain ⟨v, u, rfl, h, q⟩ := h
      have hr1 := hr
      refine ⟨_, (pss_cons (ps_if (pt_cmpR op_isU (pv 1) pe_non (nomark _)) (pss_one (ps_ret (pe_cmpR op_isU (pv 0) pe_non (nomark _)))) pss_nil)
        (pss_cons (ps_if (pt_cmpR op_isB (pv 1) pe_bl (nomark _)) (pss_one (ps_ret (pe_cmpR op_isB (pv 0) pe_bl (nomark _)))) pss_nil)
        (pss_cons (ps_if (pt_cmpR op_isB (pv 1) pe_bl (nomark _)) (pss_one (ps_ret (pe_cmpR op_isB (pv 0) pe_bl (nomark _)))) pss_nil)
        (pss_cons (ps_if (pt_val (pe_callB call_isi (by rfl) T.n_isinstance (by decide +kernel) (pa_cons (pv 1) (pa_cons (pe_bltn (v := .ty "int") (by rfl) T.n_int (by decide +kernel) rfl) pa_nil)))) (pss_one (ps_ret (pe_and (pe_callB call_isi (by rfl) T.n_isinstance (by decide +kernel) (pa_cons (pv 0) (pa_cons (pe_bltn (v := .ty "int") (by rfl) T.n_int (by decide +kernel) rfl) pa_nil))) (pe_and (pe_not (pe_callB call_isi (by rfl) T.n_isinstance (by decide +kernel) (pa_cons (pv 0) (pa_cons (pe_bltn (v := .ty "bool") (by rfl) T.n_bool (by decide +kernel) rfl) pa_nil)))) (pe_one (pe_cmpR (op_eqU hr.units) (pv 0) (pv 1) (nomark _))))))) pss_nil)
        (pss_cons (ps_if (pt_val (pe_callB call_isi (by rfl) T.n_isinstance (by decide +kernel) (pa_cons (pv 1) (pa_cons (pe_bltn (v := .ty "str") (by rfl) T.n_str (by decide +kernel) rfl) pa_nil)))) (pss_one (ps_ret (pe_and (pe_callB call_isi (by rfl) T.n_isinstance (by decide +kernel) (pa_cons (pv 0) (pa_cons (pe_bltn (v := .ty "str") (by rfl) T.n_str (by decide +kernel) rfl) pa_nil))) (pe_one (pe_cmpR (op_eqU hr.units) (pv 0) (pv 1) (nomark _)))))) pss_nil)
        (pss_cons (ps_if (pt_val (pe_callB call_isi (by rfl) T.n_isinstance (by decide +kernel) (pa_cons (pv 1) (pa_cons (pe_bltn (v := .ty "list") (by rfl) T.n_list (by decide +kernel) rfl) pa_nil)))) (pss_one (ps_if (pt_not (pt_val (pe_callB call_isi (by rfl) T.n_isinstance (by decide +kernel) (pa_cons (pv 0) (pa_cons (pe_bltn (v := .ty "list") (by rfl) T.n_list (by decide +kernel) rfl) pa_nil))))) (pss_one (ps_ret pe_bl)) pss_nil)) (pss_one (ps_if (pt_not (pt_val (pe_callB call_isi (by rfl) T.n_isinstance (by decide +kernel) (pa_cons (pv 0) (pa_cons (pe_bltn (v := .ty "tuple") (by rfl) T.n_tuple (by decide +kernel) rfl) pa_nil))))) (pss_one (ps_ret pe_bl)) pss_nil)))
        (pss_cons (ps_if (pt_cmpR (op_neU hr.units) (pe_callB call_lenU (by rfl) T.n_len (by decide +kernel) (pa_cons (pv 0) pa_nil)) (pe_callB call_lenU (by rfl) T.n_len (by decide +kernel) (pa_cons (pv 1) pa_nil)) (nomark _)) (pss_one (ps_ret pe_bl)) pss_nil)
        (pss_cons (ps_for PassesOwn.never rfl (pi_range1 (by rfl) T.n_range (pa_cons (pe_callB call_lenU (by rfl) T.n_len (by decide +kernel) (pa_cons (pv 1) pa_nil)) pa_nil)) (pg_name (i := 2) sc_law_same.nd rfl (Or.inl rfl)) (pss_one (ps_if (pt_not (pt_val (pe_call (ok_law_same T) hr1 (by rfl) T.g_law_same T.F_law_same.kp T.b_law_same .nil pass0 (pa_cons (pe_ix ix_seq (pv 0) (pv 2) (fun _ _ => rfl)) (pa_cons (pe_ix ix_seq (pv 1) (pv 2) (fun _ _ => rfl)) pa_nil))))) (pss_one (ps_ret pe_bl)) pss_nil)))
        (pss_one (ps_ret pe_bl)))))))))), ?_⟩
      rcases h with ⟨i, rfl, rfl⟩ | ⟨p, p2, xs, ys, rfl, rfl, hp, hp2, hl, hP⟩
      · have ty : TyX K H (.int i) (.type "int") := .base (.int i)
        walk_at "rd"
        iterate 3 (walk_at "isi"; walk_at "rd")
        rw [show decide (V.int i = V.int i) = true from decide_eq_true rfl]
        exact q _ (Same.refl H)
      · have ty : TyX K H (.ref p) (.type "tuple") := tyT hp
        have ty2 : TyX K H (.ref p2) (.type "tuple") := tyT hp2
        walk_at "rd"
        iterate 4 (walk_at "isi"; walk_at "rd")
        refine r_lenT hp.sq ?_
        walk_at "rd"
        refine r_lenT hp2.sq ?_
        walk_at "rd"
        have el : xs.length = ys.length := hP.len
        refine r_iteN (fun hn => absurd (by rw [el]) hn) (fun _ => ?_)
        walk_at "rd"
        refine r_lenT hp2.sq ?_
        walk_at "rd"
        refine l_R (by omega) (by omega) (fun i σ H' => ∃ z, σ = [some (.ref p), some (.ref p2), z] ∧ Ex H H') ⟨none, rfl, Same.refl H⟩ (fun i σ H' hi hW => ?_) (fun σ H' hW => ?_)
        · obtain ⟨z, rfl, e⟩ := hW
          obtain ⟨x, hx⟩ : ∃ x, xs[i]? = some x := ⟨_, List.getElem?_eq_getElem (by omega)⟩
          obtain ⟨y, hy, hxy⟩ := hP.get hx
          walk_at "rd"
          refine r_ixT (hp.up e).sq (atI_nat hx) ?_
          walk_at "rd"
          refine r_ixT (hp2.up e).sq (atI_nat hy) ?_
          walk_at "rd"
          refine ⟨x, y, rfl, hxy.up e, fun H2 e2 => ?_⟩
          walk_at "rd"
          exact ⟨_, rfl, e.trans e2⟩
        · obtain ⟨z, rfl, e⟩ := hW
          walk_at "rd"
          exact q _ e
theorem ok_law_same (T : Txt K mg) : FnOk P w K mg base CX0 4 T.a_law_same T.d_law_same ["_law_one", "_law_due_here"] (spSame K 4) := ok_same T 4
def spEnd : Sp := fun vs H Q _ => ∃ (z : Str) (s n : Nat) (b : Bool), vs = [.str z, .int (s : Nat), .int (n : Nat), .bl b] ∧ 1 ≤ n ∧ s + n ≤ z.length ∧ Q (.int (gr (spc z) n b s : Nat)) H
theorem ok_piece_end (T : Txt K mg) : FnOk P w K mg base CX0 1 T.a_piece_end T.d_piece_end ["row", "start", "width", "wordwise"] spEnd := by
  refine T.F_piece_end.ok sc_piece_end (fun vs H Q E h => ?_) (fun cdv A outer s H vs Q E hr h => ?_)
  · obtain ⟨z, s, n, b, rfl, _⟩ := h
    rfl
  · obtain ⟨z, s, n, b, rfl, n0, hs, q⟩ := h
    refine ⟨_, (pss_cons (ps_if (pt_val (pv 3)) (pss_cons (ps_set (i := 4) sc_piece_end.nd rfl (Or.inl rfl) (pe_bm PySem.F.plainAttrs_str PySem.F.slot_str_rfind PySem.F.type_str_rfind mt_rfind4 (pv 0) (pa_cons pe_str (pa_cons (pv 1) (pa_cons (pe_op op_addU (pv 1) (pv 2)) pa_nil)))))
        (pss_one (ps_if (pt_cmpR op_ge (pv 4) pe_int (nomark _)) (pss_one (ps_ret (pe_op op_addU (pv 4) pe_int))) pss_nil))) pss_nil)
        (pss_one (ps_ret (pe_op op_addU (pv 1) (pv 2))))), ?_⟩
    cases b with
    | false =>
      walk_at "rd"
      have e : gr (spc z) n false s = s + n := gr_of n0 (.inl ⟨rfl, rfl⟩)
      rw [e] at q
      exact q
    | true =>
      walk_at "rd"
      refine r_tyS ?_
      walk_at "rd"
      rw [blank]
      refine ⟨z, _, (s : Nat), ((s + n : Nat) : Int), rfl, rfl, ?_⟩
      rcases rfind1 z 32 s (s + n) hs with ⟨h1, h2⟩ | ⟨j, h1, h2, h3, h4, h5⟩
      · rw [h1]
        walk_at "rd"
        have e : gr (spc z) n true s = s + n := gr_of n0 (.inr ⟨rfl, .inr ⟨fun i g1 g2 => decide_eq_false (h2 i g1 g2), rfl⟩⟩)
        rw [e] at q
        exact q
      · rw [h1]
        walk_at "rd"
        have e : gr (spc z) n true s = j + 1 := gr_of n0 (.inr ⟨rfl, .inl ⟨j, h2, h3, decide_eq_true h4, fun i g1 g2 => decide_eq_false (h5 i g1 g2), rfl⟩⟩)
        rw [e] at q
        exact q
theorem ok_laid (T : Txt K mg) : FnOk P w K mg base CX0 2 T.a_laid T.d_laid ["row", "width", "wordwise"] (spCut K) := by
  refine T.F_laid.ok sc_laid (fun vs H Q E h => ?_) (fun cdv A outer s H vs Q E hr h => ?_)
  · obtain ⟨z, n, b, rfl, _⟩ := h
    rfl
  · obtain ⟨z, n, b, rfl, hz, n0, n1, q⟩ := h
    refine ⟨_, (pss_cons (ps_set (i := 3) sc_laid.nd rfl (Or.inl rfl) (pe_lst pa_nil))
        (pss_cons (ps_set (i := 4) sc_laid.nd rfl (Or.inl rfl) pe_int)
        (pss_cons (ps_while PassesOwn.never (pt_cmpR op_gt (pe_op op_sub (pe_callB call_lenU (by rfl) T.n_len (by decide +kernel) (pa_cons (pv 0) pa_nil)) (pv 4)) (pv 1) (nomark _)) (pss_cons (ps_set (i := 5) sc_laid.nd rfl (Or.inl rfl) (pe_call (ok_piece_end T) hr (by rfl) T.g_piece_end T.F_piece_end.kp T.b_piece_end .nil pass0 (pa_cons (pv 0) (pa_cons (pv 4) (pa_cons (pv 1) (pa_cons (pv 2) pa_nil))))))
        (pss_cons (ps_expr (pe_bm PySem.F.plainAttrs_list PySem.F.slot_list_append PySem.F.type_list_append mt_append (pv 3) (pa_cons (pe_tup (pa_cons (pv 4) (pa_cons (pv 5) pa_nil))) pa_nil)))
        (pss_one (ps_set (i := 4) sc_laid.nd rfl (Or.inl rfl) (pv 5))))))
        (pss_cons (ps_expr (pe_bm PySem.F.plainAttrs_list PySem.F.slot_list_append PySem.F.type_list_append mt_append (pv 3) (pa_cons (pe_tup (pa_cons (pv 4) (pa_cons (pe_callB call_lenU (by rfl) T.n_len (by decide +kernel) (pa_cons (pv 0) pa_nil)) pa_nil))) pa_nil)))
        (pss_one (ps_ret (pe_callTy call_tupU (by rfl) T.n_tuple (by decide +kernel) (pa_cons (pv 3) pa_nil)))))))), ?_⟩
    have zl : z.length ≤ sizeLine := by rw [sizeLine_eq]; omega
    obtain ⟨N, hN⟩ : ∃ N, N = z.length := ⟨_, rfl⟩
    walk_at "rd"
    refine r_small nsz fun L hL => ?_
    walk_at "rd"
    refine ⟨fun m σ H' => ∃ (t : Nat) (y5 : Option V) (ps : List V), σ = [some (.str z), some (.int (n : Nat)), some (.bl b), some (.ref L), some (.int (it (spc z) n b t : Nat)), y5] ∧ Ex H H' ∧ H' L = some (.lst ps) ∧ SgL K H' ps ((List.range t).map fun k => (it (spc z) n b k, it (spc z) n b (k + 1))) ∧ (∀ i, i < t → it (spc z) n b i + n < N) ∧ m = N - it (spc z) n b t, ⟨_, 0, none, [], rfl, Same.new (Same.refl H) hL, upd_same, .nil, fun i h => absurd h (by omega), rfl⟩, fun m σ H' hP => ?_⟩
    obtain ⟨t, y5, ps, rfl, e, gL, hps, hlt, rfl⟩ := hP
    have pl : ps.length = t := by rw [hps.len, List.length_map, List.length_range]
    have tN := it_ge (sp := spc z) (bw := b) n0 t
    have hN' := it_le n0 hlt
    walk_at "rd"
    refine r_lenS zl ?_
    rw [← hN]
    walk_at "rd"
    refine r_ite (fun h1 => ?_) (fun h1 => ?_)
    · have hno : it (spc z) n b t + n < N := by omega
      obtain ⟨g1, hg1⟩ : ∃ g1, g1 = gr (spc z) n b (it (spc z) n b t) := ⟨_, rfl⟩
      have g1t : g1 = it (spc z) n b (t + 1) := hg1
      have glt := gr_lt (sp := spc z) (bw := b) n0 (it (spc z) n b t)
      refine ⟨fun σ' H2 => ∃ m', m' < N - it (spc z) n b t ∧ ∃ (t : Nat) (y5 : Option V) (ps : List V), σ' = [some (.str z), some (.int (n : Nat)), some (.bl b), some (.ref L), some (.int (it (spc z) n b t : Nat)), y5] ∧ Ex H H2 ∧ H2 L = some (.lst ps) ∧ SgL K H2 ps ((List.range t).map fun k => (it (spc z) n b k, it (spc z) n b (k + 1))) ∧ (∀ i, i < t → it (spc z) n b i + n < N) ∧ m' = N - it (spc z) n b t, fun σ' H2 h => h, ?_⟩
      walk_at "rd"
      refine ⟨z, _, n, b, rfl, n0, by omega, ?_⟩
      rw [← hg1]
      walk_at "rd"
      refine r_tyL (sqL gL) ?_
      walk_at "rd"
      refine r_small nsz fun p hp => ?_
      obtain ⟨H5, k5, e5, h5⟩ := new1 hp (.tup [V.int (it (spc z) n b t : Nat), V.int (g1 : Nat)])
      rw [← k5]
      have hS : SgV K H5 (.ref p) (it (spc z) n b t, g1) := ⟨p, rfl, .inl h5⟩
      walk_at "rd"
      refine r_app (e5 _ _ gL) (Nat.lt_of_le_of_lt (show ps.length ≤ 1000 by omega) (by decide)) ?_
      walk_at "rd"
      have eC : Tk H5 (upd H5 L (.lst (ps ++ [.ref p]))) := .put (e5 _ _ gL)
      refine ⟨N - g1, by omega, t + 1, _, _, by rw [← g1t]; rfl, Same.mut (e.trans e5) hL, upd_same, ?_, fun i hi => ?_, by rw [← g1t]⟩
      · rw [List.range_succ, List.map_append]
        have : SgL K (upd H5 L (.lst (ps ++ [.ref p]))) (ps ++ [.ref p]) ((List.range t).map (fun k => (it (spc z) n b k, it (spc z) n b (k + 1))) ++ [(it (spc z) n b t, g1)]) := (p2_imm eC (p2_imm (.ex e5) hps)).snoc (imm eC hS)
        rw [g1t] at this
        exact this
      · rcases Nat.lt_or_ge i t with g | g
        · exact hlt i g
        · rw [show i = t by omega]
          exact hno
    · have hT : IsT (spc z) n b N t := ⟨hlt, by omega⟩
      walk_at "rd"
      refine r_tyL (sqL gL) ?_
      walk_at "rd"
      refine r_lenS zl ?_
      rw [← hN]
      walk_at "rd"
      refine r_small nsz fun p hp => ?_
      obtain ⟨H5, k5, e5, h5⟩ := new1 hp (.tup [V.int (it (spc z) n b t : Nat), V.int (N : Nat)])
      rw [← k5]
      have hS : SgV K H5 (.ref p) (it (spc z) n b t, N) := ⟨p, rfl, .inl h5⟩
      walk_at "rd"
      refine r_app (e5 _ _ gL) (Nat.lt_of_le_of_lt (show ps.length ≤ 1000 by omega) (by decide)) ?_
      walk_at "rd"
      have eC : Tk H5 (upd H5 L (.lst (ps ++ [.ref p]))) := .put (e5 _ _ gL)
      have hfin : SgL K (upd H5 L (.lst (ps ++ [.ref p]))) (ps ++ [.ref p]) (pcl (spc z) n b N t) := by
        have ep : pcl (spc z) n b N t = (List.range t).map (fun k => (it (spc z) n b k, it (spc z) n b (k + 1))) ++ [(it (spc z) n b t, N)] := by
          unfold pcl
          rw [List.range_succ, List.map_append]
          congr 1
          · refine List.map_congr_left fun k hk => ?_
            rw [if_pos (List.mem_range.mp hk)]
          · show [(_, if t < t then _ else _)] = _
            rw [if_neg (Nat.lt_irrefl _)]
        rw [ep]
        exact (p2_imm eC (p2_imm (.ex e5) hps)).snoc (imm eC hS)
      refine r_tupLV upd_same hfin fun p6 H6 hp6 e6 hT' => ?_
      exact q _ t _ ((Same.mut (e.trans e5) hL).trans e6) (hN ▸ hT) (hN ▸ hT')
theorem pcl_len {sp : Nat → Bool} {n : Nat} {b : Bool} {N t : Nat} : (pcl sp n b N t).length = t + 1 := by
  unfold pcl
  rw [List.length_map, List.length_range]
theorem pcl_nil {n : Nat} {b : Bool} : IsT (spc "") n b 0 0 ∧ pcl (spc "") n b 0 0 = [(0, 0)] := ⟨⟨fun i h => absurd h (by omega), Nat.zero_le _⟩, rfl⟩
theorem ok_law (T : Txt K mg) : FnOk P w K mg base CX0 5 T.a_law T.d_law ["_law_script"] (sp_law K) := by
  refine T.F_law.ok sc_law (fun vs H Q E h => ?_) (fun cdv A outer s H vs Q E hr h => ?_)
  · obtain ⟨a, ns, rfl, _⟩ := h
    rfl
  · obtain ⟨a0, ns, rfl, hS, hns, q⟩ := h
    refine ⟨_, (pss_cons (ps_set (i := 1) sc_law.nd rfl (Or.inl rfl) (pe_call (ok_law_pool T) (hr.mono (by decide)) (by rfl) T.g_law_pool T.F_law_pool.kp T.b_law_pool .nil pass0 (pa_cons (pv 0) pa_nil)))
        (pss_cons (ps_for PassesOwn.never rfl (pi_range1 (by rfl) T.n_range (pa_cons pe_int pa_nil)) (pg_name (i := 2) sc_law.nd rfl (Or.inl rfl)) (pss_cons (ps_set (i := 3) sc_law.nd rfl (Or.inl rfl) (pe_op op_addU pe_int (pe_call (ok_law_next T) (hr.mono (by decide)) (by rfl) T.g_law_next T.F_law_next.kp T.b_law_next .nil pass0 (pa_cons (pv 1) (pa_cons (pe_ix ix_seq (pe_lst (pa_cons pe_int (pa_cons pe_int (pa_cons pe_int (pa_cons pe_int pa_nil))))) (pe_call (ok_law_next T) (hr.mono (by decide)) (by rfl) T.g_law_next T.F_law_next.kp T.b_law_next .nil pass0 (pa_cons (pv 1) (pa_cons pe_int pa_nil))) (fun _ _ => rfl)) pa_nil)))))
        (pss_cons (ps_set (i := 4) sc_law.nd rfl (Or.inl rfl) (pe_call (ok_law_band T) (hr.mono (by decide)) (by rfl) T.g_law_band T.F_law_band.kp T.b_law_band .nil pass0 (pa_cons (pv 1) (pa_cons (pv 3) pa_nil))))
        (pss_cons (ps_set (i := 5) sc_law.nd rfl (Or.inl rfl) (pe_call (ok_law_due T) (hr.mono (by decide)) (by rfl) T.g_law_due T.F_law_due.kp T.b_law_due .nil pass0 (pa_cons (pv 4) (pa_cons (pv 3) (pa_cons pe_bl pa_nil)))))
        (pss_cons (ps_if (PW.pt (pw_or (pt_not (pt_val (pe_call (ok_law_same T) hr (by rfl) T.g_law_same T.F_law_same.kp T.b_law_same .nil pass0 (pa_cons (pe_callK0 (ok_laid T) (hr.mono (by decide)) (by rfl) T.g_laid T.F_laid.kp T.kb_laid_1 pass0 (pk_cons (pv 3) (pk_cons (pv 4) pk_nil))) (pa_cons (pv 5) pa_nil))))) (pw_or1 (pt_not (pt_val (pe_call (ok_law_same T) hr (by rfl) T.g_law_same T.F_law_same.kp T.b_law_same .nil pass0 (pa_cons (pe_callK (ok_laid T) (hr.mono (by decide)) (by rfl) T.g_laid T.F_laid.kp T.kb_laid_0 pass0 (pa_cons (pv 4) (pa_cons (pv 3) pa_nil)) (pk_cons pe_bl pk_nil)) (pa_cons (pv 5) pa_nil)))))))) (pss_one (ps_ret pe_bl)) pss_nil)
        (pss_one (ps_if (pt_not (pt_val (pe_call (ok_law_same T) hr (by rfl) T.g_law_same T.F_law_same.kp T.b_law_same .nil pass0 (pa_cons (pe_callK (ok_laid T) (hr.mono (by decide)) (by rfl) T.g_laid T.F_laid.kp T.kb_laid_0 pass0 (pa_cons (pv 4) (pa_cons (pv 3) pa_nil)) (pk_cons pe_bl pk_nil)) (pa_cons (pe_call (ok_law_due T) (hr.mono (by decide)) (by rfl) T.g_law_due T.F_law_due.kp T.b_law_due .nil pass0 (pa_cons (pv 4) (pa_cons (pv 3) (pa_cons pe_bl pa_nil)))) pa_nil))))) (pss_one (ps_ret pe_bl)) pss_nil)))))))
        (pss_one (ps_ret (pe_call (ok_law_same T) hr (by rfl) T.g_law_same T.F_law_same.kp T.b_law_same .nil pass0 (pa_cons (pe_callK (ok_laid T) (hr.mono (by decide)) (by rfl) T.g_laid T.F_laid.kp T.kb_laid_0 pass0 (pa_cons pe_str (pa_cons (pe_op op_addU pe_int (pe_call (ok_law_next T) (hr.mono (by decide)) (by rfl) T.g_law_next T.F_law_next.kp T.b_law_next .nil pass0 (pa_cons (pv 1) (pa_cons pe_int pa_nil)))) pa_nil)) (pk_cons (pe_cmpR (op_eqU hr.units) (pe_call (ok_law_next T) (hr.mono (by decide)) (by rfl) T.g_law_next T.F_law_next.kp T.b_law_next .nil pass0 (pa_cons (pv 1) (pa_cons pe_int pa_nil))) pe_int (nomark _)) pk_nil)) (pa_cons (pe_tup (pa_cons (pe_tup (pa_cons pe_int (pa_cons pe_int pa_nil))) pa_nil)) pa_nil))))))), ?_⟩
    walk_at "rd"
    refine ⟨a0, ns, rfl, hS, hns, fun p d H1 e1 hp hd st => ?_⟩
    walk_at "rd"
    refine l_R (by decide) (by decide) (fun i σ H' => ∃ y2 y3 y4 y5, σ = [some (.ref a0), some (.ref p), y2, y3, y4, y5] ∧ (pool p d).B H') ⟨none, none, none, none, rfl, st⟩ (fun i σ H' hi hP => ?_) (fun σ H' hP => ?_)
    · obtain ⟨y2, y3, y4, y5, rfl, st⟩ := hP
      walk_at "rd"
      refine r_small nsz fun L hL => ?_
      obtain ⟨H2, k2, e2, h2⟩ := new1 hL (.lst [V.int 5, V.int 5, V.int 9, V.int 77])
      rw [← k2]
      have st2 := (pool p d).up st e2
      walk_at "rd"
      refine ⟨p, d, 4, rfl, st2, by decide, fun v H3 v0 v1 D3 => ?_⟩
      have h3 := D3.at ((pool p d).fresh st hL) h2
      obtain ⟨x, hx, hm⟩ := atI_lt (xs := [V.int 5, V.int 5, V.int 9, V.int 77]) v0 v1
      obtain ⟨m, rfl, m0, m1⟩ : ∃ m : Int, x = .int m ∧ 0 < m ∧ m ≤ 77 := by
        simp only [List.mem_cons, List.not_mem_nil, or_false] at hm
        rcases hm with rfl | rfl | rfl | rfl <;> exact ⟨_, rfl, by decide, by decide⟩
      refine r_ixL (sqL h3) hx ?_
      walk_at "rd"
      refine ⟨p, d, m, rfl, D3.st, m0, fun v H4 v0 v1 D4 => ?_⟩
      obtain ⟨n, rfl⟩ := Int.eq_ofNat_of_zero_le v0
      obtain ⟨W, hW⟩ : ∃ W : Nat, W = 4 + n := ⟨_, rfl⟩
      have eW : (4 + (n : Int)) = (W : Nat) := by omega
      walk_at "rd"
      rw [eW]
      walk_at "rd"
      refine ⟨p, d, W, rfl, D4.st, by omega, by omega, fun z H5 hz D5 => ?_⟩
      walk_at "rd"
      refine ⟨z, W, false, rfl, hz, by omega, by omega, fun u t H6 e6 hT hu => ?_⟩
      have tl : t ≤ 700 := Nat.le_trans (it_ge (sp := spc z) (w := W) (bw := false) (by omega) t) (Nat.le_trans (it_le (by omega) hT.lt) hz)
      have st6 := (pool p d).up D5.st e6
      walk_at "rd"
      refine ⟨z, W, false, rfl, hz, by omega, by omega, fun u1 t1 H7 e7 hT1 hu1 => ?_⟩
      obtain rfl := hT.one hT1
      have hu7 := imm (.ex e7) hu
      walk_at "rd"
      refine ⟨u1, u, rfl, sm_tv hu1 hu7 (by rw [pcl_len]; omega), fun H8 e8 => ?_⟩
      walk_at "rd"
      refine ⟨z, W, false, rfl, hz, by omega, by omega, fun u2 t2 H9 e9 hT2 hu2 => ?_⟩
      obtain rfl := hT.one hT2
      have hu9 := imm (.ex (e8.trans e9)) hu7
      walk_at "rd"
      refine ⟨u2, u, rfl, sm_tv hu2 hu9 (by rw [pcl_len]; omega), fun H10 e10 => ?_⟩
      walk_at "rd"
      refine ⟨z, W, true, rfl, hz, by omega, by omega, fun u3 t3 H11 e11 hT3 hu3 => ?_⟩
      have tl3 : t3 ≤ 700 := Nat.le_trans (it_ge (sp := spc z) (w := W) (bw := true) (by omega) t3) (Nat.le_trans (it_le (by omega) hT3.lt) hz)
      walk_at "rd"
      refine ⟨z, W, true, rfl, hz, by omega, by omega, fun u4 t4 H12 e12 hT4 hu4 => ?_⟩
      obtain rfl := hT3.one hT4
      walk_at "rd"
      refine ⟨u3, u4, rfl, sm_tv (imm (.ex e12) hu3) hu4 (by rw [pcl_len]; omega), fun H13 e13 => ?_⟩
      walk_at "rd"
      exact ⟨_, _, _, _, rfl, (pool p d).up st6 (e7.trans (e8.trans (e9.trans (e10.trans (e11.trans (e12.trans e13))))))⟩
    · obtain ⟨y2, y3, y4, y5, rfl, st⟩ := hP
      walk_at "rd"
      refine ⟨p, d, 77, rfl, st, by decide, fun v H4 v0 v1 D4 => ?_⟩
      obtain ⟨n, rfl⟩ := Int.eq_ofNat_of_zero_le v0
      obtain ⟨W, hW⟩ : ∃ W : Nat, W = 4 + n := ⟨_, rfl⟩
      have eW : (4 + (n : Int)) = (W : Nat) := by omega
      walk_at "rd"
      rw [eW]
      refine ⟨p, d, 2, rfl, D4.st, by decide, fun v2 H5 v20 v21 D5 => ?_⟩
      walk_at "rd"
      refine ⟨"", W, _, rfl, by decide, by omega, by omega, fun u t H6 e6 hT hu => ?_⟩
      obtain rfl := hT.one pcl_nil.1
      have hu' : TupV K (SgV K) H6 u [(0, 0)] := hu
      walk_at "rd"
      refine r_small nsz fun p1 hp1 => ?_
      obtain ⟨H7, k7, e7, h7⟩ := new1 hp1 (.tup [V.int 0, V.int 0])
      rw [← k7]
      walk_at "rd"
      refine r_small nsz fun p2 hp2 => ?_
      obtain ⟨H8, k8, e8, h8⟩ := new1 hp2 (.tup [V.ref p1])
      rw [← k8]
      have hv : TupV K (SgV K) H8 (.ref p2) [(0, 0)] := ⟨p2, _, rfl, .inl h8, .cons ⟨p1, rfl, .inl (e8 _ _ h7)⟩ .nil⟩
      walk_at "rd"
      refine ⟨u, _, rfl, sm_tv (imm (.ex (e7.trans e8)) hu') hv (by decide), fun H9 e9 => ?_⟩
      walk_at "rd"
      exact q H9
end
theorem all_mk {l : PySem.W.OpenLaw} {w : World} {K : PySem.W.Frag} {h : Heap} {mg : Str → Option Value} {fa : Addr} (X : K.In h) (G : h.Ns mainGlobals mg) (hfa : mg "law" = some (.ref fa))
    {f_piece_end : Addr} {od_piece_end an_piece_end : Option Addr} {sl_piece_end : Array (Option Value)} {oc_piece_end kV_piece_end dc_piece_end pm_piece_end cd_piece_end ct_piece_end : Value}
    {f_laid : Addr} {od_laid an_laid : Option Addr} {sl_laid : Array (Option Value)} {oc_laid dc_laid pm_laid cd_laid ct_laid : Value}
    {kD_laid : Addr}
    {f_law_pool : Addr} {od_law_pool an_law_pool : Option Addr} {sl_law_pool : Array (Option Value)} {oc_law_pool kV_law_pool dc_law_pool pm_law_pool cd_law_pool ct_law_pool : Value}
    {f_law_next : Addr} {od_law_next an_law_next : Option Addr} {sl_law_next : Array (Option Value)} {oc_law_next kV_law_next dc_law_next pm_law_next cd_law_next ct_law_next : Value}
    {f_law_signs : Addr} {od_law_signs an_law_signs : Option Addr} {sl_law_signs : Array (Option Value)} {oc_law_signs kV_law_signs dc_law_signs pm_law_signs cd_law_signs ct_law_signs : Value}
    {f_law_same : Addr} {od_law_same an_law_same : Option Addr} {sl_law_same : Array (Option Value)} {oc_law_same kV_law_same dc_law_same pm_law_same cd_law_same ct_law_same : Value}
    {f_law_band : Addr} {od_law_band an_law_band : Option Addr} {sl_law_band : Array (Option Value)} {oc_law_band kV_law_band dc_law_band pm_law_band cd_law_band ct_law_band : Value}
    {f_law_let : Addr} {od_law_let an_law_let : Option Addr} {sl_law_let : Array (Option Value)} {oc_law_let kV_law_let dc_law_let pm_law_let cd_law_let ct_law_let : Value}
    {f_law_due : Addr} {od_law_due an_law_due : Option Addr} {sl_law_due : Array (Option Value)} {oc_law_due kV_law_due dc_law_due pm_law_due cd_law_due ct_law_due : Value}
    {f_law : Addr} {od_law an_law : Option Addr} {sl_law : Array (Option Value)} {oc_law kV_law dc_law pm_law cd_law ct_law : Value}
    (a_piece_end : PySem.W.nsIn K mainGlobals "piece_end" = some (some (.ref f_piece_end)))
    (l_piece_end : K.lookup f_piece_end = some ⟨oc_piece_end, od_piece_end, .func (PySem.W.fnOf "piece_end" "piece_end" (defArgs s_piece_end) (defBody s_piece_end) (defScope s_piece_end) .none kV_piece_end dc_piece_end pm_piece_end an_piece_end cd_piece_end ct_piece_end), sl_piece_end⟩)
    (c_piece_end : PySem.W.codeIn K cd_piece_end "piece_end" = true)
    (k_piece_end : PySem.W.keepIn K (.ref f_piece_end) = true)
    (a_laid : PySem.W.nsIn K mainGlobals "laid" = some (some (.ref f_laid)))
    (l_laid : K.lookup f_laid = some ⟨oc_laid, od_laid, .func (PySem.W.fnOf "laid" "laid" (defArgs s_laid) (defBody s_laid) (defScope s_laid) .none (.ref kD_laid) dc_laid pm_laid an_laid cd_laid ct_laid), sl_laid⟩)
    (kd_laid_wordwise : PySem.W.nsIn K kD_laid "wordwise" = some (some (.bool false)))
    (c_laid : PySem.W.codeIn K cd_laid "laid" = true)
    (k_laid : PySem.W.keepIn K (.ref f_laid) = true)
    (a_law_pool : PySem.W.nsIn K mainGlobals "_law_pool" = some (some (.ref f_law_pool)))
    (l_law_pool : K.lookup f_law_pool = some ⟨oc_law_pool, od_law_pool, .func (PySem.W.fnOf "_law_pool" "_law_pool" (defArgs s_law_pool) (defBody s_law_pool) (defScope s_law_pool) .none kV_law_pool dc_law_pool pm_law_pool an_law_pool cd_law_pool ct_law_pool), sl_law_pool⟩)
    (c_law_pool : PySem.W.codeIn K cd_law_pool "_law_pool" = true)
    (k_law_pool : PySem.W.keepIn K (.ref f_law_pool) = true)
    (a_law_next : PySem.W.nsIn K mainGlobals "_law_next" = some (some (.ref f_law_next)))
    (l_law_next : K.lookup f_law_next = some ⟨oc_law_next, od_law_next, .func (PySem.W.fnOf "_law_next" "_law_next" (defArgs s_law_next) (defBody s_law_next) (defScope s_law_next) .none kV_law_next dc_law_next pm_law_next an_law_next cd_law_next ct_law_next), sl_law_next⟩)
    (c_law_next : PySem.W.codeIn K cd_law_next "_law_next" = true)
    (k_law_next : PySem.W.keepIn K (.ref f_law_next) = true)
    (a_law_signs : PySem.W.nsIn K mainGlobals "_law_signs" = some (some (.ref f_law_signs)))
    (l_law_signs : K.lookup f_law_signs = some ⟨oc_law_signs, od_law_signs, .func (PySem.W.fnOf "_law_signs" "_law_signs" (defArgs s_law_signs) (defBody s_law_signs) (defScope s_law_signs) .none kV_law_signs dc_law_signs pm_law_signs an_law_signs cd_law_signs ct_law_signs), sl_law_signs⟩)
    (c_law_signs : PySem.W.codeIn K cd_law_signs "_law_signs" = true)
    (k_law_signs : PySem.W.keepIn K (.ref f_law_signs) = true)
    (a_law_same : PySem.W.nsIn K mainGlobals "_law_same" = some (some (.ref f_law_same)))
    (l_law_same : K.lookup f_law_same = some ⟨oc_law_same, od_law_same, .func (PySem.W.fnOf "_law_same" "_law_same" (defArgs s_law_same) (defBody s_law_same) (defScope s_law_same) .none kV_law_same dc_law_same pm_law_same an_law_same cd_law_same ct_law_same), sl_law_same⟩)
    (c_law_same : PySem.W.codeIn K cd_law_same "_law_same" = true)
    (k_law_same : PySem.W.keepIn K (.ref f_law_same) = true)
    (a_law_band : PySem.W.nsIn K mainGlobals "_law_band" = some (some (.ref f_law_band)))
    (l_law_band : K.lookup f_law_band = some ⟨oc_law_band, od_law_band, .func (PySem.W.fnOf "_law_band" "_law_band" (defArgs s_law_band) (defBody s_law_band) (defScope s_law_band) .none kV_law_band dc_law_band pm_law_band an_law_band cd_law_band ct_law_band), sl_law_band⟩)
    (c_law_band : PySem.W.codeIn K cd_law_band "_law_band" = true)
    (k_law_band : PySem.W.keepIn K (.ref f_law_band) = true)
    (a_law_let : PySem.W.nsIn K mainGlobals "_law_let" = some (some (.ref f_law_let)))
    (l_law_let : K.lookup f_law_let = some ⟨oc_law_let, od_law_let, .func (PySem.W.fnOf "_law_let" "_law_let" (defArgs s_law_let) (defBody s_law_let) (defScope s_law_let) .none kV_law_let dc_law_let pm_law_let an_law_let cd_law_let ct_law_let), sl_law_let⟩)
    (c_law_let : PySem.W.codeIn K cd_law_let "_law_let" = true)
    (k_law_let : PySem.W.keepIn K (.ref f_law_let) = true)
    (a_law_due : PySem.W.nsIn K mainGlobals "_law_due" = some (some (.ref f_law_due)))
    (l_law_due : K.lookup f_law_due = some ⟨oc_law_due, od_law_due, .func (PySem.W.fnOf "_law_due" "_law_due" (defArgs s_law_due) (defBody s_law_due) (defScope s_law_due) .none kV_law_due dc_law_due pm_law_due an_law_due cd_law_due ct_law_due), sl_law_due⟩)
    (c_law_due : PySem.W.codeIn K cd_law_due "_law_due" = true)
    (k_law_due : PySem.W.keepIn K (.ref f_law_due) = true)
    (a_law : PySem.W.nsIn K mainGlobals "law" = some (some (.ref f_law)))
    (l_law : K.lookup f_law = some ⟨oc_law, od_law, .func (PySem.W.fnOf "law" "law" (defArgs s_law) (defBody s_law) (defScope s_law) .none kV_law dc_law pm_law an_law cd_law ct_law), sl_law⟩)
    (c_law : PySem.W.codeIn K cd_law "law" = true)
    (k_law : PySem.W.keepIn K (.ref f_law) = true)
    (z_abs : PySem.W.nsIn K mainGlobals "abs" = some none)
    (z_bool : PySem.W.nsIn K mainGlobals "bool" = some none)
    (z_int : PySem.W.nsIn K mainGlobals "int" = some none)
    (z_isinstance : PySem.W.nsIn K mainGlobals "isinstance" = some none)
    (z_len : PySem.W.nsIn K mainGlobals "len" = some none)
    (z_list : PySem.W.nsIn K mainGlobals "list" = some none)
    (z_min : PySem.W.nsIn K mainGlobals "min" = some none)
    (z_range : PySem.W.nsIn K mainGlobals "range" = some none)
    (z_str : PySem.W.nsIn K mainGlobals "str" = some none)
    (z_tuple : PySem.W.nsIn K mainGlobals "tuple" = some none) :
    ∃ fd : FuncData, (∀ (s : Shared) (v : Value), BindsTo s fd ⟨[v], []⟩ [("_law_script", v)]) ∧ ∀ base : Heap, K.In base → base.Ns mainGlobals mg → FnOk l.prog w K mg base CX0 5 fa fd ["_law_script"] (sp_law K) := by
  have e := hfa.symm.trans (PySem.W.mg_of X G a_law)
  cases e
  have F_piece_end := fun_mk (st := s_piece_end) l_piece_end c_piece_end k_piece_end
  have F_laid := fun_mk (st := s_laid) l_laid c_laid k_laid
  have F_law_pool := fun_mk (st := s_law_pool) l_law_pool c_law_pool k_law_pool
  have F_law_next := fun_mk (st := s_law_next) l_law_next c_law_next k_law_next
  have F_law_signs := fun_mk (st := s_law_signs) l_law_signs c_law_signs k_law_signs
  have F_law_same := fun_mk (st := s_law_same) l_law_same c_law_same k_law_same
  have F_law_band := fun_mk (st := s_law_band) l_law_band c_law_band k_law_band
  have F_law_let := fun_mk (st := s_law_let) l_law_let c_law_let k_law_let
  have F_law_due := fun_mk (st := s_law_due) l_law_due c_law_due k_law_due
  have F_law := fun_mk (st := s_law) l_law c_law k_law
  let T : Txt K mg := {
    a_piece_end := _, d_piece_end := _, F_piece_end := F_piece_end, g_piece_end := PySem.W.mg_of X G a_piece_end,
    b_piece_end := F_piece_end.binds (ps := ["row", "start", "width", "wordwise"]) (fun _ _ _ _ _ _ us hl => match us, hl with | [_, _, _, _], _ => rfl),
    a_laid := _, d_laid := _, F_laid := F_laid, g_laid := PySem.W.mg_of X G a_laid,
    a_law_pool := _, d_law_pool := _, F_law_pool := F_law_pool, g_law_pool := PySem.W.mg_of X G a_law_pool,
    b_law_pool := F_law_pool.binds (ps := ["_law_script"]) (fun _ _ _ _ _ _ us hl => match us, hl with | [_], _ => rfl),
    a_law_next := _, d_law_next := _, F_law_next := F_law_next, g_law_next := PySem.W.mg_of X G a_law_next,
    b_law_next := F_law_next.binds (ps := ["_law_pool_here", "_law_many"]) (fun _ _ _ _ _ _ us hl => match us, hl with | [_, _], _ => rfl),
    a_law_signs := _, d_law_signs := _, F_law_signs := F_law_signs, g_law_signs := PySem.W.mg_of X G a_law_signs,
    b_law_signs := F_law_signs.binds (ps := []) (fun _ _ _ _ _ _ us hl => match us, hl with | [], _ => rfl),
    a_law_same := _, d_law_same := _, F_law_same := F_law_same, g_law_same := PySem.W.mg_of X G a_law_same,
    b_law_same := F_law_same.binds (ps := ["_law_one", "_law_due_here"]) (fun _ _ _ _ _ _ us hl => match us, hl with | [_, _], _ => rfl),
    a_law_band := _, d_law_band := _, F_law_band := F_law_band, g_law_band := PySem.W.mg_of X G a_law_band,
    b_law_band := F_law_band.binds (ps := ["_law_pool_here", "_law_wide"]) (fun _ _ _ _ _ _ us hl => match us, hl with | [_, _], _ => rfl),
    a_law_let := _, d_law_let := _, F_law_let := F_law_let, g_law_let := PySem.W.mg_of X G a_law_let,
    b_law_let := F_law_let.binds (ps := ["_law_band_here", "_law_wide", "_law_bywords", "_law_low", "_law_high"]) (fun _ _ _ _ _ _ us hl => match us, hl with | [_, _, _, _, _], _ => rfl),
    a_law_due := _, d_law_due := _, F_law_due := F_law_due, g_law_due := PySem.W.mg_of X G a_law_due,
    b_law_due := F_law_due.binds (ps := ["_law_band_here", "_law_wide", "_law_bywords"]) (fun _ _ _ _ _ _ us hl => match us, hl with | [_, _, _], _ => rfl),
    a_law := _, d_law := _, F_law := F_law, g_law := PySem.W.mg_of X G a_law,
    b_law := F_law.binds (ps := ["_law_script"]) (fun _ _ _ _ _ _ us hl => match us, hl with | [_], _ => rfl),
    kb_laid_0 := ⟨fun _ us ws X hl => match us, ws, hl with | [_, _], [_], _ => .of_eq rfl, gk_laid_0_rel⟩,
    kb_laid_1 := ⟨fun _ us ws X hl => match us, ws, hl with | [], [_, _], _ => BindsTo.of_looks fun M => KwChain.looks X (l := [("wordwise", .bool false)]) (by rintro q hq; simp only [List.mem_cons, List.not_mem_nil, or_false] at hq; rcases hq with rfl; all_goals assumption) ⟨_, _, _, _, _, _, rfl, rfl, rfl⟩, gk_laid_1_rel (show RelV (.bl false) (.bool false) from rfl)⟩,
    n_abs := PySem.W.mg_none_of X G z_abs,
    n_bool := PySem.W.mg_none_of X G z_bool,
    n_int := PySem.W.mg_none_of X G z_int,
    n_isinstance := PySem.W.mg_none_of X G z_isinstance,
    n_len := PySem.W.mg_none_of X G z_len,
    n_list := PySem.W.mg_none_of X G z_list,
    n_min := PySem.W.mg_none_of X G z_min,
    n_range := PySem.W.mg_none_of X G z_range,
    n_str := PySem.W.mg_none_of X G z_str,
    n_tuple := PySem.W.mg_none_of X G z_tuple }
  exact ⟨PySem.W.fnOf "law" "law" (defArgs s_law) (defBody s_law) (defScope s_law) .none kV_law dc_law pm_law an_law cd_law ct_law, fun s v => .of_eq rfl, fun base _ _ => ok_law T⟩
end K61
open PySem PySem.W PyProof.Rows
set_option maxHeartbeats 0 in
theorem PySem.Challenge.cw_deedstand_k61_whole_fewest_pieces_holds : PySem.Challenge.rw_deedstand_k61_whole_fewest_pieces.Holds := by
  w_on; o_law; k_head; (case hw => w_witness2)
  k_fill
  refine L2.walk_of (l := PySem.Challenge.rw_deedstand_k61_whole_fewest_pieces) (n := 63) (k := 5) (x := "_law_script") (CX := fun _ => L2.CX0) (sp := fun w => K61.sp_law _) rfl (by decide) rfl ⟨rfl, by decide, by decide⟩ (fun w h Y => PySem.W.kIn_of Y) ?F (fun _ _ a ns hl _ hS => ⟨a, ns, rfl, hS, hl, fun _ => rfl⟩) (fun _ _ _ _ _ h => h)
  case F =>
    intro w mg fa h KX G hmg
    refine' K61.all_mk KX G hmg ?a_piece_end ?l_piece_end ?c_piece_end ?k_piece_end ?a_laid ?l_laid ?kd_laid_wordwise ?c_laid ?k_laid ?a_law_pool ?l_law_pool ?c_law_pool ?k_law_pool ?a_law_next ?l_law_next ?c_law_next ?k_law_next ?a_law_signs ?l_law_signs ?c_law_signs ?k_law_signs ?a_law_same ?l_law_same ?c_law_same ?k_law_same ?a_law_band ?l_law_band ?c_law_band ?k_law_band ?a_law_let ?l_law_let ?c_law_let ?k_law_let ?a_law_due ?l_law_due ?c_law_due ?k_law_due ?a_law ?l_law ?c_law ?k_law ?z_abs ?z_bool ?z_int ?z_isinstance ?z_len ?z_list ?z_min ?z_range ?z_str ?z_tuple
    (case a_piece_end => k_is)
    (case l_piece_end => k_is)
    (case c_piece_end => k_is)
    (case k_piece_end => k_is)
    (case a_laid => k_is)
    (case l_laid => k_is)
    (case kd_laid_wordwise => k_is)
    (case c_laid => k_is)
    (case k_laid => k_is)
    (case a_law_pool => k_is)
    (case l_law_pool => k_is)
    (case c_law_pool => k_is)
    (case k_law_pool => k_is)
    (case a_law_next => k_is)
    (case l_law_next => k_is)
    (case c_law_next => k_is)
    (case k_law_next => k_is)
    (case a_law_signs => k_is)
    (case l_law_signs => k_is)
    (case c_law_signs => k_is)
    (case k_law_signs => k_is)
    (case a_law_same => k_is)
    (case l_law_same => k_is)
    (case c_law_same => k_is)
    (case k_law_same => k_is)
    (case a_law_band => k_is)
    (case l_law_band => k_is)
    (case c_law_band => k_is)
    (case k_law_band => k_is)
    (case a_law_let => k_is)
    (case l_law_let => k_is)
    (case c_law_let => k_is)
    (case k_law_let => k_is)
    (case a_law_due => k_is)
    (case l_law_due => k_is)
    (case c_law_due => k_is)
    (case k_law_due => k_is)
    (case a_law => k_is)
    (case l_law => k_is)
    (case c_law => k_is)
    (case k_law => k_is)
    (case z_abs => k_is)
    (case z_bool => k_is)
    (case z_int => k_is)
    (case z_isinstance => k_is)
    (case z_len => k_is)
    (case z_list => k_is)
    (case z_min => k_is)
    (case z_range => k_is)
    (case z_str => k_is)
    (case z_tuple => k_is)

