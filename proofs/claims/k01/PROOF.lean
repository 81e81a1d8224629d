import PyProof.Rows.All
import Wide.All
import OpenK.AllK
import Wide.FinOn
import KE.KDictZip
import KE.KDictItemsList
import HandS.Base
import HandS.Call
import HandS.List
import HandS.Comp
import HandS.Ends
import HandS.Iter
import HandS.Words
import HandS.WordsList
import HandS.SortInts
import HandS.IsInst
import HandS.Wide
import HandS.Style
import HandS.SetFor
import HandS.Dict
import HandS.Evl
import HandS.WordsDict
import HandS.Nested
import HandS.EndTab
import HandS.Sort
import HandS.SortOrd
import HandS.SortRule
import HandS.Conv
import HandS.Walk
import HandS.Steps
import HandS.TryOnly
import HandS.ListItems
import PyProof.Rows.IntBool
import PyProof.NeKinds
import PySem.Challenge.RW_sumplace_k01_what_is_a_row
set_option Elab.async false
set_option linter.all false
set_option maxRecDepth 100000
set_option maxHeartbeats 4000000
/-! list(enumerate(xs)): the tuples stay held, each a new object. -/
namespace Enl
open PySem PySem.W PySem.Calls PyProof.Rows PyProof.V PySem.Spec

theorem no_len : typeLookup (.type "enumerate") "__len__" = pure none := am_miss_of_fast (by decide +kernel)
theorem no_hint : typeLookup (.type "enumerate") "__length_hint__" = pure none := am_miss_of_fast (by decide +kernel)

structure Got (its : Array Value) (lo : Addr) (h : Heap) (as : List Addr) : Prop where
  up : as.Pairwise (· < ·)
  ab : ∀ a ∈ as, lo < a
  prs : ∀ (j : Nat) (a : Addr), as[j]? = some a → ∃ (v : Value) (t : Tok), its[j]? = some v ∧ h.get? a = some { cls := .type "tuple", data := .seq #[.int j t, v] }

/-- where the enumerate stands ahead of turn i -/
def At (h : Heap) (e it l S : Addr) (i : Nat) (its : Array Value) : Prop :=
  h.IsListIter it l i ∧ h.IsList l its ∧ ((∃ old, IsEnum h e it i old) ∨ ∃ old T f oT, IsEnumHeld h e it i old T f ∧ h.get? T = some oT ∧ T ≠ e ∧ T ≠ it ∧ T ≠ S)
theorem At.up {h h' : Heap} {e it l S : Addr} {i : Nat} {its : Array Value} (a : At h e it l S i its) (n1 : e ≠ S) (n2 : it ≠ S) (n3 : l ≠ S) (k : ∀ b o, b ≠ S → h.get? b = some o → h'.get? b = some o) : At h' e it l S i its := by
  obtain ⟨a1, a2, a3⟩ := a
  refine ⟨a1.at fun o x => k _ o n2 x, a2.at fun o x => k _ o n3 x, ?_⟩
  rcases a3 with ⟨old, a3⟩ | ⟨old, T, f, oT, a3, a4, r1, r2, r3⟩
  · exact .inl ⟨old, k _ _ n1 a3⟩
  · exact .inr ⟨old, T, f, oT, k _ _ n1 a3, k _ _ r3 a4, r1, r2, r3⟩

section
variable {prog : Program} {w : World} {A : Around} {E : Value → Shared → Prop} {s : Shared}
theorem next_item {e it l S : Addr} {i : Nat} {its : Array Value} {x : Value} {Q : Option Value → Shared → Prop} (st : At s.heap e it l S i its) (hx : its[i]? = some x) (hei : e ≠ it) (hle : l ≠ e) (hli : l ≠ it) (hS : S < s.heap.objs.size)
    (hQ : ∀ h', At h' e it l S (i + 1) its → h'.get? s.heap.objs.size = some { cls := .type "tuple", data := .seq #[.int i s.toks, x] } → h'.objs.size = s.heap.objs.size + 1 →
      (∀ b o, b ≠ e → b ≠ it → s.heap.get? b = some o → h'.get? b = some o) → Q (some (.ref s.heap.objs.size)) { s with heap := h', toks := s.toks + 1 }) : wpAny (model prog w) A (pyNext (.ref e)) Q E s := by
  obtain ⟨hit, hl, he⟩ := st
  have ec : ((i + 1 : Nat) : Int) = (i : Int) + 1 := by omega
  have nit : s.heap.objs.size ≠ it := let ⟨_, x, _⟩ := hit; Nat.ne_of_gt (Heap.lt_size x)
  rcases he with ⟨old, he⟩ | ⟨old, T, f, oT, he, hT, r1, r2, r3⟩
  · refine wpAny_pyNext_enum_item he hit hl hx hei fun h' ho hit' hT hz hk => ?_
    refine hQ h' ⟨hit', hl.at fun o y => hk l o hle hli y, .inr ⟨_, s.heap.objs.size, false, _, (by rw [ec]; exact ho), hT, Nat.ne_of_gt (Heap.lt_size he), nit, Nat.ne_of_gt hS⟩⟩ hT hz hk
  · refine wpAny_pyNext_enum_item_held he hT r1 r2 hit hl hx hei fun h' ho hit' hT' hz hk => ?_
    refine hQ h' ⟨hit', hl.at fun o y => hk l o hle hli y, .inr ⟨old, T, true, oT, (by rw [ec]; exact ho), hk _ _ r1 r2 hT, r1, r2, r3⟩⟩ hT' hz hk
theorem next_end {e it l S : Addr} {its : Array Value} {Q : Option Value → Shared → Prop} (hh : A.handled = none) (st : At s.heap e it l S its.size its)
    (hQ : ∀ h', Heap.ExtBut it s.heap h' → Q none { s with heap := h' }) : wpAny (model prog w) A (pyNext (.ref e)) Q E s := by
  obtain ⟨hit, hl, he⟩ := st
  have hx : its[its.size]? = none := Array.getElem?_eq_none (Nat.le_refl _)
  rcases he with ⟨old, he⟩ | ⟨old, T, f, oT, he, hT, r1, r2, r3⟩
  · exact wpAny_pyNext_enum_end hh he hit hl hx fun h' hk => hQ h' hk
  · exact wpAny_pyNext_enum_end_held hh he hit hl hx fun h' hk => hQ h' hk
end

section
variable {prog : Program} {w : World} {A : Around} {s : Shared} {R : Result → Shared → Prop} {its : Array Value}
theorem turns {S e it l : Addr} (hh : A.handled = none) (hSe : S ≠ e) (hSi : S ≠ it) (hSl : S ≠ l) (hei : e ≠ it) (hle : l ≠ e) (hli : l ≠ it) (hn : its.size ≤ sizeLine) (res : Value) {h₁ : Heap} {lo : Addr} (hlS : S ≤ lo) (hle' : e ≤ lo) (hli' : it ≤ lo)
    (hR : ∀ h' tk acc c as, (∀ b o, b ≠ S → b ≠ e → b ≠ it → h₁.get? b = some o → h'.get? b = some o) → h'.get? S = some { cls := .type "list", dict := none, data := .seq acc c, slots := #[] } → as.length = its.size → Got its lo h' as →
      acc.toList = as.map Value.ref → R (.ok (.ret res)) { s with heap := h', toks := tk }) :
    ∀ (k i : Nat) (h : Heap) (tk c : Nat) (acc : Array Value) (as : List Addr), its.size - i = k → i ≤ its.size → At h e it l S i its → (∀ b o, b ≠ S → b ≠ e → b ≠ it → h₁.get? b = some o → h.get? b = some o) →
      h.get? S = some { cls := .type "list", dict := none, data := .seq acc c, slots := #[] } → acc.toList = as.map Value.ref → as.length = i → Got its lo h as → lo < h.objs.size → (∀ a ∈ as, a < h.objs.size) →
      codeAny (model prog w) A (.builtin "list.extend.loop" ⟨[.ref S, .ref e, res], []⟩) R { s with heap := h, toks := tk } := by
  intro k
  induction k with
  | zero =>
    intro i h tk c acc as hk hi hst hkeep hS hacc hal hG hlo hlt
    obtain rfl : i = its.size := by omega
    refine codeAny_builtin PySem.F.entry_extend_loop ?_; rw [Around.under_plainId PySem.F.plain_extend_loop _]
    show wpAny _ A.in1 (pyNext (.ref e) >>= _) _ _ _
    refine wpAny_bind (next_end (s := { s with heap := h, toks := tk }) (A := A.in1) hh hst fun h' he => ?_)
    refine wpAny_pure (hR h' tk acc c as (fun b o h1 h2 h3 y => he b o h3 (hkeep b o h1 h2 h3 y)) (he S _ hSi hS) hal ⟨hG.up, hG.ab, fun j a hj => ?_⟩ hacc)
    obtain ⟨v, t, e1, e2⟩ := hG.prs j a hj
    exact ⟨v, t, e1, he a _ (Nat.ne_of_gt (Nat.lt_of_le_of_lt hli' (hG.ab a (List.mem_of_getElem? hj)))) e2⟩
  | succ k ih =>
    intro i h tk c acc as hk hi hst hkeep hS hacc hal hG hlo hlt
    have hi' : i < its.size := by omega
    have hsz : acc.size = i := by rw [← Array.length_toList, hacc, List.length_map, hal]
    have hSz : S < h.objs.size := Heap.lt_size hS
    refine codeAny_builtin PySem.F.entry_extend_loop ?_; rw [Around.under_plainId PySem.F.plain_extend_loop _]
    show wpAny _ A.in1 (pyNext (.ref e) >>= _) _ _ _
    refine wpAny_bind (next_item (s := { s with heap := h, toks := tk }) hst (Array.getElem?_eq_getElem hi') hei hle hli hSz fun h' hst' ht hz hkp => ?_)
    dsimp only at ht hz hkp ⊢
    have hS' := hkp S _ hSe hSi hS
    have up : ∀ b o, b ≠ S → h'.get? b = some o → (h'.update S (Obj.mapSeq (·.push (Value.ref h.objs.size)))).get? b = some o := fun b o hb y => (Heap.get?_update_other _ _ (Ne.symm hb)).trans y
    show wpAny _ A.in1 (updateSeq S (·.push (Value.ref h.objs.size)) >>= _) _ _ _
    refine wpAny_bind ?_
    refine wpAny_updateSeq hS' rfl (wpAny_pure ⟨plainId_quiet PySem.F.plain_extend_loop _, ?_⟩) (by rw [hsz]; omega) (by show (acc.push (Value.ref h.objs.size)).size ≤ sizeLine + 1; rw [Array.size_push, hsz]; omega)
    have hT := up _ _ (Nat.ne_of_gt hSz) ht
    have hbig : h.objs.size < (h'.update S (Obj.mapSeq (·.push (Value.ref h.objs.size)))).objs.size := Heap.lt_size hT
    refine ih (i + 1) _ (tk + 1) _ (acc.push (Value.ref h.objs.size)) (as ++ [h.objs.size]) (by omega) hi' (hst'.up (Ne.symm hSe) (Ne.symm hSi) (Ne.symm hSl) up) (fun b o h1 h2 h3 y => up b o h1 (hkp b o h2 h3 (hkeep b o h1 h2 h3 y))) (Heap.get?_update_self _ hS' rfl)
      (by rw [Array.toList_push, hacc, List.map_append]; rfl) (by rw [List.length_append, hal]; rfl) ⟨?_, ?_, ?_⟩ (Nat.lt_trans hlo hbig) ?_
    · refine List.pairwise_append.mpr ⟨hG.up, List.pairwise_singleton _ _, fun a ha b hb => ?_⟩
      rw [List.mem_singleton.mp hb]
      exact hlt a ha
    · intro a ha
      rcases List.mem_append.mp ha with ha | ha
      · exact hG.ab a ha
      · rw [List.mem_singleton.mp ha]
        exact hlo
    · intro j a hj
      by_cases hjl : j < as.length
      · rw [List.getElem?_append_left hjl] at hj
        obtain ⟨v, t, e1, e2⟩ := hG.prs j a hj
        have ga := hG.ab a (List.mem_of_getElem? hj)
        exact ⟨v, t, e1, up a _ (Nat.ne_of_gt (Nat.lt_of_le_of_lt hlS ga)) (hkp a _ (Nat.ne_of_gt (Nat.lt_of_le_of_lt hle' ga)) (Nat.ne_of_gt (Nat.lt_of_le_of_lt hli' ga)) e2)⟩
      · have hjb : j < (as ++ [h.objs.size]).length := (List.getElem?_eq_some_iff.mp hj).1
        rw [List.length_append, List.length_singleton] at hjb
        obtain rfl : j = i := by omega
        rw [List.getElem?_append_right (by omega), show j - as.length = 0 from by omega] at hj
        obtain rfl : h.objs.size = a := Option.some.inj hj
        exact ⟨its[j], tk, Array.getElem?_eq_getElem hi', hT⟩
    · intro a ha
      rcases List.mem_append.mp ha with ha | ha
      · exact Nat.lt_trans (hlt a ha) hbig
      · rw [List.mem_singleton.mp ha]
        exact hbig
end
section
variable {prog : Program} {w : World} {A : Around} {E : Value → Shared → Prop} {s : Shared} {its : Array Value} {e it l : Addr}
theorem hint_none (he : s.TypeIs (.ref e) "enumerate") {Q : Bool → Shared → Prop} (h : Q true s) : wpAny (model prog w) A (Builtin.List.listLengthHint (.ref e)) Q E s := by
  unfold Builtin.List.listLengthHint
  refine wpAny_bind (wpAny_specialOf he no_len ?_)
  show wpAny _ A (specialOf (Value.ref e) (Str.ofString "__length_hint__") >>= _) _ _ _
  refine wpAny_bind (wpAny_specialOf he no_hint ?_)
  exact wpAny_pure h
/-- list(e), e an enumerate over a list that stands at its begin -/
theorem call_list {Q : Value → Shared → Prop} (hh : A.handled = none) (he : IsEnum s.heap e it 0 .none) (hit : s.heap.IsListIter it l 0) (hl : s.heap.IsList l its) (hei : e ≠ it) (hle : l ≠ e) (hli : l ≠ it) (hn : its.size ≤ sizeLine)
    (hQ : ∀ h' tk acc c as, (∀ b o, b ≠ e → b ≠ it → s.heap.get? b = some o → h'.get? b = some o) → h'.get? s.heap.objs.size = some { cls := .type "list", dict := none, data := .seq acc c, slots := #[] } → as.length = its.size → Got its s.heap.objs.size h' as →
      acc.toList = as.map Value.ref → Q (.ref s.heap.objs.size) { s with heap := h', toks := tk }) :
    wpAny (model prog w) A (call (.type "list") [.ref e]) Q E s := by
  refine callType_codes (Q₁ := fun obj s₁ => obj = .ref s.heap.objs.size ∧ s₁ = { s with heap := s.heap.push { cls := .type "list", data := .seq #[] } }) PySem.F.called_list (PySem.F.typeCall_list_1 _) PySem.F.entry_list_init (code_list_new _ ⟨rfl, rfl⟩) fun obj s₁ h₁ => ?_
  obtain ⟨rfl, rfl⟩ := h₁
  have hS : (s.heap.push { cls := .type "list", data := .seq #[] }).get? s.heap.objs.size = some { cls := .type "list", data := .seq #[] } := Heap.get?_push_size _ rfl
  have le : e < s.heap.objs.size := Heap.lt_size he
  have li : it < s.heap.objs.size := let ⟨_, x, _⟩ := hit; Heap.lt_size x
  have ll : l < s.heap.objs.size := let ⟨_, x, _⟩ := hl; Heap.lt_size x
  generalize hg : s.heap.push { cls := .type "list", data := .seq #[] } = h0 at hS
  have k0 : ∀ b o, s.heap.get? b = some o → h0.get? b = some o := fun b o x => by rw [← hg]; exact Heap.get?_push_of_some _ x
  have z0 : h0.objs.size = s.heap.objs.size + 1 := by rw [← hg, Heap.size_push]
  generalize hp : s.heap.objs.size = S at hS le li ll z0 hQ
  have a0 : At h0 e it l S 0 its := ⟨hit.at fun o x => k0 _ o x, hl.at fun o x => k0 _ o x, .inl ⟨.none, k0 _ _ he⟩⟩
  refine ⟨⟨_, hS, rfl⟩, PySem.F.args_list_init_2 _ _, ?_⟩
  show wpAny _ _ (do let old ← Builtin.List.listItems (.ref S); Builtin.List.listUpdate (.ref S) (fun _ => #[]); letGo old.toList.reverse; Builtin.List.listExtendWith (.ref S) (.ref e) .none) _ _ _
  refine wpAny_bind ?_
  unfold Builtin.List.listItems
  refine wpAny_bind (wpAny_seqItems hS rfl (wpAny_pure ?_))
  show wpAny _ _ (updateSeq S (fun _ => #[]) >>= fun _ => letGo (#[] : Array Value).toList.reverse >>= fun _ => Builtin.List.listExtendWith (.ref S) (.ref e) .none) _ _ _
  refine wpAny_bind (wpAny_updateSeq hS rfl ?_)
  have hS2 := Heap.get?_update_self (Obj.mapSeq (fun _ => (#[] : Array Value))) hS rfl
  have k2 : ∀ b o, b ≠ S → h0.get? b = some o → (h0.update S (Obj.mapSeq (fun _ => (#[] : Array Value)))).get? b = some o := fun b o hb x => (Heap.get?_update_other _ _ (Ne.symm hb)).trans x
  have a2 := a0.up (Nat.ne_of_lt le) (Nat.ne_of_lt li) (Nat.ne_of_lt ll) k2
  generalize h0.update S (Obj.mapSeq (fun _ => (#[] : Array Value))) = h2 at hS2 k2 a2
  refine wpAny_bind (wpAny_letGo ?_)
  have T2 : Shared.TypeIs { s with heap := h2 } (.ref e) "enumerate" := by
    rcases a2.2.2 with ⟨old, x⟩ | ⟨old, T, f, oT, x, _⟩
    · exact ⟨_, x, rfl⟩
    · exact ⟨_, x, rfl⟩
  unfold Builtin.List.listExtendWith
  refine wpAny_bind (wpAny_typeOf (T := "enumerate") T2 ?_)
  have g1 : Builtin.List.listSameRef (.ref S) (.ref e) = false := by simp [Builtin.List.listSameRef, Nat.ne_of_gt le]
  have g2 : (Value.type "enumerate" == Value.type "list") = false := by decide
  have g3 : (Value.type "enumerate" == Value.type "tuple") = false := by decide
  simp only [g1, g2, g3, Bool.or_false, Bool.false_eq_true, if_false]
  have e2 : ∃ old, IsEnum h2 e it 0 old := ⟨.none, k2 _ _ (Nat.ne_of_lt le) (k0 _ _ he)⟩
  obtain ⟨old2, e2⟩ := e2
  refine wpAny_bind (wpAny_pyIter_enum (s := { s with heap := h2 }) e2 ?_)
  refine wpAny_bind (wpAny_holding (hint_none T2 ?_))
  have key : ∀ (h : Heap) (tk c : Nat), (∀ b o, b ≠ S → h2.get? b = some o → h.get? b = some o) → h.get? S = some { cls := .type "list", data := .seq #[] c } →
      codeAny (model prog w) A.in1 (.builtin "list.extend.loop" ⟨[.ref S, .ref e, .none], []⟩) (wants (fun r s2 => r = Value.none ∧ Q (Value.ref S) s2) E) { s with heap := h, toks := tk } := by
    intro h tk c kh hSh
    refine turns (A := A.in1) (s := s) (h₁ := s.heap) (lo := S) hh (Nat.ne_of_gt le) (Nat.ne_of_gt li) (Nat.ne_of_gt ll) hei hle hli hn .none (Nat.le_refl _) (Nat.le_of_lt le) (Nat.le_of_lt li)
      (fun h' tk' acc c' as k3 k4 k5 k6 k7 => ⟨rfl, ?_⟩) its.size 0 h tk c #[] [] (Nat.sub_zero _) (Nat.zero_le _) (a2.up (Nat.ne_of_lt le) (Nat.ne_of_lt li) (Nat.ne_of_lt ll) kh)
      (fun b o h1 _ _ x => kh b o h1 (k2 b o h1 (k0 b o x))) hSh rfl rfl ⟨List.Pairwise.nil, (fun _ ha => nomatch ha), (fun j a hj => by simp at hj)⟩ ?_ (fun _ ha => nomatch ha)
    · exact hQ h' tk' acc c' as (fun b o h1 h2 x => k3 b o (by rw [← hp]; exact Nat.ne_of_lt (Heap.lt_size x)) h1 h2 x) k4 k5 k6 k7
    · exact Heap.lt_size hSh
  refine wpAny_ite_split (fun _ => ?_) (fun _ => wpAny_pure ⟨plainId_quiet PySem.F.plain_extend_loop _, key h2 _ _ (fun b o _ x => x) hS2⟩)
  refine wpAny_bind (wpAny_rule ?_)
  refine wpAny_bind ?_
  show wpAny _ _ (updateSeq S (·.push .none) >>= fun _ => updateSeq S (·.pop)) _ _ _
  refine wpAny_bind (wpAny_updateSeq hS2 rfl ?_)
  have hS3 := Heap.get?_update_self (Obj.mapSeq (·.push Value.none)) hS2 rfl
  refine wpAny_updateSeq (hz := by seq_fits) hS3 rfl ?_
  have hS4 := Heap.get?_update_self (Obj.mapSeq (·.pop)) hS3 rfl
  refine wpAny_pure ⟨plainId_quiet PySem.F.plain_extend_loop _, key _ _ _ (fun b o hb x => ?_) hS4⟩
  exact (Heap.get?_update_other _ _ (Ne.symm hb)).trans ((Heap.get?_update_other _ _ (Ne.symm hb)).trans x)
end
end Enl

namespace Enl
open PySem PySem.W PyProof.Rows L2
section
variable {X : Cx} {pins : List (Addr × Obj)} {σ : L2.St} {H H' : Hp} {s : Shared} {h' : Heap} {tk : Nat}
/-- many new objects tracked at once -/
theorem lay_many (I : Inv X pins σ H s) (hk : ∀ b o, s.heap.get? b = some o → h'.get? b = some o) (up : ∀ b u, H b = some u → H' b = some u) (off : ∀ b, b < s.heap.objs.size → H b = none → H' b = none)
    (new : ∀ b u, H' b = some u → H b = some u ∨ ObjOk X.prog X.w H' h' b u) : Inv X pins σ H' { s with heap := h', toks := tk } := by
  refine I.call' (ch := []) rfl ⟨fun b o q _ _ _ => hk b o q, fun b o q _ _ _ => ⟨o.slots, hk b o q⟩, fun b o q n _ => off b (Heap.lt_size q) n, fun b o q _ => ⟨o, hk b o q⟩, fun b xs q => up b _ q, fun b o u q => up b _ q, fun b ps q => ⟨#[], by rw [up b _ q]; simp⟩⟩ (fun b u q => ?_) I.bare (fun b z => by simp at z)
  rcases new b u q with q1 | q1
  · exact (I.hok b u q1).stay (fun d v _ y => hk d v y) (fun d y => up d _ y) (fun d xs y => up d _ y)
  · exact q1
end
/-- the pairs tracked at their addresses, numbered from n -/
def putE : Hp → Nat → List Addr → List V → Hp
  | H, n, a :: as, x :: xs => putE (upd H a (.tup [.int (n : Int), x])) (n + 1) as xs
  | H, _, _, _ => H
theorem putE_off {b : Addr} : ∀ (as : List Addr) (xs : List V) (n : Nat) (H : Hp), b ∉ as → putE H n as xs b = H b
  | [], _, _, _, _ => rfl
  | _ :: _, [], _, _, _ => rfl
  | a :: as, x :: xs, n, H, h => by
    show putE (upd H a (.tup [.int (n : Int), x])) (n + 1) as xs b = H b
    rw [putE_off as xs (n + 1) _ (fun z => h (List.mem_cons_of_mem _ z)), upd_ne (fun z => h (by rw [z]; exact List.mem_cons_self))]
theorem putE_at : ∀ (as : List Addr) (xs : List V) (n : Nat) (H : Hp), as.Nodup → ∀ (j : Nat) (a : Addr) (x : V), as[j]? = some a → xs[j]? = some x → putE H n as xs a = some (.tup [.int ((n + j : Nat) : Int), x])
  | [], _, _, _, _, j, a, x, h, _ => by simp at h
  | _ :: _, [], _, _, _, j, a, x, _, h => by simp at h
  | b :: as, y :: xs, n, H, nd, 0, a, x, h1, h2 => by
    obtain rfl : b = a := Option.some.inj h1
    obtain rfl : y = x := Option.some.inj h2
    show putE (upd H b (.tup [.int (n : Int), y])) (n + 1) as xs b = _
    rw [putE_off as xs (n + 1) _ (List.nodup_cons.mp nd).1, upd_same]
    rfl
  | b :: as, y :: xs, n, H, nd, j + 1, a, x, h1, h2 => by
    show putE (upd H b (.tup [.int (n : Int), y])) (n + 1) as xs a = _
    rw [putE_at as xs (n + 1) _ (List.nodup_cons.mp nd).2 j a x h1 h2]
    rw [show n + 1 + j = n + (j + 1) from by omega]
theorem vals_at : ∀ {xs : List V} {us : List Value}, Vals xs us → ∀ {i : Nat} {u : Value}, us[i]? = some u → ∃ x, xs[i]? = some x ∧ RelV x u
  | _, _, .nil, i, u, h => by simp at h
  | _, _, .cons r t, 0, u, h => by
    obtain rfl := Option.some.inj h
    exact ⟨_, rfl, r⟩
  | _, _, .cons r t, i + 1, u, h => vals_at t (i := i) (u := u) h
theorem refs_vals : ∀ as : List Addr, Vals (as.map V.ref) (as.map Value.ref)
  | [] => .nil
  | _ :: as => .cons rfl (refs_vals as)
/-- list(enumerate(xs)): a new list of new pairs -/
def rEnumL (K : PySem.W.Frag) : V → Hp → VK → Prop := fun x H Q => ∃ (a : Addr) (xs : List V), x = .ref a ∧ SqL K H a xs ∧ xs.length + 1 ≤ sizeLine ∧
  ∀ (H' : Hp) (p : Addr) (ts : List Addr), Same H H' → H p = none → (∀ t ∈ ts, H t = none) → H' p = some (.lst (ts.map V.ref)) → ts.length = xs.length →
    (∀ (j : Nat) (t : Addr) (y : V), ts[j]? = some t → xs[j]? = some y → H' t = some (.tup [.int (j : Int), y])) → Q (.ref p) H'
def tEnumL (K : PySem.W.Frag) (te : TE) : TE := fun σ H Q => te σ H fun x H1 => rEnumL K x H1 Q
section
variable {X : Cx} {e : Expr} {te : TE} {p p2 pos pos2 : Pos}
theorem pe_listEnum (hm : X.mg "list" = none) (hm2 : X.mg "enumerate" = none) (he : PE X e te) (hc : X.calm = true := by rfl) (hg : Gl X "list" := by rfl) (hg2 : Gl X "enumerate" := by rfl)
    (hs2 : starEach [e] X.env = [(false, eval e X.env)] := by rfl)
    (hs : starEach [.Call (.Name "enumerate" p2) [e] [] pos2] X.env = (false, eval (.Call (.Name "enumerate" p2) [e] [] pos2) X.env) :: starEach [] X.env := by rfl) :
    PE X (.Call (.Name "list" p) [.Call (.Name "enumerate" p2) [e] [] pos2] [] pos) (tEnumL X.K te) := by
  refine ⟨fun pins s σ H Q I hq => ?_⟩
  refine wpAny_Call_Name_kw (ld_blt I hg hm (by decide +kernel : bootBuiltins "list" = some (.type "list")) ?_)
  refine PyProof.Rows.callWith_type1 ?_ hs rfl
  rw [hs]
  show wpAny _ _ (spliced ((false, eval (.Call (.Name "enumerate" p2) [e] [] pos2) X.env) :: backTo pos (starEach [] X.env))) _ _ s
  refine Calls.spliced_cons ?_
  refine Call_ (ld_blt I hg2 hm2 boot_enumerate (PyProof.Rows.callWith_type1 ?_ hs2 rfl))
  rw [hs2]
  show wpAny _ _ (spliced ((false, eval e X.env) :: backTo pos2 (starEach [] X.env))) _ _ s
  refine Calls.spliced_cons (thn (he.run pins s σ H _ I hq) fun v s1 ⟨x, H1, I1, r1, a, xs, ex, hq1, hz1, q⟩ => ?_)
  subst ex
  obtain rfl : v = Value.ref a := r1
  refine Calls.spliced_nil ?_
  obtain ⟨its, rv, pl, hz⟩ := I1.list hq1
  refine call_enumerate_list pl.isList fun h' he' hit hsz hk => ?_
  refine Calls.spliced_nil ?_
  have la : a < s1.heap.objs.size := let ⟨_, z, _⟩ := pl.isList; Heap.lt_size z
  have hlen : its.length = xs.length := rv.length.symm
  refine Enl.call_list (s := { s1 with heap := h' }) (I1.ok.hd hc) he' hit (pl.isList.at fun o z => hk _ o z) (Nat.succ_ne_self _) (Nat.ne_of_lt (Nat.lt_succ_of_lt la)) (Nat.ne_of_lt la) (by rw [List.size_toArray, hlen]; exact hz) fun h2 tk acc c as k1 k2 k3 k4 k5 => ?_
  dsimp only at k1 k2 k3 k4 k5 ⊢
  have keep : ∀ b o, s1.heap.get? b = some o → h2.get? b = some o := fun b o z => k1 b o (Nat.ne_of_lt (Nat.lt_succ_of_lt (Heap.lt_size z))) (Nat.ne_of_lt (Heap.lt_size z)) (hk b o z)
  have big : s1.heap.objs.size ≤ h'.objs.size := by rw [hsz]; omega
  have nd : as.Nodup := List.Pairwise.imp (fun {a b} (z : a < b) => Nat.ne_of_lt z) k4.up
  have nS : h'.objs.size ∉ as := fun z => Nat.lt_irrefl _ (k4.ab _ z)
  have fr : ∀ b, s1.heap.objs.size ≤ b → H1 b = none := fun b z => I1.hok.fresh z
  have frA : ∀ t ∈ as, H1 t = none := fun t z => fr t (Nat.le_trans big (Nat.le_of_lt (k4.ab t z)))
  have lenA : as.length = xs.length := by rw [k3, List.size_toArray, hlen]
  generalize hH2 : putE (upd H1 h'.objs.size (.lst (as.map V.ref))) 0 as xs = H2
  have eS : H2 h'.objs.size = some (.lst (as.map V.ref)) := by rw [← hH2, putE_off as xs 0 _ nS, upd_same]
  have eT : ∀ (j : Nat) (t : Addr) (y : V), as[j]? = some t → xs[j]? = some y → H2 t = some (.tup [.int (j : Int), y]) := fun j t y z1 z2 => by
    have z3 := putE_at as xs 0 (upd H1 h'.objs.size (.lst (as.map V.ref))) nd j t y z1 z2
    rw [Nat.zero_add] at z3
    rw [← hH2]
    exact z3
  have eO : ∀ b, b ≠ h'.objs.size → b ∉ as → H2 b = H1 b := fun b z1 z2 => by rw [← hH2, putE_off as xs 0 _ z2, upd_ne z1]
  have up : ∀ b u, H1 b = some u → H2 b = some u := fun b u z => by
    rw [eO b (fun y => by rw [y, fr _ big] at z; cases z) (fun y => by rw [frA b y] at z; cases z)]
    exact z
  have J : Inv X pins σ H2 { s1 with heap := h2, toks := tk } := by
    refine lay_many I1 keep up (fun b z n => ?_) fun b u z => ?_
    · rw [eO b (fun y => absurd z (Nat.not_lt.mpr (by rw [y]; exact big))) (fun y => absurd z (Nat.not_lt.mpr (Nat.le_trans big (Nat.le_of_lt (k4.ab b y)))))]
      exact n
    · by_cases hb : b ∈ as
      · obtain ⟨j, hj⟩ := List.mem_iff_getElem?.mp hb
        obtain ⟨v, t, w1, w2⟩ := k4.prs j b hj
        rw [List.getElem?_toArray] at w1
        obtain ⟨x, w3, w4⟩ := vals_at rv w1
        have w5 := eT j b x hj w3
        rw [w5] at z
        cases z
        exact .inr ⟨by show 2 ≤ sizeLine; decide, [.int j t, v], .cons ⟨t, rfl⟩ (.cons w4 .nil), ⟨_, w2, rfl, _, rfl⟩⟩
      · by_cases hb2 : b = h'.objs.size
        · subst hb2
          rw [eS] at z
          cases z
          refine .inr ⟨by rw [List.length_map, lenA]; omega, acc.toList, c, by rw [k5]; exact refs_vals as, ?_⟩
          rw [Array.toArray_toList]
          exact k2
        · rw [eO b hb2 hb] at z
          exact .inl z
  exact ⟨.ref _, H2, J, rfl, q H2 _ as up (fr _ big) frA eS lenA eT⟩
end
end Enl

namespace Sp
open PySem L2
/-! ### a def of the text that keeps its promise, by its name -/
structure Cal (P : Program) (w : World) (K : PySem.W.Frag) (mg : Str → Option Value) (base : Heap) (k : Nat) (x : Str) (ps : List Str) (sp : Sp) : Prop where
  ex : ∃ (f : Addr) (fd : FuncData), FnOk P w K mg base CX0 k f fd ps sp ∧ mg x = some (.ref f) ∧ PySem.W.keepIn K (.ref f) = true ∧ Binds K fd ps []
theorem pe_own {X : Cx} {k : Nat} {x : Str} {ps : List Str} {sp : Sp} {e : Expr} {es : List Expr} {t : TA} {p pos : Pos} (c : Cal X.prog X.w X.K X.mg X.base k x ps sp) (hr : Room k X.A) (hg : Gl X x) (ha : PA X (e :: es) t)
    (hdb : (x == ("__debug__" : Str)) = false := by decide) (he : starEach (e :: es) X.env = (false, eval e X.env) :: starEach es X.env := by rfl) (hpl : (backTo pos (starEach es X.env)).any (·.1) = false := by rfl) :
    PE X (.Call (.Name x p) (e :: es) [] pos) (tCall sp [] E0 t) := by
  obtain ⟨f, fd, F, m, kp, b⟩ := c.ex
  exact pe_call F hr hg m kp b .nil pass0 ha hdb he hpl
theorem Cal.imp {P : Program} {w : World} {K : PySem.W.Frag} {mg : Str → Option Value} {base : Heap} {k : Nat} {x : Str} {ps : List Str} {sp sp' : L2.Sp} (c : Cal P w K mg base k x ps sp) (h : ∀ vs H Q E, sp' vs H Q E → sp vs H Q E) : Cal P w K mg base k x ps sp' := by
  obtain ⟨f, fd, F, m, kp, b⟩ := c.ex
  exact ⟨f, fd, F.imp h, m, kp, b⟩
/-- the built-ins' names are not the module's -/
structure Bt (mg : Str → Option Value) : Prop where
  len_ : mg "len" = none
  list_ : mg "list" = none
  enumerate_ : mg "enumerate" = none
  int_ : mg "int" = none
  bool_ : mg "bool" = none
  sum_ : mg "sum" = none
  sorted_ : mg "sorted" = none
  min_ : mg "min" = none
  max_ : mg "max" = none
  range_ : mg "range" = none
  isinstance_ : mg "isinstance" = none
  repr_ : mg "repr" = none
  tuple_ : mg "tuple" = none
  dict_ : mg "dict" = none
  abs_ : mg "abs" = none
  str_ : mg "str" = none
/-! ### heaps: all stays but the hand at a -/
/-- the hand: two whole numbers -/
def HandAt (H : Hp) (a : Addr) : Prop := ∃ x y : Int, H a = some (.lst [.int x, .int y]) ∧ 0 ≤ x ∧ 0 ≤ y ∧ y < 2147483587
structure Ext (a : Addr) (H H' : Hp) : Prop where
  keep : ∀ b o, H b = some o → b ≠ a → H' b = some o
  hand : HandAt H a → HandAt H' a
theorem Ext.refl {a : Addr} {H : Hp} : Ext a H H := ⟨fun _ _ h _ => h, fun h => h⟩
theorem Ext.trans {a : Addr} {H H1 H2 : Hp} (e : Ext a H H1) (f : Ext a H1 H2) : Ext a H H2 := ⟨fun b o h n => f.keep b o (e.keep b o h n) n, fun h => f.hand (e.hand h)⟩
theorem HandAt.same {a : Addr} {H H' : Hp} (s : Same H H') (h : HandAt H a) : HandAt H' a := by
  obtain ⟨x, y, e, r⟩ := h
  exact ⟨x, y, s _ _ e, r⟩
theorem Ext.same {a : Addr} {H H' : Hp} (s : Same H H') : Ext a H H' := ⟨fun b o h _ => s b o h, fun h => h.same s⟩
theorem same_new {H : Hp} {p : Addr} {o : HO} (h : H p = none) : Same H (upd H p o) := fun b x e => by
  rw [upd_ne (ne_of_none e h)]
  exact e
theorem Ext.new {a : Addr} {H : Hp} {p : Addr} {o : HO} (h : H p = none) : Ext a H (upd H p o) := .same (same_new h)
theorem HandAt.ne {a p : Addr} {H : Hp} (h : HandAt H a) (n : H p = none) : p ≠ a := by
  obtain ⟨x, y, e, r⟩ := h
  exact fun z => by rw [z, e] at n; cases n
theorem Ext.made {a : Addr} {H H' : Hp} (e : Ext a H H') (n : H a = none) : Same H H' := fun b o h => e.keep b o h (fun z => by rw [z, n] at h; cases h)
theorem Ext.free {a b : Addr} {H H' : Hp} (e : Ext a H H') (n : b ≠ a) (h : H' b = none) : H b = none := by
  cases q : H b with
  | none => rfl
  | some o => rw [e.keep b o q n] at h; cases h
/-- a list of whole numbers that stands still -/
def Nums (H : Hp) (a p : Addr) (ns : List Int) : Prop := H p = some (.lst (ns.map V.int)) ∧ p ≠ a
theorem Nums.up {H H' : Hp} {a p : Addr} {ns : List Int} (n : Nums H a p ns) (e : Ext a H H') : Nums H' a p ns := ⟨e.keep _ _ n.1 n.2, n.2⟩
theorem Nums.sq {K : PySem.W.Frag} {H : Hp} {a p : Addr} {ns : List Int} (n : Nums H a p ns) : SqL K H p (ns.map V.int) := .inl (.inl n.1)
theorem seqExt {K : PySem.W.Frag} {H H' : Hp} {a p : Addr} {xs : List V} (e : Ext a H H') (n : p ≠ a) (h : SqL K H p xs) : SqL K H' p xs := by
  rcases h with (h | ⟨o, h⟩) | h
  · exact .inl (.inl (e.keep _ _ h n))
  · exact .inl (.inr ⟨o, e.keep _ _ h n⟩)
  · exact .inr h
/-! ### numbers -/
theorem wide30 {n : Int} (h0 : 0 < n) (h : n < 2 ^ 62) : CDivW (0 : Int) n := wide_div (b := 62) h0 (by omega) (by decide) (by decide)
theorem divW {i n : Int} (h0 : 0 < n) (h : n < 2 ^ 62) : CDivW i n := wide_div (b := 62) h0 (by omega) (by decide) (by decide)
theorem mulW {i j : Int} (h1 : -(2 ^ 200) < i) (h2 : i < 2 ^ 200) (h3 : -(2 ^ 200) < j) (h4 : j < 2 ^ 200) : CMulW i j := wide_mul (a := 200) (b := 200) (by omega) (by omega) (by decide) (by decide) (by decide)
theorem small {n : Nat} (h : n ≤ 100000) : n ≤ sizeLine := Nat.le_trans h (by decide)
theorem smallLt {n : Nat} (h : n ≤ 100000) : n < sizeLine := Nat.lt_of_le_of_lt h (by decide)
theorem at0 {α : Type} {x : α} {r : List α} : atI (x :: r) 0 = some x := atI_nat (j := 0) rfl
theorem at1 {α : Type} {x y : α} {r : List α} : atI (x :: y :: r) 1 = some y := atI_nat (j := 1) rfl
/-! ### the promises of the law's own small defs -/
def spHand : L2.Sp := fun vs H Q _ => ∃ c k : Int, vs = [.int c, .int k] ∧ 0 ≤ k ∧ k ≤ 1000 ∧ ∀ p x y, H p = none → 0 ≤ x → 0 ≤ y → y < 2147483587 → Q (.ref p) (upd H p (.lst [.int x, .int y]))
def spDraw : L2.Sp := fun vs H Q _ => ∃ (a : Addr) (n : Int), vs = [.ref a, .int n] ∧ HandAt H a ∧ 0 < n ∧ n < 2 ^ 62 ∧ ∀ r H', 0 ≤ r → r < n → HandAt H' a → (∀ b, b ≠ a → H' b = H b) → Q (.int r) H'
theorem drawn {a : Addr} {H H' : Hp} (h : HandAt H' a) (k : ∀ b, b ≠ a → H' b = H b) : Ext a H H' := ⟨fun b o e n => by rw [k b n]; exact e, fun _ => h⟩
end Sp

namespace Sp
open PySem L2
/-! ### lists of whole numbers as data -/
abbrev di (ns : List Int) : PyData := .list (ns.map PyData.int)
theorem dpAll_ints {K : PySem.W.Frag} {H : Hp} : ∀ ns : List Int, DpAll K H (ns.map V.int) (ns.map PyData.int)
  | [] => .nil
  | n :: ns => .cons (.int n) (dpAll_ints ns)
theorem dp_ints {K : PySem.W.Frag} {H : Hp} {p : Addr} {ns : List Int} (h : SqL K H p (ns.map V.int)) : Dp K H (.ref p) (di ns) := .lst h (dpAll_ints ns)
theorem lay_ints : ∀ ns : List Int, PyData.canLayAll0 (ns.map PyData.int) = true
  | [] => by rw [List.map_nil, PyData.canLayAll0]
  | n :: ns => by rw [List.map_cons, PyData.canLayAll0, lay_ints ns, PyData.canLay0]; rfl
theorem dep_ints : ∀ ns : List Int, PyData.depthAll (ns.map PyData.int) = 0
  | [] => by rw [List.map_nil, PyData.depthAll]
  | n :: ns => by rw [List.map_cons, PyData.depthAll, dep_ints ns, PyData.depth]; rfl
theorem shaped_ints (ns : List Int) : SeqAt.shaped (di ns) = true := by
  unfold SeqAt.shaped
  rw [PyData.canLay0, lay_ints, PyData.depth, dep_ints]
  rfl
theorem eqvAll_ints : ∀ ns ms : List Int, PyData.eqvAll (ns.map PyData.int) (ms.map PyData.int) = decide (ns = ms)
  | [], [] => by rw [List.map_nil, PyData.eqvAll]; rfl
  | [], _ :: _ => by rw [List.map_nil, List.map_cons, PyData.eqvAll]; rfl
  | _ :: _, [] => by rw [List.map_nil, List.map_cons, PyData.eqvAll]; rfl
  | n :: ns, m :: ms => by
    rw [List.map_cons, List.map_cons, PyData.eqvAll, eqvAll_ints ns ms, PyData.eqv]
    by_cases h : n = m
    · by_cases h2 : ns = ms
      · subst h; subst h2; simp
      · simp [h, h2]
    · simp [h]
theorem eqv_ints (ns ms : List Int) : PyData.eqv (di ns) (di ms) = decide (ns = ms) := by rw [PyData.eqv, eqvAll_ints]
theorem eqvAll_same {xs : List PyData} (h : ∀ x ∈ xs, PyData.eqv x x = true) : PyData.eqvAll xs xs = true := by
  induction xs with
  | nil => rw [PyData.eqvAll]
  | cons x xs ih => rw [PyData.eqvAll, h x List.mem_cons_self, ih fun y hy => h y (List.mem_cons_of_mem _ hy)]; rfl
theorem SqL.new {K : PySem.W.Frag} {H : Hp} {p : Addr} {xs : List V} (h : H p = some (.lst xs)) : SqL K H p xs := .inl (.inl h)
theorem rep_one {x : V} (k : Nat) : (List.replicate k [x]).flatten = List.replicate k x := by
  induction k with
  | zero => rfl
  | succ k ih => rw [List.replicate_succ, List.flatten_cons, ih]; rfl
theorem rep_int (x : Int) (k : Nat) : List.replicate k (V.int x) = (List.replicate k x).map V.int := by rw [List.map_replicate]
theorem cut_len (xs : List V) (lo hi : Option Int) : (cutV xs lo hi).length ≤ xs.length := cutV_length xs lo hi
theorem cut_map {ns : List Int} (lo hi : Option Int) : ∃ ms : List Int, cutV (ns.map V.int) lo hi = ms.map V.int ∧ ms.length ≤ ns.length ∧ ∀ m ∈ ms, m ∈ ns := by
  refine ⟨(ns.drop (HT.sIx ns.length 0 lo)).take (HT.sIx ns.length ns.length hi - HT.sIx ns.length 0 lo), ?_, ?_, ?_⟩
  · unfold cutV
    rw [List.length_map, List.map_take, List.map_drop]
  · exact Nat.le_trans (List.length_take_le' _ _) (by rw [List.length_drop]; omega)
  · intro m hm
    exact List.mem_of_mem_drop (List.mem_of_mem_take hm)
theorem int_at {ns : List Int} {i : Nat} {x : V} (h : (ns.map V.int)[i]? = some x) : ∃ n, ns[i]? = some n ∧ x = .int n := by
  rw [List.getElem?_map] at h
  cases e : ns[i]? with
  | none => rw [e] at h; cases h
  | some n => rw [e] at h; exact ⟨n, rfl, (Option.some.inj h).symm⟩
theorem ref_at {ts : List Addr} {i : Nat} {x : V} (h : (ts.map V.ref)[i]? = some x) : ∃ t, ts[i]? = some t ∧ x = .ref t := by
  rw [List.getElem?_map] at h
  cases e : ts[i]? with
  | none => rw [e] at h; cases h
  | some n => rw [e] at h; exact ⟨n, rfl, (Option.some.inj h).symm⟩
theorem int_mem {ns : List Int} {i : Nat} {n : Int} (h : ns[i]? = some n) : n ∈ ns := List.mem_of_getElem? h
/-- the item at a place of a written list, the place drawn -/
theorem at_draw {α : Type} {xs : List α} {r : Int} (h0 : 0 ≤ r) (h1 : r < xs.length) : ∃ x, atI xs r = some x ∧ x ∈ xs := by
  obtain ⟨j, rfl⟩ : ∃ j : Nat, r = (j : Int) := ⟨r.toNat, by omega⟩
  have hj : j < xs.length := by omega
  exact ⟨xs[j], atI_nat (List.getElem?_eq_getElem hj), List.getElem_mem hj⟩
/-! ### the promises -/
def spCells (K : PySem.W.Frag) : L2.Sp := fun vs H Q _ => ∃ (s : Addr) (m : Nat) (ns : List Int), vs = [.ref s, .int m] ∧ SqL K H s (ns.map V.int) ∧ ns.length ≤ 63 ∧ m ≤ 63 ∧
  ∀ (H' : Hp) (p : Addr) (ts : List Addr) (cs : List Int), Same H H' → H p = none → H' p = some (.lst (ts.map V.ref)) → ts.length = cs.length → cs.length ≤ 64 →
    (∀ (j : Nat) (t : Addr) (c : Int), ts[j]? = some t → cs[j]? = some c → H' t = some (.tup [.int (j : Int), .int c])) → Q (.ref p) H'
def spGreat (K : PySem.W.Frag) : L2.Sp := fun vs H Q _ => ∃ (s : Addr) (ns : List Int), vs = [.ref s] ∧ SqL K H s (ns.map V.int) ∧ ∀ b, Q (.bl b) H
/-- sorted, none beyond 10 ** 15 -/
def Fine (ns : List Int) : Prop := ns.Pairwise (· ≤ ·) ∧ ∀ n ∈ ns, -1000000000000000 ≤ n ∧ n ≤ 1000000000000000
def spRow : L2.Sp := fun vs H Q _ => ∃ (a : Addr) (lo hi : Nat), vs = [.ref a, .int (lo : Int), .int (hi : Int)] ∧ HandAt H a ∧ lo ≤ hi ∧ hi ≤ 300 ∧
  ∀ (p : Addr) (ns : List Int) (H' : Hp), Ext a H H' → H p = none → H' p = some (.lst (ns.map V.int)) → lo ≤ ns.length → ns.length ≤ hi → Fine ns → Q (.ref p) H'
def spWhole : L2.Sp := fun vs H Q _ => ∃ x y : Int, vs = [.int x, .int y] ∧ Q (.bl (decide (x = y))) H
end Sp
namespace Sp
open PySem L2
/-! ### the numbers of a row below one -/
def cntB (ns : List Int) (n : Int) : Nat := ns.countP fun x => decide (x < n)
def spBelow (K : PySem.W.Frag) : L2.Sp := fun vs H Q _ => ∃ (p : Addr) (ns : List Int) (n : Int), vs = [.ref p, .int n] ∧ SqL K H p (ns.map V.int) ∧ ns.Pairwise (· ≤ ·) ∧ Q (.int (cntB ns n : Nat)) H
theorem cntB_le (ns : List Int) (n : Int) : cntB ns n ≤ ns.length := List.countP_le_length
/-- what stands ahead of the count is below, what stands behind is not -/
theorem cntB_lt : ∀ {ns : List Int} {n : Int}, ns.Pairwise (· ≤ ·) → ∀ {i : Nat} {x : Int}, ns[i]? = some x → (x < n ↔ i < cntB ns n)
  | [], n, _, i, x, h => by simp at h
  | y :: ns, n, hp, i, x, h => by
    have hp' := List.pairwise_cons.mp hp
    unfold cntB
    rw [List.countP_cons]
    by_cases hy : y < n
    · rw [if_pos (decide_eq_true hy)]
      cases i with
      | zero =>
        have e : y = x := Option.some.inj h
        subst e
        exact ⟨fun _ => Nat.succ_pos _, fun _ => hy⟩
      | succ i =>
        have ih := cntB_lt (n := n) hp'.2 (i := i) (x := x) h
        unfold cntB at ih
        rw [ih]
        omega
    · have z : List.countP (fun x => decide (x < n)) ns = 0 := by
        rw [List.countP_eq_zero]
        intro a ha hn
        have h1 := hp'.1 a ha
        have h2 := of_decide_eq_true hn
        omega
      rw [if_neg (by simpa using hy), z]
      cases i with
      | zero =>
        have e : y = x := Option.some.inj h
        subst e
        exact ⟨fun h => absurd h hy, fun h => absurd h (Nat.lt_irrefl _)⟩
      | succ i =>
        have h1 := hp'.1 x (List.mem_of_getElem? h)
        constructor
        · intro h2; omega
        · intro h2; omega
end Sp
namespace Sp
open PySem L2
def spTo (K : PySem.W.Frag) : L2.Sp := fun vs H Q _ => ∃ (p : Addr) (ns : List Int) (n : Int), vs = [.ref p, .int n] ∧ SqL K H p (ns.map V.int) ∧ ns.Pairwise (· ≤ ·) ∧ Q (.int (cntB ns (n + 1) : Nat)) H
end Sp
namespace Sp
open PySem L2
/-- by one step -/
def stepped (b s : Int) (m : Nat) : List Int := (List.range m).map fun (k : Nat) => b + s * (k : Int)
theorem stepped_succ (b s : Int) (m : Nat) : stepped b s (m + 1) = stepped b s m ++ [b + s * (m : Int)] := by
  unfold stepped
  rw [List.range_succ, List.map_append, List.map_singleton]
theorem stepped_len (b s : Int) (m : Nat) : (stepped b s m).length = m := by unfold stepped; rw [List.length_map, List.length_range]
theorem stepped_mem {b s x : Int} {m : Nat} (h : x ∈ stepped b s m) : ∃ k : Nat, k < m ∧ x = b + s * (k : Int) := by
  unfold stepped at h
  obtain ⟨k, hk, rfl⟩ := List.mem_map.mp h
  exact ⟨k, List.mem_range.mp hk, rfl⟩
theorem stepped_sorted {b s : Int} (hs : 0 ≤ s) : ∀ m : Nat, (stepped b s m).Pairwise (· ≤ ·)
  | 0 => List.Pairwise.nil
  | m + 1 => by
    rw [stepped_succ]
    refine List.pairwise_append.mpr ⟨stepped_sorted hs m, List.pairwise_singleton _ _, fun x hx y hy => ?_⟩
    obtain ⟨k, hk, rfl⟩ := stepped_mem hx
    rw [List.mem_singleton.mp hy]
    have h1 : (k : Int) ≤ (m : Int) := by omega
    have h2 := Int.mul_le_mul_of_nonneg_left h1 hs
    omega
theorem perm_fine {ns ms : List Int} (hp : ms.Perm ns) (hs : ms.Pairwise (· ≤ ·)) (hb : ∀ n ∈ ns, -1000000000000000 ≤ n ∧ n ≤ 1000000000000000) : Fine ms := ⟨hs, fun n hn => hb n (hp.mem_iff.mp hn)⟩
end Sp
namespace Sp
open PySem L2
theorem fil_take {α : Type} {xs : List α} {f : α → Bool} {i : Nat} {x : α} (h : xs[i]? = some x) : (xs.take (i + 1)).filter f = (xs.take i).filter f ++ (if f x = true then [x] else []) := by
  rw [List.take_add_one, h, List.filter_append]
  cases e : f x with
  | true => simp [e]
  | false => simp [e]
theorem take_all {α : Type} (xs : List α) : xs.take xs.length = xs := List.take_length
theorem fil_len (ns : List Int) (n : Int) : (ns.filter fun x => decide (x < n)).length = cntB ns n := List.countP_eq_length_filter.symm
theorem fil_len_le (ns : List Int) (n : Int) : (ns.filter fun x => decide (x ≤ n)).length = cntB ns (n + 1) := by
  unfold cntB
  rw [List.countP_eq_length_filter]
  congr 1
  refine List.filter_congr fun x _ => ?_
  by_cases h : x ≤ n
  · rw [decide_eq_true h, decide_eq_true (show x < n + 1 by omega)]
  · rw [decide_eq_false h, decide_eq_false (show ¬ x < n + 1 by omega)]
def spRight3 (K : PySem.W.Frag) : L2.Sp := fun vs H Q _ => ∃ (p : Addr) (ns : List Int) (n : Int), vs = [.ref p, .int n] ∧ SqL K H p (ns.map V.int) ∧ ns.Pairwise (· ≤ ·) ∧ ns.length ≤ 1000 ∧ ∀ H', Same H H' → Q (.bl true) H'
end Sp
namespace Sp
open PySem L2
/-- a turn of [x for x in ns if f x]: kept or left out -/
theorem fil_yes {H0 H : Hp} {D : Addr} {ns : List Int} {f : Int → Bool} {i : Nat} {y : Int} (nD : H0 D = none) (w1 : Same H0 H) (w2 : H D = some (.lst (((ns.take i).filter f).map V.int))) (hy : ns[i]? = some y) (hl : ns.length ≤ 1000) (h : f y = true) :
    ∃ acc, H D = some (.lst acc) ∧ acc.length < sizeLine ∧ Same H0 (upd H D (.lst (acc ++ [V.int y]))) ∧ (upd H D (.lst (acc ++ [V.int y]))) D = some (.lst (((ns.take (i + 1)).filter f).map V.int)) := by
  refine ⟨_, w2, smallLt ?_, fun c o hc => ?_, ?_⟩
  · have h1 : ((ns.take i).filter f).length ≤ (ns.take i).length := List.length_filter_le _ _
    have h2 : (ns.take i).length ≤ ns.length := List.length_take_le' _ _
    rw [List.length_map]
    omega
  · rw [upd_ne (ne_of_none hc nD)]
    exact w1 c o hc
  · rw [upd_same, fil_take hy, if_pos h, List.map_append]
    rfl
theorem fil_no {H : Hp} {D : Addr} {ns : List Int} {f : Int → Bool} {i : Nat} {y : Int} (w2 : H D = some (.lst (((ns.take i).filter f).map V.int))) (hy : ns[i]? = some y) (h : ¬ f y = true) : H D = some (.lst (((ns.take (i + 1)).filter f).map V.int)) := by
  rw [fil_take hy, if_neg h, List.append_nil]
  exact w2
end Sp
namespace Sp
open PySem L2
def spLaw (K : PySem.W.Frag) : L2.Sp := fun vs H Q _ => ∃ (a : Addr) (ns : List Int), vs = [.ref a] ∧ SqL K H a (ns.map V.int) ∧ ns.length ≤ 63 ∧ ∀ H', Q (.bl true) H'
/-- a row of the law: sorted, small, no hand -/
structure RowAt (H : Hp) (a p : Addr) (ns : List Int) : Prop where
  at_ : H p = some (.lst (ns.map V.int))
  ne : p ≠ a
  fine : Fine ns
  len : ns.length ≤ 300
theorem RowAt.up {H H' : Hp} {a p : Addr} {ns : List Int} (r : RowAt H a p ns) (e : Ext a H H') : RowAt H' a p ns := ⟨e.keep _ _ r.at_ r.ne, r.ne, r.fine, r.len⟩
theorem RowAt.sq {K : PySem.W.Frag} {H : Hp} {a p : Addr} {ns : List Int} (r : RowAt H a p ns) : SqL K H p (ns.map V.int) := SqL.new r.at_
end Sp
namespace Sp
open PySem L2
theorem RowAt.hne {H : Hp} {a p : Addr} {ns : List Int} (r : RowAt H a p ns) : p ≠ a := r.ne
/-- one more item at a comprehension's list, the hand apart -/
theorem ext_app {a D : Addr} {H0 H : Hp} {xs : List V} (nD : H0 D = none) (nDa : D ≠ a) (e : Ext a H0 H) : Ext a H0 (upd H D (.lst xs)) := ⟨fun c o hc hca => by
    rw [upd_ne (ne_of_none hc nD)]
    exact e.keep c o hc hca, fun hh => by
    obtain ⟨u, v, e1, r⟩ := e.hand hh
    exact ⟨u, v, by rw [upd_ne nDa.symm]; exact e1, r⟩⟩
theorem same_app {D : Addr} {H0 H : Hp} {xs : List V} (nD : H0 D = none) (e : Same H0 H) : Same H0 (upd H D (.lst xs)) := fun c o hc => by
    rw [upd_ne (ne_of_none hc nD)]
    exact e c o hc
theorem map_app1 {xs : List Int} {y : Int} : xs.map V.int ++ [V.int y] = (xs ++ [y]).map V.int := by rw [List.map_append]; rfl
end Sp

namespace Rv
open PySem PySem.W PyProof.Rows L2
section
variable {prog : Program} {w : World} {A : Around} {E : Value → Shared → Prop} {s : Shared}
/-- (u, v)[::-1], raw -/
theorem get_rev2 {t sl : Addr} {u v vs : Value} {Q : Value → Shared → Prop} (ht : IsTup s.heap t #[u, v]) (hs : s.heap.IsSliceOf sl .none .none vs) (ps : IsPart vs (some (-1)))
    (h : Q (.ref s.heap.objs.size) { s with heap := s.heap.push { cls := .type "tuple", data := .seq #[v, u] } }) : wpAny (model prog w) A (getItem (.ref t) (.ref sl)) Q E s := by
  obtain ⟨os, hos, hcs, hds⟩ := id hs
  have hTs : s.TypeIs (.ref sl) "slice" := ⟨os, hos, hcs⟩
  unfold getItem
  try with_reducible refine wpAny_holding ?_
  first | refine wpAny_bind (wpAny_pure ?_) | skip
  refine wpAny_bind (wpAny_sequenceKey ht.typeIs (by decide) ?_)
  refine wpAny_bind (wpAny_callSpecial?_slot (name := Str.ofString "__getitem__") ht.typeIs PyProof.Rows.slot_tuple_getitem (wpAny_call_entry PyProof.Rows.slot_tuple_getitem ht.typeIs entry_tuple_getitem ?_ (args_tuple_getitem _ _)))
  show wpAny _ _ (Builtin.Tuple.tupleItemsOf (.ref t) >>= _) _ _ s
  refine wpAny_bind (tupleItemsOf_ ht ?_)
  refine wpAny_bind (wpAny_typeOf hTs ?_)
  rw [if_pos (by decide)]
  refine wpAny_bind ?_
  unfold Builtin.Slice.sliceApplied Builtin.Slice.sliceFields
  refine wpAny_bind (wpAny_bind (wpAny_field hos hds (x := Value.none) rfl (wpAny_bind (wpAny_field hos hds (x := Value.none) rfl (wpAny_bind (wpAny_field hos hds (x := vs) rfl (wpAny_pure ?_)))))))
  refine wpAny_bind (HT.slicePart_ ps ?_)
  show wpAny _ _ (if ((-1 : Int) == 0) = true then _ else _) _ _ s
  rw [if_neg (by decide)]
  refine wpAny_bind (slicePart_none (wpAny_bind (slicePart_none (wpAny_bind (wpAny_pure ?_)))))
  show wpAny _ _ (match Builtin.Slice.sliceAdjust none none (-1) (2 : Int) with | (lo, hi) => pure (lo, (-1 : Int), Builtin.Slice.slicePlaces lo hi (-1))) _ _ s
  have e1 : Builtin.Slice.sliceAdjust none none (-1) (2 : Int) = (1, -1) := by decide +kernel
  have e2 : Builtin.Slice.slicePlaces (1 : Int) (-1) (-1) = 2 := by decide +kernel
  rw [e1]
  show wpAny _ _ (pure ((1 : Int), (-1 : Int), Builtin.Slice.slicePlaces (1 : Int) (-1) (-1))) _ _ s
  rw [e2]
  refine wpAny_pure ?_
  show wpAny _ _ (if ((1 : Int) == 0 && (-1 : Int) == 1 && (2 : Nat) == #[u, v].size) = true then _ else _) _ _ s
  rw [if_neg (by rw [show ((1 : Int) == 0) = false from rfl]; exact Bool.false_ne_true)]
  have e3 : ((List.range 2).filterMap fun (k : Nat) => #[u, v][((1 : Int) + (k : Int) * (-1)).toNat]?).toArray = #[v, u] := rfl
  rw [e3]
  have htake : sizeOk (.seq #[v, u]) := by show 2 ≤ sizeLine; decide
  first
    | exact wpAny_bind (m := Builtin.Tuple.tupleExact _) (wpAny_newObj_type (wpAny_pure ⟨_, rfl, wpAny_pure h⟩) htake)
    | exact wpAny_bind (m := Builtin.Tuple.tupleExact _) (wpAny_newObj_type (wpAny_bind (wpAny_pure (wpAny_pure ⟨_, rfl, wpAny_pure h⟩))) htake)
    | exact wpAny_bind (wpAny_bind (m := Builtin.Tuple.tupleExact _) (wpAny_newObj_type (wpAny_pure (wpAny_pure ⟨_, rfl, wpAny_pure h⟩)) htake))
end
/-- t[::-1], t a pair -/
def tRev2 (K : PySem.W.Frag) (te : TE) : TE := fun σ H Q => te σ H fun x H1 => ∃ a u v, x = .ref a ∧ SqT K H1 a [u, v] ∧ ∀ p, H1 p = none → Q (.ref p) (upd H1 p (.tup [v, u]))
theorem pe_rev2 {X : Cx} {e : Expr} {te : TE} {k : Nat} {p1 p2 p3 pos : Pos} (he : PE X e te) : PE X (.Subscript e (.Slice none none (some (.UnaryOp .USub (.Constant (.int 1) k p1) p2)) p3) pos) (tRev2 X.K te) := by
  refine ⟨fun pins s σ H Q I h => ?_⟩
  refine Subscript_ (thn (he.run pins s σ H _ I h) fun v s1 ⟨x, H1, I1, r1, q1⟩ => ?_)
  obtain ⟨a, u, w', rfl, hx, q⟩ := q1
  cases r1
  have hst : PO X (some (.UnaryOp .USub (.Constant (.int 1) k p1) p2)) (tPart (tUn (rU fun i => .int (-i)) (tC (.int 1)))) := po_some (pe_un un_neg pe_int)
  refine wpAny_Slice (thn (po_none.run pins s1 σ H1 (fun o H2 => o = none ∧ H2 = H1) I1 ⟨rfl, rfl⟩) fun vl s2 ⟨l, H2, I2, pl, el, e2⟩ => ?_)
  subst el e2
  refine thn (po_none.run pins s2 σ H2 (fun o H3 => o = none ∧ H3 = H2) I2 ⟨rfl, rfl⟩) fun vu s3 ⟨u3, H3, I3, pu, eu, e3⟩ => ?_
  subst eu e3
  refine thn (hst.run pins s3 σ H3 (fun o H4 => o = some (-1) ∧ H4 = H3) I3 ⟨1, rfl, -1, rfl, rfl, rfl⟩) fun vs s4 ⟨o, H4, I4, ps, eo, e4⟩ => ?_
  subst eo e4
  cases pl
  cases pu
  have I5 : Inv X pins σ H4 { s4 with heap := s4.heap.push { cls := .type "slice", data := .fields #[Value.none, Value.none, vs] } } := I4.kept (t' := s4.toks) fun b ob q => Heap.get?_push_of_some _ q
  obtain ⟨its, r, ht, hz⟩ := I5.tuple hx
  cases r with
  | cons ra rr =>
    cases rr with
    | cons rb rc =>
      cases rc
      show wpAny (model X.prog X.w) X.A (subscriptTail e (.Slice none none (some (.UnaryOp .USub (.Constant (.int 1) k p1) p2)) p3) (.ref a) (.ref s4.heap.objs.size)) (EP X pins σ Q) X.xe { s4 with heap := s4.heap.push { cls := .type "slice", data := .fields #[Value.none, Value.none, vs] } }
      refine tail_any (ops := [.ref a, .ref s4.heap.objs.size]) ht.typeIs (PyProof.Rows.slot_tuple_getitem.lookup) ?_ (by with_unfolding_all rfl)
      refine get_rev2 ht (Heap.IsSliceOf.new _ Value.none Value.none vs) ps ?_
      exact ⟨.ref _, _, I5.laid (t' := s4.toks) (o := .tup [w', u]) (fun b ob q => Heap.get?_push_of_some _ q) (Nat.le_refl _) ⟨by show 2 ≤ sizeLine; decide, _, .cons rb (.cons ra .nil), IsTup.new _ _⟩, rfl, q _ (I5.hok.fresh (Nat.le_refl _))⟩
end Rv

namespace Sp
open PySem L2
/-! ### sums below -/
def cntS (ns ms : List Int) (n : Int) : Nat := (ns.map fun x => cntB ms (n - x)).sum
theorem cntB_mono {ms : List Int} {n m : Int} (h : n ≤ m) : cntB ms n ≤ cntB ms m := by
  unfold cntB
  refine List.countP_mono_left fun x _ hx => ?_
  have := of_decide_eq_true hx
  exact decide_eq_true (by omega)
theorem cntS_nil (ms : List Int) (n : Int) : cntS [] ms n = 0 := rfl
theorem cntS_snoc (ns ms : List Int) (x n : Int) : cntS (ns ++ [x]) ms n = cntS ns ms n + cntB ms (n - x) := by
  unfold cntS
  rw [List.map_append, List.sum_append]
  rfl
theorem take_snoc {α : Type} {xs : List α} {i : Nat} {x : α} (h : xs[i]? = some x) : xs.take (i + 1) = xs.take i ++ [x] := by rw [List.take_add_one, h]; rfl
theorem sorted_le {ns : List Int} (hp : ns.Pairwise (· ≤ ·)) {i j : Nat} {x y : Int} (hx : ns[i]? = some x) (hy : ns[j]? = some y) (h : i ≤ j) : x ≤ y := by
  obtain ⟨h1, e1⟩ := List.getElem?_eq_some_iff.mp hx
  obtain ⟨h2, e2⟩ := List.getElem?_eq_some_iff.mp hy
  rcases Nat.lt_or_eq_of_le h with h | h
  · have := (List.pairwise_iff_getElem.mp hp) i j h1 h2 h
    rw [e1, e2] at this
    exact this
  · subst h
    rw [hx] at hy
    rw [Option.some.inj hy]
    exact Int.le_refl _
theorem cnt_sum (ms : List Int) (x n : Int) : (ms.filter fun y => decide (x + y < n)).length = cntB ms (n - x) := by
  unfold cntB
  rw [List.countP_eq_length_filter]
  congr 1
  refine List.filter_congr fun y _ => ?_
  by_cases h : x + y < n
  · rw [decide_eq_true h, decide_eq_true (show y < n - x by omega)]
  · rw [decide_eq_false h, decide_eq_false (show ¬ y < n - x by omega)]
theorem cnt_sum_le (ms : List Int) (x n : Int) : (ms.filter fun y => decide (x + y ≤ n)).length = cntB ms (n + 1 - x) := by
  unfold cntB
  rw [List.countP_eq_length_filter]
  congr 1
  refine List.filter_congr fun y _ => ?_
  by_cases h : x + y ≤ n
  · rw [decide_eq_true h, decide_eq_true (show y < n + 1 - x by omega)]
  · rw [decide_eq_false h, decide_eq_false (show ¬ y < n + 1 - x by omega)]
def spSums (K : PySem.W.Frag) : L2.Sp := fun vs H Q _ => ∃ (p q : Addr) (ns ms : List Int) (n : Int), vs = [.ref p, .ref q, .int n] ∧ SqL K H p (ns.map V.int) ∧ SqL K H q (ms.map V.int) ∧ ns.Pairwise (· ≤ ·) ∧ ms.Pairwise (· ≤ ·) ∧ Q (.int (cntS ns ms n : Nat)) H
def spSumsTo (K : PySem.W.Frag) : L2.Sp := fun vs H Q _ => ∃ (p q : Addr) (ns ms : List Int) (n : Int), vs = [.ref p, .ref q, .int n] ∧ SqL K H p (ns.map V.int) ∧ SqL K H q (ms.map V.int) ∧ ns.Pairwise (· ≤ ·) ∧ ms.Pairwise (· ≤ ·) ∧ Q (.int (cntS ns ms (n + 1) : Nat)) H
/-- the law's own count, pair by pair -/
def spDue (K : PySem.W.Frag) (d : Int) : L2.Sp := fun vs H Q _ => ∃ (p q : Addr) (ns ms : List Int) (n : Int), vs = [.ref p, .ref q, .int n] ∧ SqL K H p (ns.map V.int) ∧ SqL K H q (ms.map V.int) ∧ ms.length ≤ 1000 ∧ ∀ H', Same H H' → Q (.int (cntS ns ms (n + d) : Nat)) H'
/-- two rows in a pair -/
def spTwo : L2.Sp := fun vs H Q _ => ∃ (a : Addr) (b : Bool), vs = [.ref a, .bl b] ∧ HandAt H a ∧
  ∀ (t p q : Addr) (ns ms : List Int) (H' : Hp), Ext a H H' → H' t = some (.tup [.ref p, .ref q]) → t ≠ a → RowAt H' a p ns → RowAt H' a q ms → Q (.ref t) H'
def Mid (zs : List Int) : Prop := ∀ z ∈ zs, -(2 ^ 150) < z ∧ z < 2 ^ 150
def spAsked : L2.Sp := fun vs H Q _ => ∃ (a p q : Addr) (ns ms : List Int), vs = [.ref a, .ref p, .ref q] ∧ HandAt H a ∧ RowAt H a p ns ∧ RowAt H a q ms ∧
  ∀ (r : Addr) (zs : List Int) (H' : Hp), Ext a H H' → H r = none → H' r = some (.lst (zs.map V.int)) → zs.length ≤ 9 → Mid zs → Q (.ref r) H'
end Sp
namespace Sp
open PySem L2
theorem at_map {ns : List Int} {r x : Int} (h : atI ns r = some x) : atI (ns.map V.int) r = some (.int x) := by
  unfold atI at h ⊢
  rw [List.length_map]
  cases e : ixN ns.length r with
  | none => rw [e] at h; cases h
  | some j =>
    rw [e] at h
    show (ns.map V.int)[j]? = _
    rw [List.getElem?_map, show ns[j]? = some x from h]
    rfl
end Sp
namespace Sp
open PySem L2
theorem shaped_two (ns ms : List Int) : SeqAt.shaped (.list [di ns, di ms]) = true := by
  unfold SeqAt.shaped
  simp only [PyData.canLay0, PyData.canLayAll0, lay_ints, PyData.depth, PyData.depthAll, dep_ints]
  rfl
theorem eqv_two (ns ms : List Int) : PyData.eqv (.list [di ns, di ms]) (.list [di ns, di ms]) = true := by
  rw [PyData.eqv]
  refine eqvAll_same fun x hx => ?_
  simp only [List.mem_cons, List.not_mem_nil, or_false] at hx
  rcases hx with rfl | rfl
  · rw [eqv_ints]; exact decide_eq_true rfl
  · rw [eqv_ints]; exact decide_eq_true rfl
theorem dp_two {K : PySem.W.Frag} {H : Hp} {l p q : Addr} {ns ms : List Int} (h : H l = some (.lst [.ref p, .ref q])) (hp : SqL K H p (ns.map V.int)) (hq : SqL K H q (ms.map V.int)) : Dp K H (.ref l) (.list [di ns, di ms]) :=
  .lst (SqL.new h) (.cons (dp_ints hp) (.cons (dp_ints hq) .nil))
end Sp

namespace Sp
open PySem L2
/-- a loop over enumerate(list), the list standing still -/
theorem for_enum {K : PySem.W.Frag} {a : Addr} {xs : List V} {g : TG} {tb : TS} {D : Ends} {σ : L2.St} {H : Hp} (Pv : Nat → L2.St → Hp → Prop) (h0 : Pv 0 σ H) (hl : ∀ i σ H, i ≤ xs.length → Pv i σ H → SqL K H a xs)
    (hs : ∀ i x σ H T, xs[i]? = some x → Pv i σ H → H T = none → g (.ref T) σ (upd H T (.tup [.int (i : Nat), x])) fun σ2 H2 => tb { D with nx := Pv (i + 1), ct := Pv (i + 1), bk := D.nx } σ2 H2) (hd : ∀ σ H, Pv xs.length σ H → D.nx σ H) :
    ∃ W : Nat → Nat → L2.St → Hp → Prop, (∃ m, W 0 m σ H) ∧ ∀ i m σ H, W i m σ H →
      ((Ite K a).stop i H ∧ D.nx σ H) ∨ ((Ite K a).go i H ∧ ∃ N : L2.St → Hp → Prop, (∀ σ' H', N σ' H' → ∃ m', m' < m ∧ W (i + 1) m' σ' H') ∧ ∀ x H', (Ite K a).yld i H x H' → g x σ H' fun σ2 H2 => tb { D with nx := N, ct := N, bk := D.nx } σ2 H2) := by
  refine ⟨fun i m σ H => m = xs.length - i ∧ i ≤ xs.length ∧ Pv i σ H, ⟨xs.length, by simp, Nat.zero_le _, h0⟩, fun i m σ H w => ?_⟩
  obtain ⟨rfl, hi, p⟩ := w
  have q := hl i σ H hi p
  by_cases hlt : i < xs.length
  · refine .inr ⟨⟨xs, xs[i], q, List.getElem?_eq_getElem hlt⟩, Pv (i + 1), fun σ' H' p' => ⟨xs.length - (i + 1), by omega, rfl, hlt, p'⟩, fun x H' y => ?_⟩
    obtain ⟨T, z, rfl, nT, rfl, f⟩ := y
    exact hs i z σ H T (f xs q) p nT
  · obtain rfl : i = xs.length := by omega
    exact .inl ⟨⟨xs, q, Nat.le_refl _⟩, hd σ H p⟩
/-! ### is_row, of anything -/
abbrev kinds : List String := ["bool", "str", "NoneType", "list", "tuple", "dict"]
def NoInt (K : PySem.W.Frag) (H : Hp) (x : V) : Prop := ∃ T, T ∈ kinds ∧ TyX K H x (.type T)
def Kn (K : PySem.W.Frag) (H : Hp) (x : V) : Prop := (∃ n, x = .int n) ∨ NoInt K H x
theorem TyX.up {K : PySem.W.Frag} {H H' : Hp} {x : V} {t : Value} (s : Same H H') (h : TyX K H x t) : TyX K H' x t := by
  cases h with
  | base b =>
    cases b with
    | non => exact .base .non
    | bl y => exact .base (.bl y)
    | int i => exact .base (.int i)
    | str y => exact .base (.str y)
    | flt y => exact .base (.flt y)
    | lst e => exact .base (.lst (s _ _ e))
    | frz e => exact .base (.frz (s _ _ e))
    | tup e => exact .base (.tup (s _ _ e))
    | dK e => exact .base (.dK (s _ _ e))
    | dT e => exact .base (.dT (s _ _ e))
    | ins e c1 c2 c3 c4 c5 => exact .base (.ins (s _ _ e) c1 c2 c3 c4 c5)
  | byt b => exact .byt b
  | set e => exact .set (s _ _ e)
  | kList e c => exact .kList e c
  | kTuple e c => exact .kTuple e c
  | kDict e c => exact .kDict e c
  | fTuple e => exact .fTuple (s _ _ e)
  | fDict e => exact .fDict (s _ _ e)
theorem NoInt.up {K : PySem.W.Frag} {H H' : Hp} {x : V} (s : Same H H') (h : NoInt K H x) : NoInt K H' x := let ⟨T, m, t⟩ := h; ⟨T, m, TyX.up s t⟩
theorem Kn.up {K : PySem.W.Frag} {H H' : Hp} {x : V} (s : Same H H') (h : Kn K H x) : Kn K H' x := h.imp id fun z => z.up s
theorem NoInt.ne {K : PySem.W.Frag} {H : Hp} {x : V} (h : NoInt K H x) (n : Int) : x ≠ .int n := by
  rintro rfl
  obtain ⟨T, m, t⟩ := h
  cases t with
  | base b =>
    cases b
    simp at m
def IsRow (xs : List V) : Prop := ∃ ns : List Int, xs = ns.map V.int ∧ ns.Pairwise (· ≤ ·)
def spIsWhole (K : PySem.W.Frag) : L2.Sp := fun vs H Q _ => ∃ x : V, vs = [x] ∧ (((∃ n, x = .int n) ∧ Q (.bl true) H) ∨ (NoInt K H x ∧ Q (.bl false) H))
def spIsRow (K : PySem.W.Frag) : L2.Sp := fun vs H Q _ => ∃ x : V, vs = [x] ∧ ((∃ (p : Addr) (xs : List V), x = .ref p ∧ SqL K H p xs ∧ (∀ y ∈ xs, Kn K H y) ∧ ∀ (b : Bool) (H' : Hp), (b = true ↔ IsRow xs) → Same H H' → Q (.bl b) H') ∨
  (∃ T, T ∈ ["int", "bool", "str", "NoneType", "tuple", "dict"] ∧ TyX K H x (.type T) ∧ Q (.bl false) H))
theorem IsRow.map (ns : List Int) : IsRow (ns.map V.int) ↔ ns.Pairwise (· ≤ ·) := by
  constructor
  · rintro ⟨ms, e, h⟩
    have e2 : ns = ms := by
      have := congrArg (List.map fun v => match v with | V.int i => i | _ => 0) e
      rw [List.map_map, List.map_map] at this
      have f : ((fun v => match v with | V.int i => i | _ => (0 : Int)) ∘ V.int) = id := rfl
      rw [f, List.map_id, List.map_id] at this
      exact this
    rw [e2]
    exact h
  · exact fun h => ⟨ns, rfl, h⟩
theorem tyList {K : PySem.W.Frag} {H : Hp} {p : Addr} {xs : List V} (h : SqL K H p xs) : TyX K H (.ref p) (.type "list") := by
  rcases h with (h | ⟨o, h⟩) | ⟨o, its, n, hk, hc, _⟩
  · exact .base (.lst h)
  · exact .base (.frz h)
  · exact .kList hk hc
end Sp
namespace Sp
open PySem L2
/-! ### joined, turned, counted -/
theorem sorted_one {ns ms : List Int} (hp : ns.Perm ms) (h1 : ns.Pairwise (· ≤ ·)) (h2 : ms.Pairwise (· ≤ ·)) : ns = ms := hp.eq_of_pairwise (fun a b _ _ x y => Int.le_antisymm x y) h1 h2
def spJoined : L2.Sp := fun vs H Q _ => ∃ (p q : Addr) (ns ms : List Int), vs = [.ref p, .ref q] ∧ H p = some (.lst (ns.map V.int)) ∧ H q = some (.lst (ms.map V.int)) ∧ ns.length + ms.length ≤ 10000 ∧
  ∀ (r : Addr) (js : List Int) (H' : Hp), Same H H' → H r = none → H' r = some (.lst (js.map V.int)) → js.Perm (ns ++ ms) → js.Pairwise (· ≤ ·) → Q (.ref r) H'
def turned (ns : List Int) : List Int := ns.reverse.map fun x => 0 - x
def spTurned (K : PySem.W.Frag) : L2.Sp := fun vs H Q _ => ∃ (p : Addr) (ns : List Int), vs = [.ref p] ∧ SqL K H p (ns.map V.int) ∧ ns.length ≤ 10000 ∧ ∀ (r : Addr) (H' : Hp), Same H H' → H r = none → H' r = some (.lst ((turned ns).map V.int)) → Q (.ref r) H'
theorem cntB_perm {ns ms : List Int} (h : ns.Perm ms) (n : Int) : cntB ns n = cntB ms n := h.countP_eq _
theorem cntB_append (ns ms : List Int) (n : Int) : cntB (ns ++ ms) n = cntB ns n + cntB ms n := List.countP_append
theorem cntB_next : ∀ (ns : List Int) (n : Int), cntB ns (n + 1) = cntB ns n + ns.count n
  | [], n => rfl
  | x :: ns, n => by
    have ih := cntB_next ns n
    unfold cntB at ih ⊢
    rw [List.countP_cons, List.countP_cons, List.count_cons, ih]
    by_cases h : x < n
    · rw [if_pos (decide_eq_true (show x < n + 1 by omega)), if_pos (decide_eq_true h), if_neg (by simp; omega)]
      omega
    · by_cases h2 : x = n
      · rw [if_pos (decide_eq_true (show x < n + 1 by omega)), if_neg (by simpa using h), if_pos (by simp [h2])]
        omega
      · rw [if_neg (by simp; omega), if_neg (by simpa using h), if_neg (by simpa using h2)]
        omega
theorem cntB_turned (ns : List Int) (n : Int) : cntB (turned ns) (0 - n) + cntB ns (n + 1) = ns.length := by
  have key : ∀ l : List Int, cntB (l.map fun x => 0 - x) (0 - n) + cntB l (n + 1) = l.length := by
    intro l
    induction l with
    | nil => rfl
    | cons x l ih =>
      unfold cntB at ih ⊢
      rw [List.map_cons, List.countP_cons, List.countP_cons, List.length_cons]
      by_cases h : x < n + 1
      · rw [if_pos (decide_eq_true h), if_neg (by simp; omega)]
        omega
      · rw [if_pos (decide_eq_true (show 0 - x < 0 - n by omega)), if_neg (by simp; omega)]
        omega
  have h1 := key ns.reverse
  have h2 : cntB ns.reverse (n + 1) = cntB ns (n + 1) := cntB_perm (List.reverse_perm ns) _
  rw [h2, List.length_reverse] at h1
  exact h1
theorem turned_sorted {ns : List Int} (h : ns.Pairwise (· ≤ ·)) : (turned ns).Pairwise (· ≤ ·) := by
  unfold turned
  rw [List.pairwise_map, List.pairwise_reverse]
  exact h.imp fun h => by omega
def spCounts (K : PySem.W.Frag) : L2.Sp := fun vs H Q _ => ∃ (p q b : Addr) (ns ms js : List Int) (n : Int), vs = [.ref p, .ref q, .ref b, .int n] ∧ SqL K H p (ns.map V.int) ∧ SqL K H q (ms.map V.int) ∧ SqL K H b (js.map V.int) ∧
  ns.Pairwise (· ≤ ·) ∧ ms.Pairwise (· ≤ ·) ∧ js.Pairwise (· ≤ ·) ∧ js.Perm (ns ++ ms) ∧ ns.length ≤ 10000 ∧ ∀ H', Same H H' → Q (.bl true) H'
end Sp
namespace Sp
open PySem L2
theorem ne_same {x : V} {H : Hp} {Q : VK} (hs : scal x x = true) (q : Q (.bl false) H) : rNe x x H Q := ⟨hs, by rw [decide_eq_true rfl]; exact q⟩
theorem eq_same {x : V} {H : Hp} {Q : VK} (hs : scal x x = true) (q : Q (.bl true) H) : rEq x x H Q := ⟨hs, by rw [decide_eq_true rfl]; exact q⟩
end Sp
namespace Sp
open PySem L2
theorem map_cnt_sorted {js zs : List Int} (h : zs.Pairwise (· ≤ ·)) : (zs.map fun z => ((cntB js z : Nat) : Int)).Pairwise (· ≤ ·) := by
  rw [List.pairwise_map]
  exact h.imp fun h => Int.ofNat_le.mpr (cntB_mono h)
/-- a turn of [f x for x in ns] -/
theorem map_turn {H0 H : Hp} {D : Addr} {ns : List Int} {f : Int → Int} {i : Nat} {y : Int} (nD : H0 D = none) (w1 : Same H0 H) (w2 : H D = some (.lst (((ns.take i).map f).map V.int))) (hy : ns[i]? = some y) (hl : ns.length ≤ 10000) :
    ∃ acc, H D = some (.lst acc) ∧ acc.length < sizeLine ∧ Same H0 (upd H D (.lst (acc ++ [V.int (f y)]))) ∧ (upd H D (.lst (acc ++ [V.int (f y)]))) D = some (.lst (((ns.take (i + 1)).map f).map V.int)) := by
  refine ⟨_, w2, smallLt ?_, same_app nD w1, ?_⟩
  · have := List.length_take_le' i ns
    rw [List.length_map, List.length_map]
    omega
  · rw [upd_same, take_snoc hy, map_app1, List.map_append, List.map_append, List.map_append]
    rfl
end Sp

namespace Sp
open PySem L2
/-- the scope of a comprehension that the j-th statement of a def stores -/
def compScopeAt (s : Stmt) (j : Nat) : Scope := match (defBody s).getD j (.Pass ⟨0, 0, 0, 0⟩) with
  | .Assign _ (.ListComp _ _ sc _) _ => sc
  | _ => { kind := .function, names := [], isGenerator := false, isCoroutine := false }
/-! ### sums, otherwise -/
theorem cntB_cons (y : Int) (ms : List Int) (n : Int) : cntB (y :: ms) n = cntB ms n + (if y < n then 1 else 0) := by
  unfold cntB
  rw [List.countP_cons]
  by_cases h : y < n
  · rw [if_pos (decide_eq_true h), if_pos h]
  · rw [if_neg (by simpa using h), if_neg h]
theorem cntS_cons (x : Int) (ns ms : List Int) (n : Int) : cntS (x :: ns) ms n = cntB ms (n - x) + cntS ns ms n := by
  unfold cntS
  rw [List.map_cons, List.sum_cons]
theorem cntS_cons_r : ∀ (ns : List Int) (y : Int) (ms : List Int) (n : Int), cntS ns (y :: ms) n = cntB ns (n - y) + cntS ns ms n
  | [], y, ms, n => rfl
  | x :: ns, y, ms, n => by
    rw [cntS_cons, cntS_cons, cntS_cons_r ns y ms n, cntB_cons, cntB_cons]
    have : (y < n - x) ↔ (x < n - y) := by omega
    by_cases h : y < n - x
    · rw [if_pos h, if_pos (this.mp h)]
      omega
    · rw [if_neg h, if_neg (fun k => h (this.mpr k))]
      omega
theorem cntS_nil_r : ∀ (ns : List Int) (n : Int), cntS ns [] n = 0
  | [], n => rfl
  | x :: ns, n => by rw [cntS_cons, cntS_nil_r ns n]; rfl
theorem cntS_comm : ∀ (ns ms : List Int) (n : Int), cntS ms ns n = cntS ns ms n
  | [], ms, n => by rw [cntS_nil_r]; rfl
  | x :: ns, ms, n => by rw [cntS_cons_r, cntS_cons, cntS_comm ns ms n]
theorem cntS_append (ns ks ms : List Int) (n : Int) : cntS (ns ++ ks) ms n = cntS ns ms n + cntS ks ms n := by
  unfold cntS
  rw [List.map_append, List.sum_append]
theorem cntS_perm {ns ks : List Int} (h : ns.Perm ks) (ms : List Int) (n : Int) : cntS ns ms n = cntS ks ms n := (h.map _).sum_nat
theorem cntS_shift : ∀ (ns ms : List Int) (n b : Int), cntS (ns.map fun x => x + b) ms (n + b) = cntS ns ms n
  | [], ms, n, b => rfl
  | x :: ns, ms, n, b => by
    rw [List.map_cons, cntS_cons, cntS_cons, cntS_shift ns ms n b]
    rw [show n + b - (x + b) = n - x from by omega]
theorem cntB_three : ∀ (ms : List Int) (n : Int), cntB (ms.map fun x => x * 3) (n * 3) = cntB ms n
  | [], n => rfl
  | y :: ms, n => by
    rw [List.map_cons, cntB_cons, cntB_cons, cntB_three ms n]
    by_cases h : y < n
    · rw [if_pos h, if_pos (by omega)]
    · rw [if_neg h, if_neg (by omega)]
theorem cntS_three : ∀ (ns ms : List Int) (n : Int), cntS (ns.map fun x => x * 3) (ms.map fun x => x * 3) (n * 3) = cntS ns ms n
  | [], ms, n => rfl
  | x :: ns, ms, n => by
    rw [List.map_cons, cntS_cons, cntS_cons, cntS_three ns ms n]
    rw [show n * 3 - x * 3 = (n - x) * 3 from by omega, cntB_three]
theorem cntS_turned (ns ms : List Int) (n : Int) : cntS (turned ns) (turned ms) (0 - n + 1) + cntS ns ms n = ns.length * ms.length := by
  have key : ∀ l : List Int, cntS (l.map fun x => 0 - x) (turned ms) (0 - n + 1) + cntS l ms n = l.length * ms.length := by
    intro l
    induction l with
    | nil => rw [List.length_nil, Nat.zero_mul]; rfl
    | cons x l ih =>
      rw [List.map_cons, cntS_cons, cntS_cons, List.length_cons, Nat.add_mul, Nat.one_mul]
      have h := cntB_turned ms (n - x - 1)
      rw [show n - x - 1 + 1 = n - x from by omega] at h
      rw [show 0 - n + 1 - (0 - x) = 0 - (n - x - 1) from by omega]
      omega
  have h1 := key ns.reverse
  rw [List.length_reverse, cntS_perm (List.reverse_perm ns)] at h1
  exact h1
theorem cntB_all : ∀ {ms : List Int} {n : Int}, (∀ y ∈ ms, y < n) → cntB ms n = ms.length
  | [], n, _ => rfl
  | y :: ms, n, h => by
    rw [cntB_cons, cntB_all fun z hz => h z (List.mem_cons_of_mem _ hz), if_pos (h y List.mem_cons_self), List.length_cons]
theorem cntS_all : ∀ {ns ms : List Int} {n : Int}, (∀ x ∈ ns, ∀ y ∈ ms, x + y < n) → cntS ns ms n = ns.length * ms.length
  | [], ms, n, _ => by rw [List.length_nil, Nat.zero_mul]; rfl
  | x :: ns, ms, n, h => by
    rw [cntS_cons, cntS_all (fun z hz => h z (List.mem_cons_of_mem _ hz)), cntB_all (fun y hy => (by have := h x List.mem_cons_self y hy; omega)), List.length_cons, Nat.add_mul, Nat.one_mul, Nat.add_comm]
theorem cntS_mono {ns ms : List Int} {n m : Int} (h : n ≤ m) : cntS ns ms n ≤ cntS ns ms m := by
  induction ns with
  | nil => exact Nat.le_refl _
  | cons x ns ih =>
    rw [cntS_cons, cntS_cons]
    exact Nat.add_le_add (cntB_mono (by omega)) ih
theorem cntS_one (b : Int) (ms : List Int) (n : Int) : cntS [b] ms n = cntB ms (n - b) := by rw [cntS_cons]; rfl
theorem map_cntS_sorted {ns ms zs : List Int} (h : zs.Pairwise (· ≤ ·)) : (zs.map fun z => ((cntS ns ms z : Nat) : Int)).Pairwise (· ≤ ·) := by
  rw [List.pairwise_map]
  exact h.imp fun h => Int.ofNat_le.mpr (cntS_mono h)
theorem div_fine {ns : List Int} (h : Fine ns) : Fine (ns.map fun x => x / 4) := by
  refine ⟨?_, fun z hz => ?_⟩
  · rw [List.pairwise_map]
    exact h.1.imp fun h => Int.ediv_le_ediv (by decide) h
  · obtain ⟨x, hx, rfl⟩ := List.mem_map.mp hz
    have := h.2 x hx
    omega
theorem shift_sorted {ns : List Int} (b : Int) (h : ns.Pairwise (· ≤ ·)) : (ns.map fun x => x + b).Pairwise (· ≤ ·) := by
  rw [List.pairwise_map]
  exact h.imp fun h => by omega
theorem three_sorted {ns : List Int} (h : ns.Pairwise (· ≤ ·)) : (ns.map fun x => x * 3).Pairwise (· ≤ ·) := by
  rw [List.pairwise_map]
  exact h.imp fun h => by omega
def spRight7 (K : PySem.W.Frag) : L2.Sp := fun vs H Q _ => ∃ (p q t : Addr) (ns ms ks : List Int) (n b : Int), vs = [.ref p, .ref q, .ref t, .int n, .int b] ∧ H p = some (.lst (ns.map V.int)) ∧ H q = some (.lst (ms.map V.int)) ∧ H t = some (.lst (ks.map V.int)) ∧
  Fine ns ∧ Fine ms ∧ Fine ks ∧ ns.length ≤ 300 ∧ ms.length ≤ 300 ∧ ks.length ≤ 300 ∧ -(2 ^ 160) < n ∧ n < 2 ^ 160 ∧ ∀ H', Same H H' → Q (.bl true) H'
end Sp
namespace Sp
open PySem L2
/-- within a comprehension: the written part by its own name -/
theorem pi_listK {X : Cx} {K : PySem.W.Frag} {tg l : Expr} {tl : TE} (hK : X.K = K) (hl : PE X l tl) : PI X tg l (iList K tl) := hK ▸ pi_list hl
end Sp
namespace Sp
open PySem L2
theorem mid_div {zs : List Int} (h : Mid zs) : Mid (zs.map fun x => x / 4) := fun z hz => by
  obtain ⟨x, hx, rfl⟩ := List.mem_map.mp hz
  have := h x hx
  omega
end Sp

/-! defs that ask repr of a list: they are called where no repr is under way. -/
namespace Gd
open PySem PySem.Spec PyProof.Rows L2 Sp
/-- a def that keeps its promise wherever no repr is under way -/
structure FnG (P : Program) (w : World) (K : PySem.W.Frag) (mg : Str → Option Value) (base : Heap) (k : Nat) (f : Addr) (fd : FuncData) (ps : List Str) (sp : L2.Sp) : Prop where
  many : ∀ vs H Q E, sp vs H Q E → vs.length = ps.length
  goes : ∀ (B : Around) (fs : List Env) (z : Shared) (H : Hp) (ws : Args) (us : List Value) (vs : List V) (Q : VK) (E : XK), B.guards = some [] → Room k B →
    Env0 P w K mg base B fs z H → BindsTo z fd ws (ps.zip us) → Vals vs us → sp vs H Q E → codeAny (model P w) B (.call (.ref f) ws) (CR CX0 fs P w H z Q E) z
/-- such a def of the text by its name -/
structure CalG (P : Program) (w : World) (K : PySem.W.Frag) (mg : Str → Option Value) (base : Heap) (k : Nat) (x : Str) (ps : List Str) (sp : L2.Sp) : Prop where
  ex : ∃ (f : Addr) (fd : FuncData), FnG P w K mg base k f fd ps sp ∧ mg x = some (.ref f) ∧ PySem.W.keepIn K (.ref f) = true ∧ Binds K fd ps []
section
variable {P : Program} {w : World} {K : PySem.W.Frag} {mg : Str → Option Value} {base : Heap}
theorem okG {x qual : Str} {st : Stmt} {f : Addr} {fd : FuncData} {N ps : List Str} {k : Nat} {sp : L2.Sp} (F : Fun K x qual st f fd) (S : FnScope N ps (defScope st)) (many : ∀ vs H Q E, sp vs H Q E → vs.length = ps.length)
    (go : ∀ (c : Value) (B : Around) (fs : List Env) (z : Shared) (H : Hp) (vs : List V) (Q : VK) (E : XK), B.guards = some [] → Room k (B.deeper (envOfC qual (defScope st) z.heap.objs.size f c)) → sp vs H Q E →
      ∃ t, PSs (cxOf CX0 P w K mg base N qual (defScope st) f c B fs z H E).nox (defBody st) t ∧ t { nx := fun _ H2 => Q .non H2, rt := Q } (start N vs) H) : FnG P w K mg base (k + 1) f fd ps sp := by
  obtain ⟨oc, od, kV, doc, pm, an, c, ct, osl, rfl, lk, hc⟩ := F.ex
  refine ⟨many, fun B fs z H ws us vs Q E hg hr e0 hb r hsp => ?_⟩
  have kin : K.In z.heap := e0.mod.kin.keeps fun b o e => (e0.bs b o e).1
  have nl : z.heap.NoLimit := e0.mod.nolimit.keeps fun b o e => (e0.bs b o e).1
  have kinds : ∀ y ∈ ps.zip us, (defScope st).names.lookup y.1 = some .local ∨ ((defScope st).names.lookup y.1 = some .cell ∧ ((cellsFrom (z.heap.objs.size + 1) (defScope st).names []).lookup y.1).isSome = true) := by
    intro y hy
    rcases S.par y.1 (List.of_mem_zip hy).1 with q | q
    · exact .inl q
    · exact .inr ⟨q, PySem.W.cellsFrom_some _ _ _ (.inl q)⟩
  refine codeAny_call_function hr.depth (kin _ _ lk) rfl S.co S.gen rfl (PySem.W.codeRec_of kin hc) (hb _ _ _ _ (wpAny_newFunctionEnv_cells S.kind kinds fun env he z1 y => ?_))
  subst he
  obtain ⟨t, ht, hq⟩ := go c B fs z H vs Q E hg (hr.deeper _) hsp
  have I := inv_start (E := E) (CX := CX0) S hr.hd e0 (many _ _ _ _ hsp) r y
  refine ⟨nl.keeps y.toInCall.keep, codeAny_func (wpAny_mono (ht.nox.run [] z1 (start N vs) H _ I hq) (fun fl z2 hz => ?_) fun _ _ hz => hz)⟩
  cases fl with
  | next =>
    obtain ⟨σ2, H2, J, q⟩ := hz
    exact ⟨.non, H2, J.os, J.bare, J.base, J.hok, rfl, q⟩
  | ret u =>
    obtain ⟨v, σ2, H2, J, rv, q⟩ := hz
    exact ⟨v, H2, J.os, J.bare, J.base, J.hok, rv, q⟩
  | brk => exact hz.choose_spec.choose_spec.2.elim
  | cont => exact hz.choose_spec.choose_spec.2.elim
end
section
variable {X : Cx} {k : Nat} {x : Str} {ps : List Str} {sp : L2.Sp} {e : Expr} {es : List Expr} {t : TA} {p pos : Pos}
theorem pe_ownG (c : CalG X.prog X.w X.K X.mg X.base k x ps sp) (hu : X.A.guards = some []) (hr : Room k X.A) (hg : Gl X x) (ha : PA X (e :: es) t) (hdb : (x == ("__debug__" : Str)) = false := by decide)
    (he : starEach (e :: es) X.env = (false, eval e X.env) :: starEach es X.env := by rfl) (hpl : (backTo pos (starEach es X.env)).any (·.1) = false := by rfl) : PE X (.Call (.Name x p) (e :: es) [] pos) (tCall sp [] E0 t) := by
  obtain ⟨f, fd, F, m, kp, b⟩ := c.ex
  refine ⟨fun pins z σ H Q I h => ?_⟩
  refine wpAny_Call_Name_kw (ld_glob I hg m (PySem.W.callWith_K (h₀ := X.base) I.ok.mod.kin kp (thn (ha.run pos pins z σ H _ I h) fun us z1 ⟨vs, H1, J, r, q⟩ => ⟨J.kIn, ?_⟩) he hpl) hdb)
  have q0 : sp vs H1 Q E0 := by
    have q1 : sp (vs ++ []) H1 Q E0 := q
    rwa [List.append_nil] at q1
  have eq : us ++ [] = us := List.append_nil us
  have hb := b z1 us J.kIn (by rw [eq, ← r.length]; exact F.many _ _ _ _ q0)
  rw [eq] at hb
  refine wpAny_call (codeAny_mono (F.goes X.A X.stack z1 H1 ⟨us, []⟩ us vs Q E0 hu hr J.env0 hb r q0) fun res z2 hz => ?_)
  cases res with
  | error ex => exact pass0 pins σ H1 z1 ex z2 J hz
  | ok fl =>
    cases fl with
    | ret u => exact J.after hz
    | next => exact hz.elim
    | brk => exact hz.elim
    | cont => exact hz.elim
/-- repr of a list or a tuple of data -/
def rRepr (K : PySem.W.Frag) : List V → Hp → VK → Prop := fun xs H Q => ∃ (a : Addr) (d : PyData), xs = [.ref a] ∧ Dp K H (.ref a) d ∧ d.showable = true ∧ d.hasDict = false ∧ d.shown.length ≤ sizeLine ∧ d.depth ≤ 60 ∧ Q (.str d.shown) H
theorem call_repr (hu : X.A.guards = some []) (hr : Room k X.A) : CallR X (.builtin "repr") (rRepr X.K) := by
  intro pins z σ H xs us Q I r h
  obtain ⟨a, d, rfl, hd, h1, h2, h3, h4, q⟩ := h
  cases r with
  | cons ra rr =>
    cases rr
    obtain ⟨as, R⟩ := Dp.reads I d _ _ hd ra
    cases ra
    have := hr.units
    exact repr_of_reads' R h1 (PyData.noDict_hsm h2) hu (by omega) (fun _ _ e => e) (fun h' u tk hk => ⟨.str d.shown, H, I.kept (t' := tk) hk, ⟨u, rfl⟩, q⟩) h3
end
theorem show_ints : ∀ ns : List Int, (∀ n ∈ ns, n.natAbs.log2 < 60) → PyData.showableAll (ns.map PyData.int) = true ∧ PyData.leavesShortAll 61 (ns.map PyData.int) = true ∧ PyData.weightAll (ns.map PyData.int) ≤ 61 * ns.length
  | [], _ => ⟨rfl, rfl, Nat.zero_le _⟩
  | n :: ns, h => by
    obtain ⟨h1, h2, h3⟩ := show_ints ns fun m hm => h m (List.mem_cons_of_mem _ hm)
    have h0 := h n List.mem_cons_self
    refine ⟨?_, ?_, ?_⟩
    · rw [List.map_cons, PyData.showableAll, h1, PyData.showable, decide_eq_true (by omega)]
      rfl
    · rw [List.map_cons, PyData.leavesShortAll, h2, PyData.leavesShort]
      have e : (PyData.shown (.int n)).length ≤ 61 := by
        show (Str.ofString (toString n)).length ≤ 61
        rw [PySem.ofString_length]
        exact int_text_length_le (k := 60) (by decide) h0
      rw [decide_eq_true e]
      rfl
    · rw [List.map_cons, PyData.weightAll, PyData.weight, List.length_cons]
      split <;> omega
theorem log_small {n : Int} (h1 : -1000000000000000 ≤ n) (h2 : n ≤ 1000000000000000) : n.natAbs.log2 < 60 := by
  by_cases h0 : n.natAbs = 0
  · rw [h0]; decide
  · exact (Nat.log2_lt h0).mpr (by omega)
theorem shown_ints {ns : List Int} (hl : ns.length ≤ 1000) (h : ∀ n ∈ ns, n.natAbs.log2 < 60) : (di ns).showable = true ∧ (di ns).hasDict = false ∧ (di ns).shown.length ≤ sizeLine ∧ (di ns).depth ≤ 60 := by
  obtain ⟨h1, h2, h3⟩ := show_ints ns h
  refine ⟨?_, ?_, ?_, ?_⟩
  · rw [PyData.showable]; exact h1
  · exact PyData.hasDict_of_canLay _ (by rw [PyData.canLay0]; exact lay_ints ns)
  · have := PyData.shown_le 61 (by decide) (di ns) (by rw [PyData.leavesShort]; exact h2)
    rw [PyData.weight] at this
    have e : sizeLine = 16777216 := by decide
    omega
  · rw [PyData.depth, dep_ints]; decide
theorem repr_ints {K : PySem.W.Frag} {p : Addr} {ns : List Int} {H : Hp} {Q : VK} (h : SqL K H p (ns.map V.int)) (hl : ns.length ≤ 1000) (hb : ∀ n ∈ ns, n.natAbs.log2 < 60) (q : Q (.str (di ns).shown) H) : rRepr K [.ref p] H Q := by
  obtain ⟨h1, h2, h3, h4⟩ := shown_ints hl hb
  exact ⟨p, di ns, rfl, dp_ints h, h1, h2, h3, h4, q⟩
section
variable {P : Program} {w : World} {K : PySem.W.Frag} {mg mb : Str → Option Value} {k : Nat} {fa a : Addr} {fd : FuncData} {x : Str} {sp : L2.Sp} {z : Shared} {us : List Value} {ns : List Int}
/-- the outcome that a law wants of its call -/
def Held (z : Shared) : Result → Shared → Prop := fun r z2 => r = .ok (.ret (.bool true)) ∧ OldK z.heap z2.heap ∧ z2.os = z.os ∧ AllBare z2.gens
/-- from the heap in which u alone is tracked, at the script's place (or nothing) -/
theorem held_of {u : Option HO} (hu : ∀ v, u = some v → K.lookup a = none ∧ v = .frz { cls := .type "list", data := .seq us.toArray } (.lst (ns.map V.int)))
    (kin : K.In z.heap) (g : z.heap.Ns mainGlobals mg) (bn : z.heap.Ns builtinsNs mb) (bt : ∀ x : Str, x ≠ "__name__" → mb x = bootBuiltins x) (nl : z.heap.NoLimit) (gs : z.gens = #[])
    (at_ : z.heap.get? a = some { cls := .type "list", data := .seq us.toArray }) (rv : Vals (ns.map V.int) us) (len : ns.length ≤ sizeLine) (hr : Room k callerA)
    (F : ∀ base : Heap, K.In base → base.Ns mainGlobals mg → FnG P w K mg base k fa fd [x] sp) (bd : ∀ (s : Shared) (v : Value), BindsTo s fd ⟨[v], []⟩ [(x, v)])
    (hs : SqL K (fun b => if b = a then u else none) a (ns.map V.int)) (want : ∀ H : Hp, SqL K H a (ns.map V.int) → sp [.ref a] H (fun v _ => v = .bl true) fun _ _ _ => False) :
    codeAny (model P w) callerA (.call (.ref fa) ⟨[.ref a], []⟩) (Held z) z := by
  generalize hT : (fun b => if b = a then u else none : Hp) = T at hs
  have only : ∀ {b : Addr} {v : HO}, T b = some v → b = a ∧ u = some v := fun {b v} e => by
    rw [← hT] at e
    by_cases n : b = a
    · exact ⟨n, (if_pos n).symm.trans e⟩
    · exact absurd ((if_neg n).symm.trans e) (fun z => nomatch z)
  have off : ∀ {b : Addr} {o : Obj}, z.heap.get? b = some o → (∀ es, o.data ≠ .seq us.toArray es) → T b = none := fun {b o} e d => by
    cases q : T b with
    | none => rfl
    | some v =>
      obtain ⟨rfl, _⟩ := only q
      rw [at_] at e
      exact absurd (congrArg Obj.data (Option.some.inj e)).symm (d _)
  have names : ∀ {b : Addr} {m : Str → Option Value}, z.heap.Ns b m → (hidT z.heap T).Ns b m := fun {b m} n => by
    obtain ⟨o, es, ep, e, d, r⟩ := n
    exact ⟨o, es, ep, hidT_get e (off e fun es' q => by rw [d] at q; cases q), d, r⟩
  have kin2 : K.In (hidT z.heap T) := fun b o e => hidT_get (kin b o e) (by
    cases q : T b with
    | none => rfl
    | some v =>
      obtain ⟨rfl, q2⟩ := only q
      rw [(hu v q2).1] at e
      cases e)
  have ok : HOk P w T z.heap := fun b v e => by
    obtain ⟨rfl, q2⟩ := only e
    obtain ⟨_, rfl⟩ := hu v q2
    exact ⟨at_, by rw [List.length_map]; exact len, us, _, rv, at_⟩
  obtain ⟨mc, c1, c2⟩ := nl
  have e0 : Env0 P w K mg (hidT z.heap T) callerA [] z T := ⟨rfl, ⟨kin2, names g, ⟨mb, names bn, bt⟩, ⟨mc, names c1, c2⟩⟩, fun b o e => of_hidT e, Nat.le_of_eq (hidT_size _ _), trivial, (fun b hb => nomatch hb), ok, .of_eq gs⟩
  refine codeAny_mono ((F _ kin2 (names g)).goes callerA [] z T ⟨[.ref a], []⟩ [.ref a] [.ref a] _ _ rfl hr e0 (bd z (.ref a)) (.cons rfl .nil) (want T hs)) fun res z2 hz => ?_
  match res, hz with
  | .error e, hz => exact hz.elim
  | .ok .next, hz => exact hz.elim
  | .ok .brk, hz => exact hz.elim
  | .ok .cont, hz => exact hz.elim
  | .ok (.ret v), hz =>
    obtain ⟨y, T2, os, bare, un, ok2, ry, q⟩ := hz
    have q' : y = .bl true := q
    subst q'
    obtain rfl : v = Value.bool true := ry
    refine ⟨rfl, OldK.of_keep fun b o e => ?_, os, bare⟩
    cases q2 : T b with
    | none => exact un.keep b o e q2 (fun y => nomatch y) (fun y => nomatch y)
    | some v2 =>
      obtain ⟨rfl, q3⟩ := only q2
      obtain ⟨_, rfl⟩ := hu v2 q3
      rw [at_] at e
      cases e
      exact (ok2 b _ (un.frzs b _ _ q2)).1
end
/-- the head of a law whose def asks repr -/
theorem walkG {l : PySem.W.OpenLaw} {n k : Nat} {q : Program} {loose : List Str} {XP : (Str → Option Value) → Heap → Prop} {YP : World → Heap → Prop} {d : DefRec} {K : Params → PySem.W.Frag} {sp : PySem.W.Frag → L2.Sp} {x : Str} (most : l.most = some n) (le : n ≤ sizeLine)
    (nod : d.params.defaults = []) (hr : Room k callerA) (part : ∀ (w : World) (h : Heap), YP w h → (K w.params).In h)
    (F : ∀ (w : World) (mg : Str → Option Value) (fa : Addr) (h : Heap), (K w.params).In h → h.Ns mainGlobals mg → mg d.name = some (.ref fa) →
      ∃ fd : FuncData, (∀ (s : Shared) (v : Value), BindsTo s fd ⟨[v], []⟩ [(x, v)]) ∧ ∀ base : Heap, (K w.params).In base → base.Ns mainGlobals mg → FnG l.prog w (K w.params) mg base k fa fd [x] (sp (K w.params)))
    (want : ∀ (K : PySem.W.Frag) (H : Hp) (a : Addr) (ns : List Int), ns.length ≤ n → SqL K H a (ns.map V.int) → sp K [.ref a] H (fun v _ => v = .bl true) fun _ _ _ => False) :
    PySem.W.WalkO q loose XP YP l.row.toRowW d [] (fun f vs => PySem.call f vs) := by
  refine Att.attach_call most nod fun w s0 z mg mb fa o pm cd doc a us ns G Y ho hd hcd hmg at_ hi hl gs => ?_
  have kin := part w _ Y
  obtain ⟨fd, bd, FF⟩ := F w mg fa _ kin G.T.g hmg
  have rv := vals_ints hi
  have len : ns.length ≤ sizeLine := Nat.le_trans hl le
  cases hk : (K w.params).lookup a with
  | some o2 =>
    have e := kin a o2 hk
    rw [at_] at e
    cases e
    refine held_of (u := none) (fun _ e => nomatch e) kin G.T.g G.T.b G.T.builtins G.T.nolimit gs at_ rv len hr FF bd (.inr ⟨_, us.toArray, _, hk, rfl, rfl, rfl, ?_, by simpa using rv⟩) fun H h => want _ H a ns hl h
    rw [List.size_toArray, hi.length]
    exact len
  | none =>
    exact held_of (u := some (.frz { cls := .type "list", data := .seq us.toArray } (.lst (ns.map V.int)))) (fun v e => ⟨hk, (Option.some.inj e).symm⟩) kin G.T.g G.T.b G.T.builtins G.T.nolimit gs at_ rv len hr FF bd (.inl (.inr ⟨_, if_pos rfl⟩)) fun H h => want _ H a ns hl h
end Gd
namespace Sp
open PySem L2
/-! ### rows joined -/
def spDue2 (K : PySem.W.Frag) : L2.Sp := fun vs H Q _ => ∃ (p q : Addr) (ns ms : List Int), vs = [.ref p, .ref q] ∧ SqL K H p (ns.map V.int) ∧ SqL K H q (ms.map V.int) ∧ ns.length ≤ 1000 ∧ ms.length ≤ 1000 ∧ ns.Pairwise (· ≤ ·) ∧ ms.Pairwise (· ≤ ·) ∧
  ∀ (r : Addr) (js : List Int) (H' : Hp), Same H H' → H r = none → H' r = some (.lst (js.map V.int)) → js.Perm (ns ++ ms) → js.Pairwise (· ≤ ·) → Q (.ref r) H'
def spSame2 (K : PySem.W.Frag) : L2.Sp := fun vs H Q _ => ∃ (p q : Addr) (ns : List Int), vs = [.ref p, .ref q] ∧ SqL K H p (ns.map V.int) ∧ SqL K H q (ns.map V.int) ∧ ns.length ≤ 1000 ∧ (∀ n ∈ ns, n.natAbs.log2 < 60) ∧ Q (.bl true) H
/-- two lists that are emptied from behind into a third -/
structure Left (H0 H : Hp) (p q l f : Addr) (as bs fs : List Int) : Prop where
  same : Same H0 H
  hp : H p = some (.lst (as.map V.int))
  hq : H q = some (.lst (bs.map V.int))
  hl : H l = some (.lst [.ref p, .ref q])
  hf : H f = some (.lst (fs.map V.int))
structure Off4 (H0 : Hp) (p q l f : Addr) : Prop where
  np : H0 p = none
  nq : H0 q = none
  nf : H0 f = none
  pq : p ≠ q
  pl : p ≠ l
  pf : p ≠ f
  ql : q ≠ l
  qf : q ≠ f
  lf : l ≠ f
theorem Left.up {H0 H H' : Hp} {p q l f : Addr} {as bs fs : List Int} (a : Left H0 H p q l f as bs fs) (s : Same H H') : Left H0 H' p q l f as bs fs := ⟨a.same.trans s, s _ _ a.hp, s _ _ a.hq, s _ _ a.hl, s _ _ a.hf⟩
theorem same_set {H0 H : Hp} {p : Addr} {o : HO} (n : H0 p = none) (s : Same H0 H) : Same H0 (upd H p o) := fun c x e => by
  rw [upd_ne (ne_of_none e n)]
  exact s c x e
theorem Left.popP {H0 H : Hp} {p q l f : Addr} {as bs fs : List Int} (a : Left H0 H p q l f as bs fs) (d : Off4 H0 p q l f) : Left H0 (upd H p (.lst (as.map V.int).dropLast)) p q l f as.dropLast bs fs :=
  ⟨same_set d.np a.same, by rw [upd_same, List.map_dropLast], by rw [upd_ne d.pq.symm]; exact a.hq, by rw [upd_ne d.pl.symm]; exact a.hl, by rw [upd_ne d.pf.symm]; exact a.hf⟩
theorem Left.popQ {H0 H : Hp} {p q l f : Addr} {as bs fs : List Int} (a : Left H0 H p q l f as bs fs) (d : Off4 H0 p q l f) : Left H0 (upd H q (.lst (bs.map V.int).dropLast)) p q l f as bs.dropLast fs :=
  ⟨same_set d.nq a.same, by rw [upd_ne d.pq]; exact a.hp, by rw [upd_same, List.map_dropLast], by rw [upd_ne d.ql.symm]; exact a.hl, by rw [upd_ne d.qf.symm]; exact a.hf⟩
theorem Left.put {H0 H : Hp} {p q l f : Addr} {as bs fs : List Int} (a : Left H0 H p q l f as bs fs) (d : Off4 H0 p q l f) (y : Int) : Left H0 (upd H f (.lst (fs.map V.int ++ [V.int y]))) p q l f as bs (fs ++ [y]) :=
  ⟨same_set d.nf a.same, by rw [upd_ne d.pf]; exact a.hp, by rw [upd_ne d.qf]; exact a.hq, by rw [upd_ne d.lf]; exact a.hl, by rw [upd_same, map_app1]⟩
/-- what is emptied so far: sorted from behind, none of it lesser than what is left -/
structure Merge (ns ms as bs fs : List Int) : Prop where
  pm : (as ++ bs ++ fs).Perm (ns ++ ms)
  sa : as.Pairwise (· ≤ ·)
  sb : bs.Pairwise (· ≤ ·)
  sf : fs.Pairwise (fun x y => y ≤ x)
  la : ∀ x ∈ as, ∀ y ∈ fs, x ≤ y
  lb : ∀ x ∈ bs, ∀ y ∈ fs, x ≤ y
theorem snoc_of {as : List Int} {y : Int} (h : as[as.length - 1]? = some y) : as = as.dropLast ++ [y] := by
  have hl := (List.getElem?_eq_some_iff.mp h).1
  have hn : as ≠ [] := by intro z; rw [z] at hl; simp at hl
  have e := (List.getElem?_eq_some_iff.mp h).2
  rw [← List.getLast_eq_getElem hn] at e
  rw [← e]
  exact (List.dropLast_concat_getLast hn).symm
theorem below_last {as : List Int} {y : Int} (s : as.Pairwise (· ≤ ·)) (h : as[as.length - 1]? = some y) : ∀ x ∈ as, x ≤ y := by
  rw [snoc_of h] at s ⊢
  intro x hx
  rcases List.mem_append.mp hx with z | z
  · exact (List.pairwise_append.mp s).2.2 x z y (List.mem_singleton.mpr rfl)
  · rw [List.mem_singleton.mp z]
    exact Int.le_refl _
theorem Merge.popA {ns ms as bs fs : List Int} {y : Int} (m : Merge ns ms as bs fs) (h : as[as.length - 1]? = some y) (hb : ∀ x ∈ bs, x ≤ y) : Merge ns ms as.dropLast bs (fs ++ [y]) := by
  have e := snoc_of h
  have ya : y ∈ as := by rw [e]; simp
  have sub : ∀ x ∈ as.dropLast, x ∈ as := fun x hx => List.dropLast_subset as hx
  refine ⟨?_, m.sa.sublist (List.dropLast_sublist as), m.sb, List.pairwise_append.mpr ⟨m.sf, List.pairwise_singleton _ _, fun z hz w hw => ?_⟩, fun x hx z hz => ?_, fun x hx z hz => ?_⟩
  · refine List.Perm.trans ?_ m.pm
    refine (List.perm_iff_count).mpr fun z => ?_
    have c : List.count z as = List.count z as.dropLast + List.count z [y] := by rw [← List.count_append, ← e]
    simp only [List.count_append]
    omega
  · rw [List.mem_singleton.mp hw]; exact m.la y ya z hz
  · rcases List.mem_append.mp hz with k | k
    · exact m.la x (sub x hx) z k
    · rw [List.mem_singleton.mp k]; exact below_last m.sa h x (sub x hx)
  · rcases List.mem_append.mp hz with k | k
    · exact m.lb x hx z k
    · rw [List.mem_singleton.mp k]; exact hb x hx
theorem Merge.popB {ns ms as bs fs : List Int} {y : Int} (m : Merge ns ms as bs fs) (h : bs[bs.length - 1]? = some y) (ha : ∀ x ∈ as, x ≤ y) : Merge ns ms as bs.dropLast (fs ++ [y]) := by
  have e := snoc_of h
  have yb : y ∈ bs := by rw [e]; simp
  have sub : ∀ x ∈ bs.dropLast, x ∈ bs := fun x hx => List.dropLast_subset bs hx
  refine ⟨?_, m.sa, m.sb.sublist (List.dropLast_sublist bs), List.pairwise_append.mpr ⟨m.sf, List.pairwise_singleton _ _, fun z hz w hw => ?_⟩, fun x hx z hz => ?_, fun x hx z hz => ?_⟩
  · refine List.Perm.trans ?_ m.pm
    refine (List.perm_iff_count).mpr fun z => ?_
    have c : List.count z bs = List.count z bs.dropLast + List.count z [y] := by rw [← List.count_append, ← e]
    simp only [List.count_append]
    omega
  · rw [List.mem_singleton.mp hw]; exact m.lb y yb z hz
  · rcases List.mem_append.mp hz with k | k
    · exact m.la x hx z k
    · rw [List.mem_singleton.mp k]; exact ha x hx
  · rcases List.mem_append.mp hz with k | k
    · exact m.lb x (sub x hx) z k
    · rw [List.mem_singleton.mp k]; exact below_last m.sb h x (sub x hx)
theorem Merge.begin {ns ms : List Int} (h1 : ns.Pairwise (· ≤ ·)) (h2 : ms.Pairwise (· ≤ ·)) : Merge ns ms ns ms [] := ⟨by rw [List.append_nil], h1, h2, List.Pairwise.nil, (fun _ _ _ h => nomatch h), (fun _ _ _ h => nomatch h)⟩
theorem Merge.ends {ns ms fs : List Int} (m : Merge ns ms [] [] fs) : fs.reverse.Perm (ns ++ ms) ∧ fs.reverse.Pairwise (· ≤ ·) := ⟨(List.reverse_perm fs).trans m.pm, List.pairwise_reverse.mpr m.sf⟩
theorem last_at {as : List Int} (h : as ≠ []) : ∃ y, as[as.length - 1]? = some y := ⟨_, List.getElem?_eq_getElem (by have := List.length_pos_iff.mpr h; omega)⟩
theorem at_last {as : List Int} {y : Int} (h : as[as.length - 1]? = some y) : atI (as.map V.int) (-1) = some (.int y) := by
  have hl := (List.getElem?_eq_some_iff.mp h).1
  unfold atI
  rw [List.length_map]
  have e : ixN as.length (-1) = some (as.length - 1) := by
    unfold ixN
    rw [if_neg (by omega), if_pos (by omega)]
    congr 1
    omega
  rw [e]
  show (as.map V.int)[as.length - 1]? = _
  rw [List.getElem?_map, h]
  rfl
theorem map_last {as : List Int} {y : Int} (h : as[as.length - 1]? = some y) : (as.map V.int)[(as.map V.int).length - 1]? = some (.int y) := by
  rw [List.length_map, List.getElem?_map, h]
  rfl
/-- two rows in a pair, both new -/
def spTwo2 : L2.Sp := fun vs H Q _ => ∃ (a : Addr) (b : Bool), vs = [.ref a, .bl b] ∧ HandAt H a ∧
  ∀ (t p q : Addr) (ns ms : List Int) (H' : Hp), Ext a H H' → H' t = some (.tup [.ref p, .ref q]) → t ≠ a → RowAt H' a p ns → RowAt H' a q ms → H p = none → H q = none → Q (.ref t) H'
/-- all stays but what stands at l -/
def Kp (l : Addr) (H H' : Hp) : Prop := ∀ b o, H b = some o → b ≠ l → H' b = some o
theorem Kp.refl {l : Addr} {H : Hp} : Kp l H H := fun _ _ h _ => h
theorem Kp.trans {l : Addr} {H H1 H2 : Hp} (a : Kp l H H1) (b : Kp l H1 H2) : Kp l H H2 := fun c o h n => b c o (a c o h n) n
theorem Kp.same {l : Addr} {H H' : Hp} (s : Same H H') : Kp l H H' := fun c o h _ => s c o h
theorem Kp.set {l : Addr} {H : Hp} {o : HO} : Kp l H (upd H l o) := fun c x h n => by rw [upd_ne n]; exact h
theorem Kp.made {l : Addr} {H H1 H2 : Hp} (s : Same H H1) (k : Kp l H1 H2) (n : H l = none) : Same H H2 := fun c o h => k c o (s c o h) (ne_of_none h n)
/-- both lists of a pair of lists are alike -/
def Ent (H : Hp) (l e : Addr) : Prop := ∃ (u v : Addr) (js : List Int), e ≠ l ∧ u ≠ l ∧ v ≠ l ∧ H e = some (.lst [.ref u, .ref v]) ∧ H u = some (.lst (js.map V.int)) ∧ H v = some (.lst (js.map V.int)) ∧ js.length ≤ 1000 ∧ ∀ n ∈ js, n.natAbs.log2 < 60
theorem Ent.up {H H' : Hp} {l e : Addr} (k : Kp l H H') (x : Ent H l e) : Ent H' l e := by
  obtain ⟨u, v, js, n1, n2, n3, e1, e2, e3, r⟩ := x
  exact ⟨u, v, js, n1, n2, n3, k _ _ e1 n1, k _ _ e2 n2, k _ _ e3 n3, r⟩
/-- within a comprehension: the written part by its own name -/
theorem ix_listK {X : Cx} {K : PySem.W.Frag} (hK : X.K = K) : IxR X (rIxL K) := hK ▸ ix_list
end Sp

/-! a lambda of one name, handed to a def as its fourth argument. -/
namespace Lm
open PySem PySem.Spec PyProof.Rows L2 LamX NdefX
/-- a lambda's words, as a function of the layer; its body is told apart -/
abbrev lamF (qual : Str) (params : Arguments) (scope : Scope) (cl : List (Str × Addr)) (c : Addr) : NF := ⟨"<lambda>", qual, params, [], scope, cl, c⟩
section
variable {P : Program} {w : World} {K : PySem.W.Frag} {mg : Str → Option Value} {base : Heap} {N fr : List Str} {F : NF} {y : Str} {body : Expr} {f : Addr} {pm ctv u : Value} {A : Around} {outer : List Env} {s : Shared} {H : Hp} {ws : List (Option V)} {v : V} {tb : TE} {Q : VK} {k : Nat}
/-- it runs -/
theorem run_lam (S : NScope N [y] fr F.scope) (hb : bindArgs (PySem.W.kla_fn "<lambda>" F.qual F.params body F.scope F.cl pm (.ref F.c) ctv) ⟨[u], []⟩ = pure [(y, u)]) (room : Room (k + 1) A) (e0 : Env0 P w K mg base A outer s H)
    (at_ : s.heap.get? f = some (PySem.W.kla_obj "<lambda>" F.qual F.params body F.scope F.cl pm F.c ctv)) (cd : H F.c = some (CodeO F.c F.qual)) (C : CellsAt F.cl fr ws s.heap H) (rv : RelV v u)
    (go : Room k (A.deeper (envF F f s.heap.objs.size)) → PE (ncx L2.CX0 P w K mg base N F f A outer s H L2.E0) body tb) (q : tb (startF N [v] ws) H Q) :
    codeAny (model P w) A (.call (.ref f) ⟨[u], []⟩) (CR L2.CX0 outer P w H s Q L2.E0) s := by
  have nl : s.heap.NoLimit := e0.mod.nolimit.keeps fun b o e => (e0.bs b o e).1
  refine PySem.W.kla_callFunE room.depth at_ rfl S.co S.gen rfl (codeO_at e0.hok cd) ?_
  rw [hb]
  refine wpAny_pure (wpAny_newFunctionEnv (fun z hz => S.nocell z hz) (fun z hz => ?_) (fun h1 hn hs => ⟨nl.fresh _ hs, ?_⟩) S.kind)
  · obtain rfl : z = (y, u) := List.mem_singleton.mp hz
    exact S.par y (List.mem_singleton.mpr rfl)
  have keep : ∀ b o, s.heap.get? b = some o → h1.get? b = some o := fun b o e => hs.extBut b o (Nat.ne_of_lt (Heap.lt_size e)) (Heap.get?_push_of_some _ e)
  have J := inv_startN (E := L2.E0) (CX := L2.CX0) (f := f) (tk := s.toks + [(y, u)].length) S room.hd e0 (vs := [v]) (us := [u]) rfl (.cons rv .nil) C hn keep
  refine PySem.W.kla_codeExpr (wpAny_mono ((go (room.deeper _)).run [] _ _ H Q J q) (fun a z hz => ?_) fun _ _ hz => hz)
  obtain ⟨a', H2, J2, ra, q2⟩ := hz
  exact ⟨a', H2, J2.os, J2.bare, J2.base, J2.hok, ra, q2⟩
end
section
variable {X : Cx} {pins : List (Addr × Obj)} {σ : L2.St} {H : Hp} {s : Shared}
/-- what captured cells hold stays, whatever the running def's callers' frames are -/
theorem later {cl : List (Str × Addr)} {fr : List Str} {ws : List (Option V)} (C : CellsAt cl fr ws X.s_0.heap X.H_0) (hx : ∀ y c, cl.lookup y = some c → c ∉ X.ex) (I : Inv X pins σ H s) : CellsAt cl fr ws s.heap H := by
  have stay : ∀ y c, cl.lookup y = some c → ∀ v, X.s_0.heap.IsCell c v → s.heap.IsCell c v := fun y c e v z => by
    obtain ⟨o, ho, hd⟩ := z
    obtain ⟨sl, q⟩ := I.base.any ho (C.all y c e).1 (hx y c e)
    exact ⟨_, q, hd⟩
  refine ⟨C.len, fun y c e => ?_, C.inj, fun i y e => ?_⟩
  · obtain ⟨n, v, z⟩ := C.all y c e
    obtain ⟨o, ho, hd⟩ := id z
    exact ⟨I.base.free c o ho n (hx y c e), v, stay y c e v z⟩
  · obtain ⟨c, hc, hv⟩ := C.has i y e
    refine ⟨c, hc, fun v ev => ?_⟩
    obtain ⟨u, r, z⟩ := hv v ev
    exact ⟨u, r, stay y c hc _ z⟩
/-- a(e), in the def that got the lambda as its name a: Z is that def's context, entered at s -/
theorem pe_act {Ng N fr : List Str} {qg : Str} {sg : Scope} {g f : Addr} {cdg pm ctv : Value} {F : NF} {y a : Str} {body e : Expr} {ws : List (Option V)} {k i : Nat} {te tb : TE} {p1 p2 : Pos} (S : NScope N [y] fr F.scope)
    (hb : ∀ (pm ctv u : Value), bindArgs (PySem.W.kla_fn "<lambda>" F.qual F.params body F.scope F.cl pm (.ref F.c) ctv) ⟨[u], []⟩ = pure [(y, u)]) (at_ : s.heap.get? f = some (PySem.W.kla_obj "<lambda>" F.qual F.params body F.scope F.cl pm F.c ctv)) (off : H f = none) (nfr : f ∉ frs X.stack)
    (C : CellsAt F.cl fr ws s.heap H) (room : Room (k + 1) (X.A.deeper (envOfC qg sg s.heap.objs.size g cdg)))
    (go : ∀ (A : Around) (outer : List Env) (s : Shared) (H : Hp), Room k (A.deeper (envF F f s.heap.objs.size)) → PE (ncx L2.CX0 X.prog X.w X.K X.mg X.base N F f A outer s H L2.E0) body tb)
    (he : PE (cxOf L2.CX0 X.prog X.w X.K X.mg X.base Ng qg sg g cdg X.A X.stack s H L2.E0).nox e te) (hN : Ng[i]? = some a) (hv : Vis sg a) (h1 : (a == ("__debug__" : Str)) = false := by decide) (h2 : (a == ("__classdict__" : Str)) = false := by decide)
    (hs : starEach [e] (cxOf L2.CX0 X.prog X.w X.K X.mg X.base Ng qg sg g cdg X.A X.stack s H L2.E0).nox.env = (false, eval e (cxOf L2.CX0 X.prog X.w X.K X.mg X.base Ng qg sg g cdg X.A X.stack s H L2.E0).nox.env) :: starEach [] (cxOf L2.CX0 X.prog X.w X.K X.mg X.base Ng qg sg g cdg X.A X.stack s H L2.E0).nox.env := by rfl) :
    PE (cxOf L2.CX0 X.prog X.w X.K X.mg X.base Ng qg sg g cdg X.A X.stack s H L2.E0).nox (.Call (.Name a p1) [e] [] p2)
      (fun σZ HZ Q => σZ[i]? = some (some (.ref f)) ∧ te σZ HZ fun v H2 => H2 F.c = some (CodeO F.c F.qual) ∧ tb (startF N [v] ws) H2 Q) := by
  refine ⟨fun pz z σZ HZ Q J h => ?_⟩
  obtain ⟨slot, h⟩ := h
  refine wpAny_Call_Name_kw (thn ((pe_var (pos := p1) (i := i) hN hv h1 h2).run pz z σZ HZ (fun v H1 => v = .ref f ∧ H1 = HZ) J ⟨.ref f, slot, rfl, rfl⟩) fun u z1 ⟨v, H1, J1, r1, q1⟩ => ?_)
  obtain ⟨rfl, rfl⟩ := q1
  obtain rfl : u = Value.ref f := r1
  have stays : ∀ {pz : List (Addr × Obj)} {σ2 : L2.St} {H2 : Hp} {z2 : Shared}, Inv (cxOf L2.CX0 X.prog X.w X.K X.mg X.base Ng qg sg g cdg X.A X.stack s H L2.E0).nox pz σ2 H2 z2 → z2.heap.get? f = some (PySem.W.kla_obj "<lambda>" F.qual F.params body F.scope F.cl pm F.c ctv) :=
    fun J2 => J2.base.keep f _ at_ off nfr (fun z => nomatch (show f ∈ ([] : List Addr) from z))
  refine PySem.W.callWith_F (first := []) ⟨_, _, _, _, stays J1⟩ (thn ((pa_cons he pa_nil hs).run p2 pz z1 σZ H1 (fun vs H2 => match vs with | [v] => H2 F.c = some (CodeO F.c F.qual) ∧ tb (startF N [v] ws) H2 Q | _ => False) J1 h) fun us z2 ⟨vs, H2, J2, r, hq⟩ => ⟨⟨_, _, _, _, stays J2⟩, ?_⟩) hs (by rfl)
  match r, hq with
  | .cons ra .nil, hq =>
    obtain ⟨hc, hq⟩ := hq
    have C2 : CellsAt F.cl fr ws z2.heap H2 := later (X := (cxOf L2.CX0 X.prog X.w X.K X.mg X.base Ng qg sg g cdg X.A X.stack s H L2.E0).nox) C (fun _ _ _ z => nomatch (show _ ∈ ([] : List Addr) from z)) J2
    refine wpAny_call (codeAny_mono (run_lam (k := k) S (hb pm ctv _) room J2.env0 (stays J2) hc C2 ra (go _ _ _ _) hq) fun res z3 hz => ?_)
    cases res with
    | error ex => exact hz.elim
    | ok fl =>
      cases fl with
      | ret u => exact J2.after hz
      | next => exact hz.elim
      | brk => exact hz.elim
      | cont => exact hz.elim
/-- what a def does with a reading tl of the function that it gets, told of three values -/
abbrev Tell := (V → Hp → VK → Prop) → V → V → V → Hp → VK → Prop
/-- the def that calls what it got under the name a -/
def Gets (P : Program) (w : World) (K : PySem.W.Frag) (mg : Str → Option Value) (base : Heap) (Ng : List Str) (x : Str) (st : Stmt) (g : Addr) (a : Str) (k : Nat) (TT : Tell) : Prop :=
  ∀ (cdg : Value) (A : Around) (outer : List Env) (s : Shared) (H : Hp) (v1 v2 v3 : V) (f : Addr) (Q : VK) (tl : V → Hp → VK → Prop), Room k (A.deeper (envOfC x (defScope st) s.heap.objs.size g cdg)) →
    (∀ (e : Expr) (te : TE) (p1 p2 : Pos), PE (cxOf L2.CX0 P w K mg base Ng x (defScope st) g cdg A outer s H L2.E0).nox e te →
      starEach [e] (cxOf L2.CX0 P w K mg base Ng x (defScope st) g cdg A outer s H L2.E0).nox.env = (false, eval e (cxOf L2.CX0 P w K mg base Ng x (defScope st) g cdg A outer s H L2.E0).nox.env) :: starEach [] (cxOf L2.CX0 P w K mg base Ng x (defScope st) g cdg A outer s H L2.E0).nox.env →
      PE (cxOf L2.CX0 P w K mg base Ng x (defScope st) g cdg A outer s H L2.E0).nox (.Call (.Name a p1) [e] [] p2) (fun σZ HZ Q => σZ[3]? = some (some (.ref f)) ∧ te σZ HZ fun v H2 => tl v H2 Q)) →
    TT tl v1 v2 v3 H Q →
    ∃ t, PSs (cxOf L2.CX0 P w K mg base Ng x (defScope st) g cdg A outer s H L2.E0).nox (defBody st) t ∧ t { nx := fun _ H2 => Q .non H2, rt := Q } (start Ng [v1, v2, v3, .ref f]) H
def tLam4 (T : List (Addr × Str)) (q : Str) (TT : Tell) (N : List Str) (js : List Nat) (t1 t2 t3 tb : TE) : TE := fun σ H Q => t1 σ H fun v1 H1 => t2 σ H1 fun v2 H2 => t3 σ H2 fun v3 H3 => Tabs T H3 ∧
  ∀ (c : Addr) (H4 : Hp), ExtN H3 H4 → Tabs T H4 → H4 c = some (CodeO c q) → TT (fun v H5 Q2 => H5 c = some (CodeO c q) ∧ tb (startF N [v] (js.map (slotAt σ))) H5 Q2) v1 v2 v3 H4 Q
/-- x(e1, e2, e3, lambda y: body) -/
theorem pe_lam4 {T : List (Addr × Str)} {TT : Tell} {x a y : Str} {g c P : Addr} {k : Nat} {st : Stmt} {fdg : FuncData} {Ng N fr : List Str} {js : List Nat} {ps : List Str} {params : Arguments} {body e1 e2 e3 : Expr} {scope : Scope} {t1 t2 t3 tb : TE} {p lpos pos : Pos}
    (Fg : Fun X.K x x st g fdg) (Sg : FnScope Ng ps (defScope st)) (hm : X.mg x = some (.ref g)) (hgl : Gl X x) (hbg : Binds X.K fdg ps []) (hps : ps.length = 4) (hNg : Ng[3]? = some a) (hva : Vis (defScope st) a)
    (hG : Gets X.prog X.w X.K X.mg X.base Ng x st g a (k + 1) TT)
    (TB : TabB X.base X.mg c P) (hcode : X.env.code = .ref c) (hmT : (P, X.env.qual ++ "<lambda>") ∈ T) (hu : ∀ p ∈ T, p.1 = P → p.2 = X.env.qual ++ "<lambda>") (hr : Room (k + 2) X.A)
    (S : NScope N [y] fr scope) (hfree : ∀ y ∈ scope.names, y.2 = .free → X.env.scope.names.lookup y.1 = some .cell ∨ X.env.scope.names.lookup y.1 = some .free) (hfr : ∀ y ∈ fr, (y, NameKind.free) ∈ scope.names) (hjs : js.map (fun j => X.N[j]?) = fr.map some)
    (hdef : defaultsOf params X.env = ([], [])) (hb : ∀ (q : Str) (cl : List (Str × Addr)) (pm cv ctv u : Value), bindArgs (PySem.W.kla_fn "<lambda>" q params body scope cl pm cv ctv) ⟨[u], []⟩ = pure [(y, u)])
    (go : ∀ (q : Str) (cl : List (Str × Addr)) (c f : Addr) (A : Around) (outer : List Env) (s : Shared) (H : Hp), Room k (A.deeper (envF (lamF q params scope cl c) f s.heap.objs.size)) → PE (ncx L2.CX0 X.prog X.w X.K X.mg X.base N (lamF q params scope cl c) f A outer s H L2.E0) body tb)
    (h1 : PE X e1 t1) (h2 : PE X e2 t2) (h3 : PE X e3 t3)
    (hdb : (x == ("__debug__" : Str)) = false := by decide) (hd : (a == ("__debug__" : Str)) = false := by decide) (hcd : (a == ("__classdict__" : Str)) = false := by decide)
    (z1 : starEach [e1, e2, e3, .Lambda params body scope lpos] X.env = (false, eval e1 X.env) :: starEach [e2, e3, .Lambda params body scope lpos] X.env := by rfl) (z2 : starEach [e2, e3, .Lambda params body scope lpos] X.env = (false, eval e2 X.env) :: starEach [e3, .Lambda params body scope lpos] X.env := by rfl)
    (z3 : starEach [e3, .Lambda params body scope lpos] X.env = (false, eval e3 X.env) :: starEach [.Lambda params body scope lpos] X.env := by rfl) (hpl : (backTo pos (starEach [e2, e3, .Lambda params body scope lpos] X.env)).any (·.1) = false := by rfl) :
    PE X (.Call (.Name x p) [e1, e2, e3, .Lambda params body scope lpos] [] pos) (tLam4 T (X.env.qual ++ "<lambda>") TT N js t1 t2 t3 tb) := by
  refine ⟨fun pins s σ H Q I h => ?_⟩
  refine wpAny_Call_Name_kw (ld_glob I hgl hm ?_ hdb)
  refine PySem.W.callWith_K (h₀ := X.base) I.ok.mod.kin Fg.kp ?_ z1 hpl
  rw [z1]
  show wpAny _ _ (spliced ((false, eval e1 X.env) :: backTo pos (starEach [e2, e3, .Lambda params body scope lpos] X.env))) _ _ s
  refine Calls.spliced_cons (thn (h1.run pins s σ H _ I h) fun u1 s1 ⟨v1, H1, I1, r1, h⟩ => ?_)
  rw [z2]
  show wpAny _ _ (spliced ((false, eval e2 X.env) :: backTo pos (starEach [e3, .Lambda params body scope lpos] X.env))) _ _ s1
  refine Calls.spliced_cons (thn (h2.run pins s1 σ H1 _ I1 h) fun u2 s2 ⟨v2, H2, I2, r2, h⟩ => ?_)
  rw [z3]
  show wpAny _ _ (spliced ((false, eval e3 X.env) :: backTo pos (starEach [.Lambda params body scope lpos] X.env))) _ _ s2
  refine Calls.spliced_cons (thn (h3.run pins s2 σ H2 _ I2 h) fun u3 s3 ⟨v3, H3, I3, r3, hT, h⟩ => ?_)
  show wpAny _ _ (spliced ((false, eval (.Lambda params body scope lpos) X.env) :: backTo pos (starEach [] X.env))) _ _ s3
  have hfree' : ∀ y ∈ scope.names, y.2 = .free → ∃ c, X.env.cells.lookup y.1 = some c := fun y hy e => (hfree y hy e).elim (fun z => I3.ok.has _ (.inl z)) fun z => I3.ok.has _ (.inr z)
  refine Calls.spliced_cons (lam_make2 I3 TB hcode hmT hu hT hdef hfree' fun f c' pm ctv H4 s4 I4 x4 T4 at_ off nfr hc => ?_)
  refine Calls.spliced_nil ⟨I4.kIn, ?_⟩
  have caps := Caps.made (fr := fr) (js := js) I4.ok hfree hfr hjs
  have C := cells_of I4 caps
  obtain ⟨oc, od, kV, doc, pmg, an, cdv, ct, osl, rfl, lk, hcd2⟩ := Fg.ex
  have rc : codeAny (model X.prog X.w) X.A (.call (.ref g) ⟨[u1, u2, u3, .ref f], []⟩) (CR L2.CX0 X.stack X.prog X.w H4 s4 Q L2.E0) s4 := by
    have bd := hbg s4 [u1, u2, u3, .ref f] I4.kIn (by rw [hps]; rfl)
    refine run_ofS (k := k + 1) (N := Ng) (ps := ps) (us := [u1, u2, u3, .ref f]) (vs := [v1, v2, v3, .ref f]) lk hcd2 Sg hr I4.env0 bd (.cons r1 (.cons r2 (.cons r3 (.cons rfl .nil)))) (by rw [hps]; rfl) fun hr' => ?_
    obtain ⟨t', ht', hq'⟩ := hG cdv X.A X.stack s4 H4 v1 v2 v3 f Q (fun v H5 Q2 => H5 c' = some (CodeO c' (X.env.qual ++ "<lambda>")) ∧ tb (startF N [v] (js.map (slotAt σ))) H5 Q2) hr'
      (fun e te p1 p2 he hs => pe_act (F := lamF (X.env.qual ++ "<lambda>") params scope (cloFrom X.env.cells scope.names []) c') (i := 3) S (fun pm ctv u => hb _ _ _ _ _ _) at_ off nfr C hr' (fun A outer s H hr2 => go _ _ _ _ A outer s H hr2) he hNg hva hd hcd hs) (h c' H4 x4 T4 hc)
    exact ⟨t', ht'.nox, hq'⟩
  refine wpAny_call (codeAny_mono rc fun r s2 hq => ?_)
  cases r with
  | error e => exact hq.elim
  | ok fl =>
    cases fl with
    | ret u => exact I4.after hq
    | next => exact hq.elim
    | brk => exact hq.elim
    | cont => exact hq.elim
end
/-- a def of the text whose code object stands at c -/
structure FunC (K : PySem.W.Frag) (x qual : Str) (st : Stmt) (f : Addr) (fd : FuncData) (c : Addr) : Prop where
  ex : ∃ (oc : Value) (od : Option Addr) (kV doc pm : Value) (an : Option Addr) (ct : Value) (osl : Array (Option Value)),
    fd = PySem.W.fnOf x qual (defArgs st) (defBody st) (defScope st) .none kV doc pm an (.ref c) ct ∧ K.lookup f = some ⟨oc, od, .func fd, osl⟩ ∧ PySem.W.codeIn K (.ref c) qual = true
  kp : PySem.W.keepIn K (.ref f) = true
theorem FunC.fun {K : PySem.W.Frag} {x qual : Str} {st : Stmt} {f : Addr} {fd : FuncData} {c : Addr} (F : FunC K x qual st f fd c) : L2.Fun K x qual st f fd := by
  obtain ⟨oc, od, kV, doc, pm, an, ct, osl, e, l, h⟩ := F.ex
  exact ⟨⟨oc, od, kV, doc, pm, an, .ref c, ct, osl, e, l, h⟩, F.kp⟩
theorem func_mk {K : PySem.W.Frag} {x qual : Str} {st : Stmt} {f c : Addr} {oc : Value} {od an : Option Addr} {osl : Array (Option Value)} {kV doc pm ct : Value} (l : K.lookup f = some ⟨oc, od, .func (PySem.W.fnOf x qual (defArgs st) (defBody st) (defScope st) .none kV doc pm an (.ref c) ct), osl⟩)
    (h : PySem.W.codeIn K (.ref c) qual = true) (k : PySem.W.keepIn K (.ref f) = true) : FunC K x qual st f (PySem.W.fnOf x qual (defArgs st) (defBody st) (defScope st) .none kV doc pm an (.ref c) ct) c := ⟨⟨oc, od, kV, doc, pm, an, ct, osl, rfl, l, h⟩, k⟩
theorem FunC.ok {P : Program} {w : World} {K : PySem.W.Frag} {mg : Str → Option Value} {base : Heap} {x qual : Str} {st : Stmt} {f c : Addr} {fd : FuncData} {N ps : List Str} {k : Nat} {sp : L2.Sp} (F : FunC K x qual st f fd c) (S : FnScope N ps (defScope st)) (many : ∀ vs H Q E, sp vs H Q E → vs.length = ps.length)
    (go : ∀ (A : Around) (outer : List Env) (s : Shared) (H : Hp) (vs : List V) (Q : VK) (E : XK), Room k (A.deeper (envOfC qual (defScope st) s.heap.objs.size f (.ref c))) → sp vs H Q E →
      ∃ t, PSs (cxOf L2.CX0 P w K mg base N qual (defScope st) f (.ref c) A outer s H E).nox (defBody st) t ∧ t { nx := fun _ H2 => Q .non H2, rt := Q } (start N vs) H) : FnOk P w K mg base L2.CX0 (k + 1) f fd ps sp := by
  obtain ⟨oc, od, kV, doc, pm, an, ct, osl, rfl, l, h⟩ := F.ex
  exact fn_of l h S many fun A outer s H vs Q E hr q => (go A outer s H vs Q E hr q).imp fun t z => ⟨z.1.nox, z.2⟩
/-- where the table of a def's code object lies -/
theorem tab_at {K : PySem.W.Frag} {x qual : Str} {st : Stmt} {f c P : Addr} {oc e : Value} {od dd an : Option Addr} {osl sl : Array (Option Value)} {kV doc pm ct : Value} {vs : Array Value} (a : PySem.W.nsIn K mainGlobals x = some (some (.ref f)))
    (l : K.lookup f = some ⟨oc, od, .func (PySem.W.fnOf x qual (defArgs st) (defBody st) (defScope st) .none kV doc pm an (.ref c) ct), osl⟩) (lc : K.lookup c = some ⟨e, dd, .fields vs, sl⟩) (h : vs[11]? = some (.ref P)) : PySem.W.tabIn K x = some (c, P) := by
  unfold PySem.W.tabIn
  rw [a]
  dsimp only
  rw [l]
  dsimp only [PySem.W.fnOf]
  rw [lc]
  dsimp only
  rw [h]
/-- the search for a number, halving: what number_at does with the count that it gets -/
def TNum : Tell := fun tl v1 v2 v3 H Q => ∃ (n lo hi : Int) (G : Int → Int), v1 = .int n ∧ v2 = .int lo ∧ v3 = .int hi ∧ (∀ m H1 Q2, Same H H1 → (∀ H2, Same H1 H2 → Q2 (.int (G m)) H2) → tl (.int m) H1 Q2) ∧ lo ≤ hi ∧ G lo ≤ n ∧ n < G (hi + 1) ∧
  ∀ r H1, Same H H1 → lo ≤ r → r ≤ hi → G r ≤ n → n < G (r + 1) → Q (.int r) H1
end Lm

/-! the head of a law some of whose defs make a lambda: tables of code objects are tracked from the start. -/
namespace Gd
open PySem PySem.Spec PyProof.Rows L2 Sp LamX
theorem FnG.of {P : Program} {w : World} {K : PySem.W.Frag} {mg : Str → Option Value} {base : Heap} {k : Nat} {f : Addr} {fd : FuncData} {ps : List Str} {sp : L2.Sp} (F : FnOk P w K mg base CX0 k f fd ps sp) : FnG P w K mg base k f fd ps sp :=
  ⟨F.len, fun B fs z H ws us vs Q E _ hr e0 b r h => F.run B fs z H ws us vs Q E hr e0 b r h⟩
section
variable {P : Program} {w : World} {K : PySem.W.Frag} {mg mb : Str → Option Value} {k : Nat} {fa a : Addr} {fd : FuncData} {x : Str} {sp : L2.Sp} {z : Shared} {us : List Value} {ns : List Int}
/-- tracked: u at the script's place, an empty table at each place of ts -/
def firstH (a : Addr) (u : Option HO) (ts : List Addr) : Hp := fun b => if b = a then u else if b ∈ ts then some (.tbl #[]) else none
/-- the module's own dict is known -/
abbrev MainAt (mg : Str → Option Value) (h : Heap) : Prop := ∃ (bm : Addr) (ob : Obj), mg "__builtins__" = some (.ref bm) ∧ bm ≠ builtinsNs ∧ h.get? bm = some ob ∧ ob.cls = .type "module" ∧ ob.dict = some builtinsNs ∧ ob.data = .plain
theorem held_ofT {cs : List (Addr × Addr)} {u : Option HO} (hu : ∀ v, u = some v → K.lookup a = none ∧ v = .frz { cls := .type "list", data := .seq us.toArray } (.lst (ns.map V.int)))
    (kin : K.In z.heap) (g : z.heap.Ns mainGlobals mg) (bn : z.heap.Ns builtinsNs mb) (bt : ∀ x : Str, x ≠ "__name__" → mb x = bootBuiltins x) (nl : z.heap.NoLimit) (gs : z.gens = #[]) (bm : MainAt mg z.heap)
    (empty : ∀ p ∈ cs, z.heap.get? p.2 = some { cls := .none, data := .fields #[] }) (nK : ∀ p ∈ cs, K.lookup p.2 = none) (code : ∀ p ∈ cs, PySem.W.CodeHd z.heap p.1 p.2)
    (at_ : z.heap.get? a = some { cls := .type "list", data := .seq us.toArray }) (rv : Vals (ns.map V.int) us) (len : ns.length ≤ sizeLine) (hr : Room k callerA)
    (F : ∀ base : Heap, K.In base → base.Ns mainGlobals mg → (∀ p ∈ cs, TabB base mg p.1 p.2) → FnG P w K mg base k fa fd [x] sp) (bd : ∀ (s : Shared) (v : Value), BindsTo s fd ⟨[v], []⟩ [(x, v)])
    (hs : SqL K (firstH a u (cs.map (·.2))) a (ns.map V.int)) (want : ∀ H : Hp, (∀ p ∈ cs, H p.2 = some (.tbl #[])) → SqL K H a (ns.map V.int) → sp [.ref a] H (fun v _ => v = .bl true) fun _ _ _ => False) :
    codeAny (model P w) callerA (.call (.ref fa) ⟨[.ref a], []⟩) (Held z) z := by
  have emp : ∀ b ∈ cs.map (·.2), z.heap.get? b = some { cls := .none, data := .fields #[] } := fun b hb => by
    obtain ⟨p, hp, rfl⟩ := List.mem_map.mp hb
    exact empty p hp
  have na : a ∉ cs.map (·.2) := fun m => by
    have e := emp a m
    rw [at_] at e
    have e2 := congrArg Obj.cls (Option.some.inj e)
    cases e2
  generalize hT : firstH a u (cs.map (·.2)) = T at hs
  have only : ∀ {b : Addr} {v : HO}, T b = some v → (b = a ∧ u = some v) ∨ (b ∈ cs.map (·.2) ∧ v = .tbl #[]) := fun {b v} e => by
    rw [← hT] at e
    unfold firstH at e
    by_cases n : b = a
    · exact .inl ⟨n, (if_pos n).symm.trans e⟩
    · rw [if_neg n] at e
      by_cases m : b ∈ cs.map (·.2)
      · rw [if_pos m] at e
        exact .inr ⟨m, (Option.some.inj e).symm⟩
      · rw [if_neg m] at e
        cases e
  have tabs : ∀ p ∈ cs, T p.2 = some (.tbl #[]) := fun p hp => by
    have m : p.2 ∈ cs.map (·.2) := List.mem_map.mpr ⟨p, hp, rfl⟩
    rw [← hT]
    unfold firstH
    rw [if_neg (show ¬ p.2 = a from fun e => na (by rw [← e]; exact m)), if_pos m]
  have off : ∀ {b : Addr} {o : Obj}, z.heap.get? b = some o → (∀ es, o.data ≠ .seq us.toArray es) → o.data ≠ .fields #[] → T b = none := fun {b o} e d d2 => by
    cases q : T b with
    | none => rfl
    | some v =>
      rcases only q with ⟨rfl, _⟩ | ⟨m, _⟩
      · rw [at_] at e
        exact absurd (congrArg Obj.data (Option.some.inj e)).symm (d _)
      · rw [emp b m] at e
        exact absurd (congrArg Obj.data (Option.some.inj e)).symm d2
  have names : ∀ {b : Addr} {m : Str → Option Value}, z.heap.Ns b m → (hidT z.heap T).Ns b m := fun {b m} n => by
    obtain ⟨o, es, ep, e, d, r⟩ := n
    exact ⟨o, es, ep, hidT_get e (off e (fun es' q => by rw [d] at q; cases q) (fun q => by rw [d] at q; cases q)), d, r⟩
  have kin2 : K.In (hidT z.heap T) := fun b o e => hidT_get (kin b o e) (by
    cases q : T b with
    | none => rfl
    | some v =>
      rcases only q with ⟨rfl, q2⟩ | ⟨m, _⟩
      · rw [(hu v q2).1] at e
        cases e
      · obtain ⟨p, hp, rfl⟩ := List.mem_map.mp m
        rw [nK p hp] at e
        cases e)
  have ok : HOk P w T z.heap := fun b v e => by
    rcases only e with ⟨rfl, q2⟩ | ⟨m, rfl⟩
    · obtain ⟨_, rfl⟩ := hu v q2
      exact ⟨at_, by rw [List.length_map]; exact len, us, _, rv, at_⟩
    · exact emp b m
  have TB : ∀ p ∈ cs, TabB (hidT z.heap T) mg p.1 p.2 := fun p hp => by
    have e0 := empty p hp
    constructor
    · obtain ⟨o, vs, file, tf, flags, tg, inF, text, tt, e1, r1, r2, r3, r⟩ := code p hp
      refine ⟨o, vs, file, tf, flags, tg, inF, text, tt, hidT_get e1 (off e1 (fun es q => ?_) (fun q => ?_)), r1, r2, r3, r⟩
      · rw [r2] at q
        cases q
      · rw [r2] at q
        cases q
        simp at r3
    · obtain ⟨b, ob, b1, b2, b3, b4, b5, b6⟩ := bm
      refine ⟨b, ob, b1, b2, fun q => ?_, fun q => ?_, hidT_get b3 (off b3 (fun es q => ?_) (fun q => ?_)), b4, b5, b6⟩
      · obtain ⟨o, es, ep, e, d, _⟩ := g
        rw [q, e] at b3
        cases b3
        rw [d] at b6
        cases b6
      · rw [q, e0] at b3
        cases b3
        cases b6
      · rw [b6] at q
        cases q
      · rw [b6] at q
        cases q
    · intro q
      obtain ⟨o, es, ep, e, d, _⟩ := g
      rw [q, e0] at e
      cases e
      cases d
  obtain ⟨mc, c1, c2⟩ := nl
  have e0 : Env0 P w K mg (hidT z.heap T) callerA [] z T := ⟨rfl, ⟨kin2, names g, ⟨mb, names bn, bt⟩, ⟨mc, names c1, c2⟩⟩, fun b o e => of_hidT e, Nat.le_of_eq (hidT_size _ _), trivial, (fun b hb => nomatch hb), ok, .of_eq gs⟩
  refine codeAny_mono ((F _ kin2 (names g) TB).goes callerA [] z T ⟨[.ref a], []⟩ [.ref a] [.ref a] _ _ rfl hr e0 (bd z (.ref a)) (.cons rfl .nil) (want T tabs hs)) fun res z2 hz => ?_
  match res, hz with
  | .error e, hz => exact hz.elim
  | .ok .next, hz => exact hz.elim
  | .ok .brk, hz => exact hz.elim
  | .ok .cont, hz => exact hz.elim
  | .ok (.ret v), hz =>
    obtain ⟨y, T2, os, bare, un, ok2, ry, q⟩ := hz
    have q' : y = .bl true := q
    subst q'
    obtain rfl : v = Value.bool true := ry
    have same : ∀ b o, b ∉ cs.map (·.2) → z.heap.get? b = some o → z2.heap.get? b = some o := fun b o nb e => by
      cases q2 : T b with
      | none => exact un.keep b o e q2 (fun y => nomatch y) (fun y => nomatch y)
      | some v2 =>
        rcases only q2 with ⟨rfl, q3⟩ | ⟨m, _⟩
        · obtain ⟨_, rfl⟩ := hu v2 q3
          rw [at_] at e
          cases e
          exact (ok2 b _ (un.frzs b _ _ q2)).1
        · exact absurd m nb
    have more : ∀ p ∈ cs, ∃ m : Array Value, z2.heap.get? p.2 = some { cls := .none, data := .fields m } := fun p hp => by
      obtain ⟨m, e⟩ := un.tbls p.2 #[] (tabs p hp)
      exact ⟨_, ok2 p.2 _ e⟩
    refine ⟨rfl, ⟨fun b o e => ?_, fun b o e => ?_⟩, os, bare⟩
    · by_cases m : b ∈ cs.map (·.2)
      · obtain ⟨p, hp, rfl⟩ := List.mem_map.mp m
        rw [empty p hp] at e
        cases e
        obtain ⟨m2, e2⟩ := more p hp
        exact .inr (.inl ⟨((code p hp).tab (empty p hp)).isCodeTable, rfl, #[], m2, rfl, by rw [Array.empty_append]; exact e2⟩)
      · exact .inl (same b o m e)
    · by_cases m : b ∈ cs.map (·.2)
      · obtain ⟨p, hp, rfl⟩ := List.mem_map.mp m
        obtain ⟨m2, e2⟩ := more p hp
        exact ⟨_, e2⟩
      · exact ⟨o, same b o m e⟩
end
/-- the head of a law with tables, and with defs that ask repr (or none) -/
theorem walkT {l : PySem.W.OpenLaw} {n k : Nat} {q : Program} {loose : List Str} {XP : (Str → Option Value) → Heap → Prop} {YP : World → Heap → Prop} {d : DefRec} {K : Params → PySem.W.Frag} {x : Str} (makers : List Str) (most : l.most = some n) (le : n ≤ sizeLine)
    (nod : d.params.defaults = []) (hr : Room k callerA) (known : ∀ m ∈ makers, ((recsOf q).find? fun e => e.name == m).isSome = true) (part : ∀ (w : World) (h : Heap), YP w h → (K w.params).In h)
    (F : ∀ (w : World) (mg : Str → Option Value) (fa : Addr) (h : Heap), (K w.params).In h → h.Ns mainGlobals mg → mg d.name = some (.ref fa) →
      ∃ (fd : FuncData) (cs : List (Addr × Addr)) (sp : L2.Sp), (∀ p ∈ cs, (K w.params).lookup p.2 = none) ∧ (∀ p ∈ cs, ∃ m ∈ makers, PySem.W.tabIn (K w.params) m = some p) ∧ (∀ (s : Shared) (v : Value), BindsTo s fd ⟨[v], []⟩ [(x, v)]) ∧
        (∀ (H : Hp) (a : Addr) (ns : List Int), ns.length ≤ n → (∀ p ∈ cs, H p.2 = some (.tbl #[])) → SqL (K w.params) H a (ns.map V.int) → sp [.ref a] H (fun v _ => v = .bl true) fun _ _ _ => False) ∧
        ∀ base : Heap, (K w.params).In base → base.Ns mainGlobals mg → (∀ p ∈ cs, TabB base mg p.1 p.2) → FnG l.prog w (K w.params) mg base k fa fd [x] sp) :
    PySem.W.WalkO q loose XP YP l.row.toRowW d [] (fun f vs => PySem.call f vs) := by
  refine Att.attach_call most nod fun w s0 z mg mb fa o pm cd doc a us ns G Y ho hd hcd hmg at_ hi hl gs => ?_
  have kin := part w _ Y
  obtain ⟨fd, cs, sp, nK, tin, bd, want, FF⟩ := F w mg fa _ kin G.T.g hmg
  have rv := vals_ints hi
  have len : ns.length ≤ sizeLine := Nat.le_trans hl le
  have tab : ∀ p ∈ cs, PySem.W.CodeHd z.heap p.1 p.2 ∧ z.heap.get? p.2 = some { cls := .none, data := .fields #[] } := fun p hp => by
    obtain ⟨m, hm, e⟩ := tin p hp
    obtain ⟨dm, hdm⟩ := Option.isSome_iff_exists.mp (known m hm)
    exact PySem.W.tab_of G.T kin hdm e
  cases hk : (K w.params).lookup a with
  | some o2 =>
    have e := kin a o2 hk
    rw [at_] at e
    cases e
    refine held_ofT (cs := cs) (u := none) (fun _ e => nomatch e) kin G.T.g G.T.b G.T.builtins G.T.nolimit gs G.T.bmain (fun p hp => (tab p hp).2) nK (fun p hp => (tab p hp).1) at_ rv len hr FF bd (.inr ⟨_, us.toArray, _, hk, rfl, rfl, rfl, ?_, by simpa using rv⟩) fun H h h2 => want H a ns hl h h2
    rw [List.size_toArray, hi.length]
    exact len
  | none =>
    exact held_ofT (cs := cs) (u := some (.frz { cls := .type "list", data := .seq us.toArray } (.lst (ns.map V.int)))) (fun v e => ⟨hk, (Option.some.inj e).symm⟩) kin G.T.g G.T.b G.T.builtins G.T.nolimit gs G.T.bmain (fun p hp => (tab p hp).2) nK (fun p hp => (tab p hp).1) at_ rv len hr FF bd (.inl (.inr ⟨_, if_pos rfl⟩)) fun H h h2 => want H a ns hl h h2
end Gd

/-! sorted(xs), xs a list of triples of whole numbers of any size. -/
namespace Tri
open PySem PySem.Spec PyProof.Rows SrtO
abbrev T3 := Int × Int × Int
/-- one triple ahead of another: by the first number, then the second, then the third -/
def before (a b : T3) : Prop := a.1 < b.1 ∨ (a.1 = b.1 ∧ (a.2.1 < b.2.1 ∨ (a.2.1 = b.2.1 ∧ a.2.2 < b.2.2)))
instance (a b : T3) : Decidable (before a b) := by unfold before; infer_instance
def bef (a b : T3) : Bool := decide (before a b)
theorem bef_yes {a b : T3} : bef a b = true ↔ before a b := decide_eq_true_iff
theorem bef_no {a b : T3} : bef a b = false ↔ ¬ before a b := decide_eq_false_iff_not
theorem swo3 {α : Type} (k : α → T3) : Swo fun v u => bef (k v) (k u) := by
  refine ⟨fun x y h => ?_, fun x y z h1 h2 => ?_⟩
  · have a := bef_yes.mp h
    refine bef_no.mpr ?_
    unfold before at *
    omega
  · have a := bef_no.mp h1
    have b := bef_no.mp h2
    refine bef_no.mpr ?_
    unfold before at *
    omega
/-- a tuple of three whole numbers -/
def Is3 (h : Heap) (v : Value) (x : T3) : Prop := ∃ (a : Addr) (o : Obj) (t u z : Tok) (n : Nat), v = .ref a ∧ h.get? a = some o ∧ o.cls = .type "tuple" ∧ o.data = .seq #[.int x.1 t, .int x.2.1 u, .int x.2.2 z] n
theorem Is3.stay {h h' : Heap} {v : Value} {x : T3} (i : Is3 h v x) (k : ∀ b o, h.get? b = some o → o.cls = .type "tuple" → h'.get? b = some o) : Is3 h' v x := by
  obtain ⟨a, o, t, u, z, n, e, ho, hc, hd⟩ := i
  exact ⟨a, o, t, u, z, n, e, k a o ho hc, hc, hd⟩
theorem heads {h : Heap} {k : Value → T3} : ∀ {vs : List Value}, (∀ v ∈ vs, Is3 h v (k v)) → ∃ fs : List Value, PySem.W.KatTups h vs fs ∧ fs.length = vs.length ∧ ∀ f ∈ fs, ∃ x t, f = Value.int x t
  | [], _ => ⟨[], PySem.W.KatTups.nil, rfl, fun _ z => nomatch z⟩
  | v :: vs, g => by
    obtain ⟨fs, h1, h2, h3⟩ := heads (vs := vs) fun u hu => g u (List.mem_cons_of_mem _ hu)
    obtain ⟨a, o, t, u, z, n, e, ho, hc, hd⟩ := g v List.mem_cons_self
    generalize (k v).1 = x at hd
    subst e
    refine ⟨.int x t :: fs, PySem.W.KatTups.cons ho hc hd rfl h1, by rw [List.length_cons, List.length_cons, h2], fun f hf => ?_⟩
    rcases List.mem_cons.mp hf with q | q
    · exact ⟨x, t, q⟩
    · exact h3 f q
section
variable {prog : Program} {w : World} {A : Around} {E : Value → Shared → Prop} {s : Shared}
theorem cmp3 {vs : List Value} {k : Value → T3} (g : ∀ v ∈ vs, Is3 s.heap v (k v)) : Cmp prog w A s (tuples' true) (fun p => p.1 ∈ vs) (lt2 fun v u => bef (k v) (k u)) := by
  intro p q hp hq
  have g1 := g _ hp
  have g2 := g _ hq
  show wpAny (model prog w) A (keyLt' (tuples' true) p.1 q.1) (fun r s' => s' = s ∧ r = bef (k p.1) (k q.1)) (fun _ _ => False) s
  generalize k p.1 = x at g1 ⊢
  generalize k q.1 = y at g2 ⊢
  obtain ⟨x1, x2, x3⟩ := x
  obtain ⟨y1, y2, y3⟩ := y
  obtain ⟨a, o, t, u, z, n, e, ho, hc, hd⟩ := g1
  obtain ⟨a', o', t', u', z', n', e', ho', hc', hd'⟩ := g2
  rw [e, e']
  dsimp only at hd hd'
  have yes : ∀ {b : Bool}, (b = true ↔ before (x1, x2, x3) (y1, y2, y3)) → (s = s ∧ b = bef (x1, x2, x3) (y1, y2, y3)) := fun {b} i => ⟨rfl, by
    cases b with
    | true => exact (bef_yes.mpr (i.mp rfl)).symm
    | false => exact (bef_no.mpr fun q => (by cases i.mpr q)).symm⟩
  refine PySem.W.kat_lt ho hd ho' hd' ?_
  show PySem.W.KatLex prog w A true (decide (3 < 3)) _ [(.int x1 t, .int y1 t'), (.int x2 u, .int y2 u'), (.int x3 z, .int y3 z')] 0 s
  refine PySem.W.kat_cons (SeqAt.EqAt.int_int x1 t y1 t' prog w _ _ (PySem.W.kat_go (fun e1 => ?_) (fun e1 => ?_)))
  · have i1 : x1 = y1 := by simpa using e1
    refine PySem.W.kat_yes (PySem.W.kat_cons (SeqAt.EqAt.int_int x2 u y2 u' prog w _ _ (PySem.W.kat_go (fun e2 => ?_) (fun e2 => ?_))))
    · have i2 : x2 = y2 := by simpa using e2
      refine PySem.W.kat_yes (PySem.W.kat_cons (SeqAt.EqAt.int_int x3 z y3 z' prog w _ _ (PySem.W.kat_go (fun e3 => ?_) (fun e3 => ?_))))
      · have i3 : x3 = y3 := by simpa using e3
        refine PySem.W.kat_yes (PySem.W.kat_nil (yes ?_))
        rw [decide_eq_true_iff]
        show 3 < 3 ↔ _
        unfold before
        dsimp only
        omega
      · have i3 : ¬ x3 = y3 := by simpa using e3
        refine PySem.W.kat_no (PySem.W.kat_one _ _ (PyProof.Rows.lt_int (yes ?_)))
        rw [decide_eq_true_iff]
        unfold before
        dsimp only
        omega
    · have i2 : ¬ x2 = y2 := by simpa using e2
      refine PySem.W.kat_no (PySem.W.kat_one _ _ (PyProof.Rows.lt_int (yes ?_)))
      rw [decide_eq_true_iff]
      unfold before
      dsimp only
      omega
  · have i1 : ¬ x1 = y1 := by simpa using e1
    refine PySem.W.kat_no (oneLt_int (yes ?_))
    rw [decide_eq_true_iff]
    unfold before
    dsimp only
    omega
theorem sortable3 {a : Addr} {vs : List Value} {k : Value → T3} (pos : 0 < vs.length) (g : ∀ v ∈ vs, Is3 s.heap v (k v)) (na : ∀ o, s.heap.get? a = some o → o.cls ≠ .type "tuple") : SortableO prog w A s a vs fun v u => bef (k v) (k u) := by
  intro h' keep
  have g' : ∀ v ∈ vs, Is3 h' v (k v) := fun v hv => (g v hv).stay fun b o e c => keep b o (fun z => na o (z ▸ e) c) e
  obtain ⟨fs, h1, h2, h3⟩ := heads g'
  refine ⟨tuples' true, fun Q E hq => ?_, cmp3 g'⟩
  refine PySem.W.kat_kind (T := .type "int") h1 (by omega) (fun f hf => ?_) (by rfl) ?_
  · obtain ⟨x, t, rfl⟩ := h3 f hf
    exact PySem.W.Looks.now
  · have e : (Value.type "int" != Value.type "tuple") = true := by first | decide +kernel | rfl | decide
    rw [e]
    exact hq
theorem sorted3 {l : Addr} {vs : List Value} {k : Value → T3} {Q : Value → Shared → Prop} (hl : s.heap.IsList l vs.toArray) (hz : vs.length ≤ sizeLine) (g : ∀ v ∈ vs, Is3 s.heap v (k v))
    (h : ∀ (h' : Heap) (d : Addr) (out : List Value), Srtd (fun v u => bef (k v) (k u)) out → Stb (fun v u => bef (k v) (k u)) out vs → (∀ b o, s.heap.get? b = some o → h'.get? b = some o) → s.heap.objs.size ≤ d → (∃ n, h'.get? d = some (seqObj "list" out.toArray n)) → Q (.ref d) { s with heap := h' }) :
    wpAny (model prog w) A (call (.builtin "sorted") [.ref l]) Q E s := by
  refine sorted_ord (swo3 k) hl hz (fun h2 h₁ a ha kk => ?_) fun out hs hb => h _ _ out hs hb (fun b o e => sortedAll_old e) (Nat.le_succ _) (sortedAll_at s.heap vs out.toArray)
  refine sortable3 (s := { s with heap := h₁ }) (by omega) (fun v hv => (g v hv).stay fun b o e _ => (kk b o e).2) fun o e c => ?_
  have e' : some o = some (seqObj "list" vs.toArray 0) := e.symm.trans ha
  cases e'
  exact absurd (Value.type.inj c) (by decide)
end
end Tri
namespace Tri
open PySem PySem.Spec PyProof.Rows L2
/-- sorted(xs), xs a list of tuples of three whole numbers (k says which) -/
def rSorted3 (K : PySem.W.Frag) : List V → Hp → VK → Prop := fun vs H Q => ∃ (a : Addr) (xs : List V) (k : V → T3), vs = [V.ref a] ∧ SqL K H a xs ∧ (∀ x ∈ xs, ∃ t, x = V.ref t ∧ H t = some (.tup [.int (k x).1, .int (k x).2.1, .int (k x).2.2])) ∧
  ∀ ys p, ys.Perm xs → (ys.map k).Pairwise (fun a b => ¬ before b a) → H p = none → Q (.ref p) (upd H p (.lst ys))
theorem cr_sorted3 {X : Cx} : CallR X (.builtin "sorted") (rSorted3 X.K) := by
  intro pins z σ H vs us Q I r h
  obtain ⟨a, xs, k, rfl, hs, hx, q⟩ := h
  obtain ⟨its, rv, hl, hz⟩ := I.list hs
  obtain ⟨u, rfl, ru⟩ := vals1 r
  obtain rfl : u = Value.ref a := ru
  obtain ⟨e1, e2⟩ := refs_back rv fun x m => (hx x m).imp fun t e => e.1
  refine sorted3 (k := fun u => k (backV u)) hl.isList (by rw [← rv.length]; exact hz) (fun v hv => ?_) fun h' d out h1 h2 kp hd hn => ?_
  · obtain ⟨t, rfl⟩ := e2 v hv
    obtain ⟨t', e, ht⟩ := hx (V.ref t) (by rw [e1]; exact List.mem_map.mpr ⟨_, hv, rfl⟩)
    cases e
    obtain ⟨_, its2, r2, o, ho, hc, n, hd⟩ := I.hok _ _ ht
    cases r2 with
    | cons ra rr =>
      cases rr with
      | cons rb rs =>
        cases rs with
        | cons rc rt =>
          cases rt
          obtain ⟨t1, rfl⟩ := ra
          obtain ⟨t2, rfl⟩ := rb
          obtain ⟨t3, rfl⟩ := rc
          exact ⟨t, o, t1, t2, t3, n, rfl, ho, hc, hd⟩
  · have h3 : ∀ u ∈ out, ∃ a, u = Value.ref a := fun u hu => e2 u (h2.perm.mem_iff.mp hu)
    obtain ⟨n, hn⟩ := hn
    have hp : (out.map backV).Perm xs := by rw [e1]; exact h2.perm.map backV
    refine ⟨.ref d, upd H d (.lst (out.map backV)), I.laid (t' := z.toks) kp hd ⟨?_, out, n, vals_back h3, hn⟩, rfl, q _ d hp ?_ (I.hok.fresh hd)⟩
    · rw [hp.length_eq]
      exact hz
    · rw [List.map_map, List.pairwise_map]
      exact h1.imp fun g => bef_no.mp g
end Tri
namespace Tri
open Sp
/-! ### all pairs of places, in order -/
def rowP (x : Int) (i : Nat) : List Int → Nat → List T3
  | [], _ => []
  | y :: ms, j => (x + y, (i : Int), (j : Int)) :: rowP x i ms (j + 1)
def allP : List Int → Nat → List Int → List T3
  | [], _, _ => []
  | x :: ns, i, ms => rowP x i ms 0 ++ allP ns (i + 1) ms
theorem rowP_snoc (x : Int) (i : Nat) (y : Int) : ∀ (ms : List Int) (j : Nat), rowP x i (ms ++ [y]) j = rowP x i ms j ++ [(x + y, (i : Int), ((j + ms.length : Nat) : Int))]
  | [], j => rfl
  | z :: ms, j => by
    show _ :: rowP x i (ms ++ [y]) (j + 1) = _ :: (rowP x i ms (j + 1) ++ _)
    rw [rowP_snoc x i y ms (j + 1), List.length_cons, show j + 1 + ms.length = j + (ms.length + 1) from by omega]
theorem allP_snoc (x : Int) (ms : List Int) : ∀ (ns : List Int) (i : Nat), allP (ns ++ [x]) i ms = allP ns i ms ++ rowP x (i + ns.length) ms 0
  | [], i => by show rowP x i ms 0 ++ [] = _; rw [List.append_nil]; rfl
  | z :: ns, i => by
    show rowP z i ms 0 ++ allP (ns ++ [x]) (i + 1) ms = (rowP z i ms 0 ++ allP ns (i + 1) ms) ++ _
    rw [allP_snoc x ms ns (i + 1), List.length_cons, List.append_assoc, show i + 1 + ns.length = i + (ns.length + 1) from by omega]
theorem rowP_len (x : Int) (i : Nat) : ∀ (ms : List Int) (j : Nat), (rowP x i ms j).length = ms.length
  | [], _ => rfl
  | _ :: ms, j => by show (rowP x i ms (j + 1)).length + 1 = _; rw [rowP_len x i ms (j + 1)]; rfl
theorem allP_len (ms : List Int) : ∀ (ns : List Int) (i : Nat), (allP ns i ms).length = ns.length * ms.length
  | [], _ => by rw [List.length_nil, Nat.zero_mul]; rfl
  | x :: ns, i => by
    show (rowP x i ms 0 ++ allP ns (i + 1) ms).length = _
    rw [List.length_append, rowP_len, allP_len ms ns (i + 1), List.length_cons, Nat.add_mul, Nat.one_mul, Nat.add_comm]
theorem rowP_mem {x : Int} {i : Nat} {t : T3} : ∀ {ms : List Int} {j : Nat}, t ∈ rowP x i ms j ↔ ∃ (n : Nat) (y : Int), ms[n]? = some y ∧ t = (x + y, (i : Int), ((j + n : Nat) : Int))
  | [], j => by simp [rowP]
  | z :: ms, j => by
    show t ∈ _ :: rowP x i ms (j + 1) ↔ _
    rw [List.mem_cons, rowP_mem (ms := ms) (j := j + 1)]
    constructor
    · rintro (rfl | ⟨n, y, h1, rfl⟩)
      · exact ⟨0, z, rfl, rfl⟩
      · exact ⟨n + 1, y, h1, by rw [show j + 1 + n = j + (n + 1) from by omega]⟩
    · rintro ⟨n, y, h1, rfl⟩
      cases n with
      | zero => exact .inl (by cases h1; rfl)
      | succ n => exact .inr ⟨n, y, h1, by rw [show j + 1 + n = j + (n + 1) from by omega]⟩
theorem allP_mem {ms : List Int} {t : T3} : ∀ {ns : List Int} {i : Nat}, t ∈ allP ns i ms ↔ ∃ (m n : Nat) (x y : Int), ns[m]? = some x ∧ ms[n]? = some y ∧ t = (x + y, ((i + m : Nat) : Int), (n : Int))
  | [], i => by simp [allP]
  | z :: ns, i => by
    show t ∈ rowP z i ms 0 ++ allP ns (i + 1) ms ↔ _
    rw [List.mem_append, rowP_mem, allP_mem (ns := ns) (i := i + 1)]
    constructor
    · rintro (⟨n, y, h1, rfl⟩ | ⟨m, n, x, y, h1, h2, rfl⟩)
      · exact ⟨0, n, z, y, rfl, h1, by rw [Nat.zero_add]; rfl⟩
      · exact ⟨m + 1, n, x, y, h1, h2, by rw [show i + 1 + m = i + (m + 1) from by omega]⟩
    · rintro ⟨m, n, x, y, h1, h2, rfl⟩
      cases m with
      | zero => exact .inl ⟨n, y, h2, by cases h1; rw [Nat.zero_add]; rfl⟩
      | succ m => exact .inr ⟨m, n, x, y, h1, h2, by rw [show i + 1 + m = i + (m + 1) from by omega]⟩
/-- how many of a row of the pairs stand ahead of the pair (s, i, j) -/
theorem row_less {s x : Int} {i e j : Nat} (h : e < i) : ∀ (ms : List Int) (b : Nat), (rowP x e ms b).countP (fun t => bef t (s, (i : Int), (j : Int))) = cntB ms (s - x) + ms.count (s - x)
  | [], _ => rfl
  | y :: ms, b => by
    show List.countP _ (_ :: rowP x e ms (b + 1)) = _
    rw [List.countP_cons, row_less h ms (b + 1), cntB_cons, List.count_cons]
    by_cases c : y < s - x
    · rw [if_pos (bef_yes.mpr (.inl (by show x + y < s; omega))), if_pos c, if_neg (by simp; omega)]
      omega
    · by_cases d : y = s - x
      · rw [if_pos (bef_yes.mpr (.inr ⟨by show x + y = s; omega, .inl (by show (e : Int) < (i : Int); omega)⟩)), if_neg c, if_pos (by simp [d])]
        omega
      · have c2 : ¬ bef (x + y, (e : Int), (b : Int)) (s, (i : Int), (j : Int)) = true := fun z => by
          have := bef_yes.mp z
          unfold before at this
          dsimp only at this
          omega
        rw [if_neg c2, if_neg c, if_neg (by simpa using d)]
        omega
theorem row_more {s x : Int} {i e j : Nat} (h : i < e) : ∀ (ms : List Int) (b : Nat), (rowP x e ms b).countP (fun t => bef t (s, (i : Int), (j : Int))) = cntB ms (s - x)
  | [], _ => rfl
  | y :: ms, b => by
    show List.countP _ (_ :: rowP x e ms (b + 1)) = _
    rw [List.countP_cons, row_more h ms (b + 1), cntB_cons]
    by_cases c : y < s - x
    · rw [if_pos (bef_yes.mpr (.inl (by show x + y < s; omega))), if_pos c]
    · rw [if_neg (fun z => ?_), if_neg c]
      have := bef_yes.mp z
      unfold before at this
      dsimp only at this
      omega
theorem row_same {s x : Int} {i j : Nat} : ∀ (ms : List Int) (b : Nat), b ≤ j → (rowP x i ms b).countP (fun t => bef t (s, (i : Int), (j : Int))) = cntB ms (s - x) + (ms.take (j - b)).count (s - x)
  | [], _, _ => by rw [List.take_nil]; rfl
  | y :: ms, b, hb => by
    show List.countP _ (_ :: rowP x i ms (b + 1)) = _
    rw [List.countP_cons, cntB_cons]
    by_cases e : b = j
    · subst e
      have hz : ∀ (ms : List Int) (c : Nat), b < c → (rowP x i ms c).countP (fun t => bef t (s, (i : Int), (b : Int))) = cntB ms (s - x) := by
        intro ms
        induction ms with
        | nil => intro c _; rfl
        | cons z ms ih =>
          intro c hc
          show List.countP _ (_ :: rowP x i ms (c + 1)) = _
          rw [List.countP_cons, ih (c + 1) (by omega), cntB_cons]
          by_cases d : z < s - x
          · rw [if_pos (bef_yes.mpr (.inl (by show x + z < s; omega))), if_pos d]
          · rw [if_neg (fun q => ?_), if_neg d]
            have := bef_yes.mp q
            unfold before at this
            dsimp only at this
            omega
      rw [hz ms (b + 1) (by omega), Nat.sub_self, List.take_zero, List.count_nil]
      by_cases c : y < s - x
      · rw [if_pos (bef_yes.mpr (.inl (by show x + y < s; omega))), if_pos c]
      · rw [if_neg (fun q => ?_), if_neg c]
        have := bef_yes.mp q
        unfold before at this
        dsimp only at this
        omega
    · rw [row_same ms (b + 1) (by omega), show j - b = (j - (b + 1)) + 1 from by omega, List.take_succ_cons, List.count_cons]
      by_cases c : y < s - x
      · rw [if_pos (bef_yes.mpr (.inl (by show x + y < s; omega))), if_pos c, if_neg (by simp; omega)]
        omega
      · by_cases d : y = s - x
        · have c1 : bef (x + y, (i : Int), (b : Int)) (s, (i : Int), (j : Int)) = true := bef_yes.mpr (.inr ⟨by show x + y = s; omega, .inr ⟨rfl, by show (b : Int) < (j : Int); omega⟩⟩)
          rw [if_pos c1, if_neg c, if_pos (by simp [d])]
          omega
        · have c2 : ¬ bef (x + y, (i : Int), (b : Int)) (s, (i : Int), (j : Int)) = true := fun z => by
            have := bef_yes.mp z
            unfold before at this
            dsimp only at this
            omega
          rw [if_neg c2, if_neg c, if_neg (by simpa using d)]
          omega
theorem all_more {s : Int} {i j : Nat} {ms : List Int} : ∀ (ns : List Int) (e : Nat), i < e → (allP ns e ms).countP (fun t => bef t (s, (i : Int), (j : Int))) = cntS ns ms s
  | [], _, _ => rfl
  | x :: ns, e, h => by
    show List.countP _ (rowP x e ms 0 ++ allP ns (e + 1) ms) = _
    rw [List.countP_append, row_more h, all_more ns (e + 1) (by omega), cntS_cons]
/-- how many pairs stand ahead of (s, i, j): those of a lesser sum, those of its sum in the rows ahead, those of its sum ahead in its own row -/
theorem all_ahead {s x : Int} {j : Nat} {ms : List Int} : ∀ (ns : List Int) (e i : Nat), ns[i]? = some x →
    (allP ns e ms).countP (fun t => bef t (s, ((e + i : Nat) : Int), (j : Int))) = cntS ns ms s + ((ns.take i).map fun z => ms.count (s - z)).sum + (ms.take j).count (s - x)
  | [], _, i, h => by simp at h
  | z :: ns, e, 0, h => by
    obtain rfl : z = x := Option.some.inj h
    show List.countP _ (rowP z e ms 0 ++ allP ns (e + 1) ms) = _
    rw [List.countP_append, Nat.add_zero, row_same ms 0 (Nat.zero_le _), all_more ns (e + 1) (by omega), cntS_cons, List.take_zero, List.map_nil, List.sum_nil, Nat.sub_zero]
    omega
  | z :: ns, e, i + 1, h => by
    have ih := all_ahead (s := s) (j := j) (ms := ms) ns (e + 1) i h
    show List.countP _ (rowP z e ms 0 ++ allP ns (e + 1) ms) = _
    rw [List.countP_append, row_less (by omega), cntS_cons, List.take_succ_cons, List.map_cons, List.sum_cons]
    rw [show e + 1 + i = e + (i + 1) from by omega] at ih
    rw [ih]
    omega
/-- all pairs of both rows, sorted -/
structure Ord (ns ms : List Int) (L : List T3) : Prop where
  perm : L.Perm (allP ns 0 ms)
  sort : L.Pairwise fun a b => ¬ before b a
theorem before_or {a b : T3} (h : ¬ before b a) : before a b ∨ a = b := by
  obtain ⟨a1, a2, a3⟩ := a
  obtain ⟨b1, b2, b3⟩ := b
  unfold before at *
  dsimp only at *
  by_cases c : a1 = b1 ∧ a2 = b2 ∧ a3 = b3
  · obtain ⟨rfl, rfl, rfl⟩ := c
    exact .inr rfl
  · left
    omega
/-- in a sorted list an item stands behind just those that are ahead of it -/
theorem stands : ∀ {L : List T3} {p : T3}, (L.Pairwise fun a b => ¬ before b a) → p ∈ L → L[L.countP fun t => bef t p]? = some p
  | [], p, _, h => nomatch h
  | a :: L, p, hs, hm => by
    have hs' := List.pairwise_cons.mp hs
    rw [List.countP_cons]
    by_cases c : before a p
    · rw [if_pos (bef_yes.mpr c)]
      have hp : p ∈ L := by
        rcases List.mem_cons.mp hm with e | e
        · rw [e] at c
          unfold before at c
          omega
        · exact e
      rw [List.getElem?_cons_succ]
      exact stands hs'.2 hp
    · rw [if_neg (fun z => c (bef_yes.mp z))]
      have e : a = p := by
        rcases List.mem_cons.mp hm with e | e
        · exact e.symm
        · rcases before_or (hs'.1 p e) with k | k
          · exact absurd k c
          · exact k
      have z : List.countP (fun t => bef t p) L = 0 := by
        rw [List.countP_eq_zero]
        intro b hb hq
        rw [← e] at hq
        exact hs'.1 b hb (bef_yes.mp hq)
      rw [z, e]
      rfl
/-- THE PLACE of a pair in the order -/
theorem Ord.place {ns ms : List Int} {L : List T3} (o : Ord ns ms L) {i j : Nat} {x y : Int} (hx : ns[i]? = some x) (hy : ms[j]? = some y) :
    L[cntS ns ms (x + y) + ((ns.take i).map fun z => ms.count (x + y - z)).sum + (ms.take j).count y]? = some (x + y, (i : Int), (j : Int)) := by
  have m : (x + y, (i : Int), (j : Int)) ∈ L := o.perm.mem_iff.mpr (allP_mem.mpr ⟨i, j, x, y, hx, hy, by rw [Nat.zero_add]⟩)
  have h1 := stands o.sort m
  rw [o.perm.countP_eq] at h1
  have h2 := all_ahead (s := x + y) (j := j) (ms := ms) ns 0 i hx
  rw [Nat.zero_add, show x + y - x = y from by omega] at h2
  rw [h2] at h1
  exact h1
theorem Ord.len {ns ms : List Int} {L : List T3} (o : Ord ns ms L) : L.length = ns.length * ms.length := by rw [o.perm.length_eq, allP_len]
/-- there is just one order -/
theorem Ord.one {ns ms : List Int} {L M : List T3} (a : Ord ns ms L) (b : Ord ns ms M) : L = M :=
  (a.perm.trans b.perm.symm).eq_of_pairwise (fun x y _ _ h1 h2 => by
    rcases before_or h1 with k | k
    · exact absurd k h2
    · exact k) a.sort b.sort
/-! ### lists of such tuples in the heap -/
open L2 in
structure Trip (H : Hp) (ts : List PySem.Addr) (L : List T3) : Prop where
  len : ts.length = L.length
  at_ : ∀ (j : Nat) (t : PySem.Addr) (x : T3), ts[j]? = some t → L[j]? = some x → H t = some (.tup [.int x.1, .int x.2.1, .int x.2.2])
section
open L2 PySem
theorem Trip.nil {H : Hp} : Trip H [] [] := ⟨rfl, fun _ _ _ h => by simp at h⟩
theorem Trip.up {H H' : Hp} {ts : List Addr} {L : List T3} (t : Trip H ts L) (s : Same H H') : Trip H' ts L := ⟨t.len, fun j a x h1 h2 => s _ _ (t.at_ j a x h1 h2)⟩
/-- a list's own change leaves the tuples -/
theorem Trip.set {H : Hp} {ts : List Addr} {L : List T3} {D : Addr} {o : HO} {xs : List V} (t : Trip H ts L) (h : H D = some (.lst xs)) : Trip (upd H D o) ts L := ⟨t.len, fun j a x h1 h2 => by
  have e := t.at_ j a x h1 h2
  rw [upd_ne (fun z => by rw [z, h] at e; cases e)]
  exact e⟩
theorem Trip.app {H : Hp} {ts us : List Addr} {L M : List T3} (a : Trip H ts L) (b : Trip H us M) : Trip H (ts ++ us) (L ++ M) := by
  refine ⟨by rw [List.length_append, List.length_append, a.len, b.len], fun j t x h1 h2 => ?_⟩
  by_cases c : j < ts.length
  · rw [List.getElem?_append_left c] at h1
    rw [List.getElem?_append_left (by rw [← a.len]; exact c)] at h2
    exact a.at_ j t x h1 h2
  · rw [List.getElem?_append_right (by omega)] at h1
    rw [List.getElem?_append_right (by rw [← a.len]; omega), ← a.len] at h2
    exact b.at_ _ t x h1 h2
theorem Trip.one {H : Hp} {t : Addr} {x y z : Int} (h : H t = some (.tup [.int x, .int y, .int z])) : Trip H [t] [(x, y, z)] := ⟨rfl, fun j a w h1 h2 => by
  cases j with
  | zero => cases h1; cases h2; exact h
  | succ j => simp at h1⟩
def keyOf (H : Hp) : V → T3
  | .ref t => match H t with
    | some (.tup [.int a, .int b, .int c]) => (a, b, c)
    | _ => (0, 0, 0)
  | _ => (0, 0, 0)
theorem keyOf_at {H : Hp} {t : Addr} {x : T3} (h : H t = some (.tup [.int x.1, .int x.2.1, .int x.2.2])) : keyOf H (.ref t) = x := by
  unfold keyOf
  simp only [h]
theorem Trip.keys {H : Hp} {ts : List Addr} {L : List T3} (t : Trip H ts L) : (ts.map V.ref).map (keyOf H) = L := by
  refine List.ext_getElem? fun j => ?_
  rw [List.map_map, List.getElem?_map]
  cases e : ts[j]? with
  | none =>
    have := List.getElem?_eq_none_iff.mp e
    exact (List.getElem?_eq_none_iff.mpr (by rw [← t.len]; exact this)).symm
  | some a =>
    have h1 := (List.getElem?_eq_some_iff.mp e).1
    have h2 : j < L.length := by rw [← t.len]; exact h1
    rw [List.getElem?_eq_getElem h2]
    exact congrArg some (keyOf_at (t.at_ j a _ e (List.getElem?_eq_getElem h2)))
theorem Trip.mem {H : Hp} {ts : List Addr} {L : List T3} (t : Trip H ts L) {a : Addr} (h : a ∈ ts) : H a = some (.tup [.int (keyOf H (.ref a)).1, .int (keyOf H (.ref a)).2.1, .int (keyOf H (.ref a)).2.2]) := by
  obtain ⟨j, hj⟩ := List.mem_iff_getElem?.mp h
  have h2 : j < L.length := by rw [← t.len]; exact (List.getElem?_eq_some_iff.mp hj).1
  have e := t.at_ j a _ hj (List.getElem?_eq_getElem h2)
  rw [keyOf_at e]
  exact e
theorem all_refs : ∀ {ys : List V}, (∀ y ∈ ys, ∃ t, y = V.ref t) → ∃ us : List Addr, ys = us.map V.ref
  | [], _ => ⟨[], rfl⟩
  | y :: ys, h => by
    obtain ⟨t, rfl⟩ := h y List.mem_cons_self
    obtain ⟨us, rfl⟩ := all_refs fun z hz => h z (List.mem_cons_of_mem _ hz)
    exact ⟨t :: us, rfl⟩
/-- what sorted tells of them -/
theorem Trip.sorted {H : Hp} {ts : List Addr} {L : List T3} {ys : List V} (t : Trip H ts L) (hp : ys.Perm (ts.map V.ref)) : ∃ us : List Addr, ys = us.map V.ref ∧ Trip H us (ys.map (keyOf H)) ∧ (ys.map (keyOf H)).Perm L := by
  obtain ⟨us, rfl⟩ := all_refs fun y hy => by
    obtain ⟨a, _, e⟩ := List.mem_map.mp (hp.mem_iff.mp hy)
    exact ⟨a, e.symm⟩
  refine ⟨us, rfl, ⟨by rw [List.length_map, List.length_map], fun j a x h1 h2 => ?_⟩, ?_⟩
  · rw [List.getElem?_map, List.getElem?_map, h1] at h2
    obtain rfl := Option.some.inj h2
    have m : V.ref a ∈ us.map V.ref := List.mem_map.mpr ⟨a, List.mem_of_getElem? h1, rfl⟩
    obtain ⟨b, hb, e⟩ := List.mem_map.mp (hp.mem_iff.mp m)
    cases e
    exact t.mem hb
  · have := hp.map (keyOf H)
    rw [t.keys] at this
    exact this
end
end Tri
namespace Sp
open PySem L2 Tri
def spOrder (K : PySem.W.Frag) : L2.Sp := fun vs H Q _ => ∃ (p q : Addr) (ns ms : List Int), vs = [.ref p, .ref q] ∧ SqL K H p (ns.map V.int) ∧ SqL K H q (ms.map V.int) ∧ ns.length ≤ 300 ∧ ms.length ≤ 300 ∧
  ∀ (r : Addr) (ts : List Addr) (L : List T3) (H' : Hp), Same H H' → H r = none → H' r = some (.lst (ts.map V.ref)) → Trip H' ts L → Ord ns ms L → Q (.ref r) H'
theorem take_all_rows (ns ms : List Int) : allP (ns.take ns.length) 0 ms = allP ns 0 ms := by rw [take_all]
/-- a tuple of names as a comprehension's target: the written part and the length by name -/
theorem pg_tupK {X : Cx} {K : PySem.W.Frag} {es : List Expr} {k : Nat} {pos : Pos} {t : TGs} {n : Nat} (hK : X.K = K) (hc : X.calm = true) (h : PGs X es t) (hn : (assignEach es X.env).length = n) (hst : (assignEach es X.env).findIdx? (·.1) = none) : PG X (.Tuple es k pos) (gTup K n t) := hK ▸ pg_tup hc h hn hst
/-! ### what the laws of the order promise -/
def tri (w : T3) : List V := [.int w.1, .int w.2.1, .int w.2.2]
abbrev dt (w : T3) : PyData := .tuple [.int w.1, .int w.2.1, .int w.2.2]
structure Sml (w : T3) : Prop where
  a : w.1.natAbs.log2 < 60
  b : w.2.1.natAbs.log2 < 60
  c : w.2.2.natAbs.log2 < 60
theorem dp_tri {K : PySem.W.Frag} {H : Hp} {t : Addr} {w : T3} (h : H t = some (.tup (tri w))) : Dp K H (.ref t) (dt w) := .tup (.inl (.inl h)) (.cons (.int _) (.cons (.int _) (.cons (.int _) .nil)))
theorem lay_tri (w : T3) : PyData.canLay0 (dt w) = true := by simp only [PyData.canLay0, PyData.canLayAll0]; rfl
theorem shaped_tri (w : T3) : SeqAt.shaped (dt w) = true := by
  unfold SeqAt.shaped
  rw [lay_tri]
  simp only [PyData.depth, PyData.depthAll]
  rfl
theorem shown_tri {w : T3} (h : Sml w) : (dt w).showable = true ∧ (dt w).hasDict = false ∧ (dt w).shown.length ≤ sizeLine ∧ (dt w).depth ≤ 60 := by
  obtain ⟨h1, h2, h3⟩ := Gd.show_ints [w.1, w.2.1, w.2.2] (by
    intro n hn
    simp only [List.mem_cons, List.not_mem_nil, or_false] at hn
    rcases hn with rfl | rfl | rfl
    · exact h.a
    · exact h.b
    · exact h.c)
  refine ⟨?_, PyData.hasDict_of_canLay _ (lay_tri w), ?_, ?_⟩
  · rw [PyData.showable]; exact h1
  · have := PyData.shown_le 61 (by decide) (dt w) (by rw [PyData.leavesShort]; exact h2)
    rw [PyData.weight] at this
    have e : sizeLine = 16777216 := by decide
    have e2 : PyData.weightAll [PyData.int w.1, .int w.2.1, .int w.2.2] ≤ 61 * 3 := h3
    omega
  · simp only [PyData.depth, PyData.depthAll]; decide
/-- a tuple as it should be, or None as it should be -/
def spTuple : L2.Sp := fun vs H Q _ => (vs = [.non, .non] ∨ ∃ (t u : Addr) (w : T3), vs = [.ref t, .ref u] ∧ H t = some (.tup (tri w)) ∧ H u = some (.tup (tri w)) ∧ Sml w) ∧ Q (.bl true) H
/-- the so-manieth pair -/
def spSumAt (K : PySem.W.Frag) : L2.Sp := fun vs H Q _ => ∃ (p q : Addr) (ns ms : List Int) (n : Nat) (L : List T3) (w : T3), vs = [.ref p, .ref q, .int (n : Int)] ∧ SqL K H p (ns.map V.int) ∧ SqL K H q (ms.map V.int) ∧ ns.Pairwise (· ≤ ·) ∧ ms.Pairwise (· ≤ ·) ∧ ns.length ≤ 1000 ∧ ms.length ≤ 1000 ∧
  Ord ns ms L ∧ L[n]? = some w ∧ ∀ (t : Addr) (H' : Hp), Same H H' → H' t = some (.tup (tri w)) → Q (.ref t) H'
/-- places that are asked for -/
def spPlaces : L2.Sp := fun vs H Q _ => ∃ (a d : Addr) (ts : List Addr) (L : List T3), vs = [.ref a, .ref d] ∧ HandAt H a ∧ d ≠ a ∧ H d = some (.lst (ts.map V.ref)) ∧ Trip H ts L ∧ L.length ≤ 90000 ∧
  ∀ (r : Addr) (ps : List Int) (H' : Hp), Ext a H H' → H r = none → H' r = some (.lst (ps.map V.int)) → (∀ n ∈ ps, 0 ≤ n ∧ n < L.length) → Q (.ref r) H'
theorem Trip.ext {a : Addr} {H H' : Hp} {ts : List Addr} {L : List T3} (t : Trip H ts L) (h : HandAt H a) (e : Ext a H H') : Trip H' ts L := ⟨t.len, fun j b x h1 h2 => by
  have g := t.at_ j b x h1 h2
  obtain ⟨u, v, hh, _⟩ := h
  exact e.keep _ _ g fun z => by rw [z, hh] at g; cases g⟩
theorem rgV_ints (n : Nat) : rgV 0 (n : Int) = ((List.range n).map fun (k : Nat) => (k : Int)).map V.int := by
  unfold rgV
  rw [List.map_map, show ((n : Int) - 0).toNat = n from by omega]
  refine List.map_congr_left fun k _ => ?_
  show V.int (0 + (k : Int)) = V.int (k : Int)
  rw [Int.zero_add]
theorem eqv_tri (w : T3) : PyData.eqv (dt w) (dt w) = true := by
  rw [PyData.eqv]
  refine eqvAll_same fun x hx => ?_
  simp only [List.mem_cons, List.not_mem_nil, or_false] at hx
  rcases hx with rfl | rfl | rfl <;> simp [PyData.eqv]
theorem log_of {n : Int} (h1 : -1000000000000000000 < n) (h2 : n < 1000000000000000000) : n.natAbs.log2 < 60 := by
  by_cases h0 : n.natAbs = 0
  · rw [h0]; decide
  · exact (Nat.log2_lt h0).mpr (by omega)
theorem ord_small {ns ms : List Int} {L : List T3} (o : Ord ns ms L) (fn : Fine ns) (fm : Fine ms) (l1 : ns.length ≤ 1000) (l2 : ms.length ≤ 1000) {n : Nat} {w : T3} (h : L[n]? = some w) : Sml w := by
  obtain ⟨i, j, x, y, hx, hy, rfl⟩ := allP_mem.mp (o.perm.mem_iff.mp (List.mem_of_getElem? h))
  have h1 := (List.getElem?_eq_some_iff.mp hx).1
  have h2 := (List.getElem?_eq_some_iff.mp hy).1
  have b1 := fn.2 x (List.mem_of_getElem? hx)
  have b2 := fm.2 y (List.mem_of_getElem? hy)
  exact ⟨log_of (by show _ < x + y; omega) (by show x + y < _; omega), log_of (by show _ < ((0 + i : Nat) : Int); omega) (by show ((0 + i : Nat) : Int) < _; omega), log_of (by show _ < (j : Int); omega) (by show (j : Int) < _; omega)⟩
end Sp

namespace Sp
open PySem L2
/-! ### differences: the rows of these laws -/
def spNumber : L2.Sp := fun vs H Q _ => ∃ (a : Addr) (k x y : Int), vs = [.ref a, .int k, .int x, .int y] ∧ HandAt H a ∧ (-100 ≤ x ∧ x ≤ 100) ∧ (0 ≤ y ∧ y ≤ 300000000000000) ∧
  ∀ (r : Int) (H' : Hp), Ext a H H' → -1000000000000000 ≤ r → r ≤ 1000000000000000 → Q (.int r) H'
def spRow21 : L2.Sp := fun vs H Q _ => ∃ (a : Addr) (n : Nat), vs = [.ref a, .int (n : Int)] ∧ HandAt H a ∧ n ≤ 300 ∧ ∀ (p : Addr) (ns : List Int) (H' : Hp), Ext a H H' → H p = none → H' p = some (.lst (ns.map V.int)) → ns.length ≤ 300 → Fine ns → Q (.ref p) H'
def spSize : L2.Sp := fun vs H Q _ => ∃ (a : Addr) (k : Int), vs = [.ref a, .int k, .int 300] ∧ HandAt H a ∧ ∀ (n : Nat) (H' : Hp), Ext a H H' → n ≤ 300 → Q (.int (n : Int)) H'
def spTwo21 : L2.Sp := fun vs H Q _ => ∃ (a : Addr) (k : Int), vs = [.ref a, .int k] ∧ HandAt H a ∧
  ∀ (t p q : Addr) (ns ms : List Int) (H' : Hp), Ext a H H' → H' t = some (.lst [.ref p, .ref q]) → t ≠ a → RowAt H' a p ns → RowAt H' a q ms → H p = none → H q = none → Q (.ref t) H'
theorem cut_to (xs : List V) (n : Nat) : (cutV xs none (some (n : Int))).length ≤ n := by
  unfold cutV
  rw [List.length_take]
  refine Nat.le_trans (Nat.min_le_left _ _) (Nat.le_trans (Nat.sub_le _ _) ?_)
  simp only [HT.sIx]
  first | omega | (split <;> omega) | (split <;> split <;> omega)
/-- how many differences, first less second, are below n -/
def cntD (ns ms : List Int) (n : Int) : Nat := (ns.map fun x => ms.countP fun y => decide (x - y < n)).sum
theorem cntD_snoc (ns ms : List Int) (x n : Int) : cntD (ns ++ [x]) ms n = cntD ns ms n + ms.countP fun y => decide (x - y < n) := by
  unfold cntD
  rw [List.map_append, List.sum_append]
  rfl
def spDiff (K : PySem.W.Frag) : L2.Sp := fun vs H Q _ => ∃ (p q : Addr) (ns ms : List Int) (n : Int), vs = [.ref p, .ref q, .int n] ∧ SqL K H p (ns.map V.int) ∧ SqL K H q (ms.map V.int) ∧ ns.Pairwise (· ≤ ·) ∧ ms.Pairwise (· ≤ ·) ∧ ns.length ≤ 1000 ∧ ms.length ≤ 1000 ∧
  ∀ H', Same H H' → Q (.int (cntD ns ms n : Nat)) H'
def spAsked21 (K : PySem.W.Frag) : L2.Sp := fun vs H Q _ => ∃ (a s : Addr) (xs : List Int), vs = [.ref a, .ref s] ∧ HandAt H a ∧ s ≠ a ∧ H s = some (.lst (xs.map V.int)) ∧ 0 < xs.length ∧ xs.length ≤ 1000 ∧ (∀ x ∈ xs, -(2 ^ 60) < x ∧ x < 2 ^ 60) ∧
  ∀ (r : Addr) (zs : List Int) (H' : Hp), Ext a H H' → H r = none → H' r = some (.lst (zs.map V.int)) → zs.length ≤ 9 → Q (.ref r) H'
def spRight21 (K : PySem.W.Frag) : L2.Sp := fun vs H Q _ => ∃ (p q : Addr) (ns ms : List Int) (n : Int), vs = [.ref p, .ref q, .int n] ∧ SqL K H p (ns.map V.int) ∧ SqL K H q (ms.map V.int) ∧ ns.Pairwise (· ≤ ·) ∧ ms.Pairwise (· ≤ ·) ∧ ns.length ≤ 300 ∧ ms.length ≤ 300 ∧ ∀ H', Same H H' → Q (.bl true) H'
theorem cut_from (xs : List V) (k : Nat) : cutV xs (some (k : Int)) none = xs.drop k := by
  unfold cutV
  rw [HT.sIx_nat, HT.sIx_none]
  by_cases h : k ≤ xs.length
  · rw [Nat.min_eq_left h]
    exact List.take_of_length_le (by rw [List.length_drop]; exact Nat.le_refl _)
  · rw [Nat.min_eq_right (by omega), List.drop_of_length_le (Nat.le_refl _), List.drop_of_length_le (by omega), List.take_nil]
/-- how many differences within a row, a later one less an earlier one, are below n -/
def cntW : List Int → Int → Nat
  | [], _ => 0
  | x :: xs, n => (xs.countP fun y => decide (y - x < n)) + cntW xs n
theorem cntW_drop {ns : List Int} {i : Nat} {x : Int} (n : Int) (h : ns[i]? = some x) : cntW (ns.drop i) n = ((ns.drop (i + 1)).countP fun y => decide (y - x < n)) + cntW (ns.drop (i + 1)) n := by
  have hl := (List.getElem?_eq_some_iff.mp h).1
  have e : ns.drop i = x :: ns.drop (i + 1) := by
    rw [List.drop_eq_getElem_cons hl, (List.getElem?_eq_some_iff.mp h).2]
  rw [e]
  rfl
def spWith (K : PySem.W.Frag) : L2.Sp := fun vs H Q _ => ∃ (p : Addr) (ns : List Int) (n : Int), vs = [.ref p, .int n] ∧ SqL K H p (ns.map V.int) ∧ ns.Pairwise (· ≤ ·) ∧ ns.length ≤ 1000 ∧ ∀ H', Same H H' → Q (.int (cntW ns n : Nat)) H'
def spRight23 (K : PySem.W.Frag) : L2.Sp := fun vs H Q _ => ∃ (p : Addr) (ns : List Int) (n : Int), vs = [.ref p, .int n] ∧ SqL K H p (ns.map V.int) ∧ ns.Pairwise (· ≤ ·) ∧ ns.length ≤ 300 ∧ ∀ H', Same H H' → Q (.bl true) H'
/-! ### the order of the differences -/
open Tri
theorem rowP_nodup (x : Int) (i : Nat) : ∀ (ms : List Int) (j : Nat), (rowP x i ms j).Nodup
  | [], _ => List.nodup_nil
  | y :: ms, j => by
    show (_ :: rowP x i ms (j + 1)).Nodup
    refine List.nodup_cons.mpr ⟨fun h => ?_, rowP_nodup x i ms (j + 1)⟩
    obtain ⟨n, z, _, e⟩ := rowP_mem.mp h
    have e3 : (j : Int) = ((j + 1 + n : Nat) : Int) := congrArg (fun t : T3 => t.2.2) e
    omega
theorem allP_nodup (ms : List Int) : ∀ (ns : List Int) (i : Nat), (allP ns i ms).Nodup
  | [], _ => List.nodup_nil
  | x :: ns, i => by
    show (rowP x i ms 0 ++ allP ns (i + 1) ms).Nodup
    refine List.nodup_append.mpr ⟨rowP_nodup x i ms 0, allP_nodup ms ns (i + 1), fun a ha b hb e => ?_⟩
    obtain ⟨n, y, _, e1⟩ := rowP_mem.mp ha
    obtain ⟨m, k, u, v, _, _, e2⟩ := allP_mem.mp hb
    rw [e1, e2] at e
    have e3 : (i : Int) = ((i + 1 + m : Nat) : Int) := congrArg (fun t : T3 => t.2.1) e
    omega
theorem ord_exists (ns ms : List Int) : ∃ L, Tri.Ord ns ms L := by
  refine ⟨(allP ns 0 ms).mergeSort fun a b => !bef b a, List.mergeSort_perm _ _, ?_⟩
  refine (List.pairwise_mergeSort (le := fun a b => !bef b a) (fun a b c h1 h2 => ?_) (fun a b => ?_) (allP ns 0 ms)).imp fun {a b} h => ?_
  · have q1 : ¬ before b a := fun z => by rw [bef_yes.mpr z] at h1; cases h1
    have q2 : ¬ before c b := fun z => by rw [bef_yes.mpr z] at h2; cases h2
    have q3 : ¬ before c a := by unfold before at *; omega
    show (!bef c a) = true
    rw [bef_no.mpr q3]
    rfl
  · by_cases z : before b a
    · have z2 : ¬ before a b := by unfold before at *; omega
      rw [bef_no.mpr z2]
      simp
    · rw [bef_no.mpr z]
      simp
  · exact fun z => by rw [bef_yes.mpr z] at h; cases h
/-- what stands at a place of the order, and which place that is -/
theorem ord_at {ns ms : List Int} {L : List T3} (o : Tri.Ord ns ms L) {n : Nat} {w : T3} (h : L[n]? = some w) :
    ∃ (i j : Nat) (x y : Int), ns[i]? = some x ∧ ms[j]? = some y ∧ w = (x + y, (i : Int), (j : Int)) ∧ n = cntS ns ms (x + y) + ((ns.take i).map fun z => ms.count (x + y - z)).sum + (ms.take j).count y := by
  obtain ⟨i, j, x, y, hx, hy, rfl⟩ := allP_mem.mp (o.perm.mem_iff.mp (List.mem_of_getElem? h))
  rw [Nat.zero_add] at h ⊢
  refine ⟨i, j, x, y, hx, hy, rfl, ?_⟩
  have h2 := o.place hx hy
  have nd : L.Nodup := o.perm.nodup_iff.mpr (allP_nodup ms ns 0)
  obtain ⟨k1, e1⟩ := List.getElem?_eq_some_iff.mp h
  obtain ⟨k2, e2⟩ := List.getElem?_eq_some_iff.mp h2
  have e := e1.trans e2.symm
  rcases Nat.lt_trichotomy n (cntS ns ms (x + y) + ((ns.take i).map fun z => ms.count (x + y - z)).sum + (ms.take j).count y) with c | c | c
  · exact absurd e (List.pairwise_iff_getElem.mp nd _ _ k1 k2 c)
  · exact c
  · exact absurd e.symm (List.pairwise_iff_getElem.mp nd _ _ k2 k1 c)
def negs (ms : List Int) : List Int := ms.map fun y => 0 - y
def spDiffAt (K : PySem.W.Frag) : L2.Sp := fun vs H Q _ => ∃ (p q : Addr) (ns ms : List Int) (n : Nat) (L : List T3) (w : T3), vs = [.ref p, .ref q, .int (n : Int)] ∧ SqL K H p (ns.map V.int) ∧ SqL K H q (ms.map V.int) ∧ ns.Pairwise (· ≤ ·) ∧ ms.Pairwise (· ≤ ·) ∧ ns.length ≤ 1000 ∧ ms.length ≤ 1000 ∧
  Tri.Ord ns (negs ms) L ∧ L[n]? = some w ∧ ∀ (t : Addr) (H' : Hp), Same H H' → H' t = some (.tup (tri w)) → Q (.ref t) H'
def spTriple : L2.Sp := fun vs H Q _ => ∃ (t u : Addr) (w : T3), vs = [.ref t, .ref u] ∧ H t = some (.tup (tri w)) ∧ H u = some (.tup (tri w)) ∧ ∀ H', Same H H' → Q (.bl true) H'
theorem call_isiK {X : Cx} {K : PySem.W.Frag} (hK : X.K = K) : CallR X (.builtin "isinstance") (rIsi K) := hK ▸ call_isi
/-- how many pairs stand ahead of a pair, by the law's own count -/
def spAhead (K : PySem.W.Frag) : L2.Sp := fun vs H Q _ => ∃ (p q u : Addr) (ns ms : List Int) (i j : Nat) (x y : Int), vs = [.ref p, .ref q, .ref u] ∧ SqL K H p (ns.map V.int) ∧ SqL K H q (ms.map V.int) ∧ H u = some (.tup [.int (i : Int), .int (j : Int)]) ∧ ns.length ≤ 1000 ∧ ms.length ≤ 1000 ∧ ns[i]? = some x ∧ ms[j]? = some y ∧
  ∀ H', Same H H' → Q (.int ((cntD ns ms (x - y) + ((ns.take i).map fun z => ms.countP fun v => decide (z - v = x - y)).sum + (ms.take j).countP fun v => decide (x - v = x - y) : Nat) : Int)) H'
theorem cut_take (xs : List V) (k : Nat) : cutV xs none (some (k : Int)) = xs.take k := by
  unfold cutV
  rw [HT.sIx_nat, HT.sIx_none, List.drop_zero, Nat.sub_zero]
  by_cases h : k ≤ xs.length
  · rw [Nat.min_eq_left h]
  · rw [Nat.min_eq_right (by omega), List.take_of_length_le (Nat.le_refl _), List.take_of_length_le (by omega)]
def spRight22 (K : PySem.W.Frag) : L2.Sp := fun vs H Q _ => ∃ (p q : Addr) (ns ms : List Int) (n : Nat), vs = [.ref p, .ref q, .int (n : Int)] ∧ SqL K H p (ns.map V.int) ∧ SqL K H q (ms.map V.int) ∧ ns.Pairwise (· ≤ ·) ∧ ms.Pairwise (· ≤ ·) ∧ ns.length ≤ 300 ∧ ms.length ≤ 300 ∧ n < ns.length * ms.length ∧
  ∀ H', Same H H' → Q (.bl true) H'
theorem negs_at {ms : List Int} {j : Nat} {y : Int} (h : (negs ms)[j]? = some y) : ms[j]? = some (0 - y) := by
  unfold negs at h
  rw [List.getElem?_map] at h
  cases e : ms[j]? with
  | none => rw [e] at h; cases h
  | some z =>
    rw [e] at h
    obtain rfl : 0 - z = y := Option.some.inj h
    rw [show 0 - (0 - z) = z from by omega]
theorem negs_cnt (x n : Int) : ∀ ms : List Int, cntB (negs ms) (n - x) = ms.countP fun v => decide (x - v < n)
  | [] => rfl
  | y :: ms => by
    show cntB ((0 - y) :: negs ms) (n - x) = _
    rw [cntB_cons, negs_cnt x n ms, List.countP_cons]
    by_cases h : x - y < n
    · rw [if_pos (by omega), if_pos (by simpa using h)]
    · rw [if_neg (by omega), if_neg (by simpa using h)]
theorem negs_cntS (ms : List Int) (n : Int) : ∀ ns : List Int, cntS ns (negs ms) n = cntD ns ms n
  | [] => rfl
  | x :: ns => by
    rw [cntS_cons, negs_cnt, negs_cntS ms n ns]
    rfl
theorem negs_count (z n : Int) : ∀ ms : List Int, (negs ms).count (n - z) = ms.countP fun v => decide (z - v = n)
  | [] => rfl
  | y :: ms => by
    show ((0 - y) :: negs ms).count (n - z) = _
    rw [List.count_cons, negs_count z n ms, List.countP_cons]
    by_cases h : z - y = n
    · rw [if_pos (by simp; omega), if_pos (by simpa using h)]
    · rw [if_neg (by simp; omega), if_neg (by simpa using h)]
theorem negs_take (ms : List Int) (j : Nat) : (negs ms).take j = negs (ms.take j) := List.map_take.symm
theorem negs_len (ms : List Int) : (negs ms).length = ms.length := List.length_map _
/-- the place of a difference, by the law's own count -/
theorem diff_at {ns ms : List Int} {L : List Tri.T3} (o : Tri.Ord ns (negs ms) L) {n : Nat} {w : Tri.T3} (h : L[n]? = some w) :
    ∃ (i j : Nat) (x y : Int), ns[i]? = some x ∧ ms[j]? = some y ∧ w = (x - y, (i : Int), (j : Int)) ∧ n = cntD ns ms (x - y) + ((ns.take i).map fun z => ms.countP fun v => decide (z - v = x - y)).sum + (ms.take j).countP fun v => decide (x - v = x - y) := by
  obtain ⟨i, j, x, y, hx, hy, hw, hn⟩ := ord_at o h
  refine ⟨i, j, x, 0 - y, hx, negs_at hy, by rw [hw, show x - (0 - y) = x + y from by omega], ?_⟩
  rw [show x - (0 - y) = x + y from by omega, hn, negs_cntS, negs_take]
  have e1 : (negs (ms.take j)).count y = (ms.take j).countP fun v => decide (x - v = x + y) := by
    have := negs_count x (x + y) (ms.take j)
    rw [show x + y - x = y from by omega] at this
    exact this
  have e2 : (fun z => (negs ms).count (x + y - z)) = fun z => ms.countP fun v => decide (z - v = x + y) := funext fun z => negs_count z (x + y) ms
  rw [e1, e2]
end Sp

namespace Sp
open PySem L2 LamX Tri
/-! ### heaps where tables of code objects may grow -/
def NT : HO → Prop
  | .tbl _ => False
  | _ => True
theorem NT.ne {o : HO} (h : NT o) : ∀ ps, o ≠ .tbl ps := fun ps e => by
  subst e
  exact h
theorem nt_of {o : HO} (h : ∀ ps, o ≠ .tbl ps) : NT o := by
  cases o <;> first | exact trivial | exact absurd rfl (h _)
/-- all but the tables stays; the tables stay tables -/
structure Nx (T : List (Addr × Str)) (H H' : Hp) : Prop where
  of : ∀ b o, H b = some o → NT o → H' b = some o
  tabs : Tabs T H → Tabs T H'
section
variable {T : List (Addr × Str)} {K : PySem.W.Frag} {H H' H1 H2 : Hp} {a p : Addr} {ns : List Int} {xs : List V}
theorem Nx.g (n : Nx T H H') {b : Addr} {o : HO} (h : H b = some o) (t : NT o := by trivial) : H' b = some o := n.of b o h t
theorem Nx.refl : Nx T H H := ⟨fun _ _ h _ => h, fun h => h⟩
theorem Nx.trans (n : Nx T H H1) (m : Nx T H1 H2) : Nx T H H2 := ⟨fun b o h t => m.of b o (n.of b o h t) t, fun h => m.tabs (n.tabs h)⟩
theorem Nx.same (s : Same H H') : Nx T H H' := ⟨fun b o h _ => s b o h, fun h => h.ext s⟩
theorem Nx.mk2 (e : ExtN H H') (t : Tabs T H') : Nx T H H' := ⟨fun b o h n => e b o h n.ne, fun _ => t⟩
theorem Nx.seq (n : Nx T H H') (h : SqL K H p xs) : SqL K H' p xs := by
  rcases h with (h | ⟨o, h⟩) | h
  · exact .inl (.inl (n.g h))
  · exact .inl (.inr ⟨o, n.g h⟩)
  · exact .inr h
theorem Nx.row (n : Nx T H H') (r : RowAt H a p ns) : RowAt H' a p ns := ⟨n.g r.at_, r.ne, r.fine, r.len⟩
theorem Nx.nums (n : Nx T H H') (r : Nums H a p ns) : Nums H' a p ns := ⟨n.g r.1, r.2⟩
theorem Nx.hand (n : Nx T H H') (h : HandAt H a) : HandAt H' a := by
  obtain ⟨x, y, e, r⟩ := h
  exact ⟨x, y, n.g e, r⟩
theorem Nx.trip {ts : List Addr} {L : List T3} (n : Nx T H H') (t : Trip H ts L) : Trip H' ts L := ⟨t.len, fun j b x h1 h2 => n.g (t.at_ j b x h1 h2)⟩
/-- the same, the hand apart -/
structure Ex (T : List (Addr × Str)) (a : Addr) (H H' : Hp) : Prop where
  of : ∀ b o, H b = some o → NT o → b ≠ a → H' b = some o
  hand : HandAt H a → HandAt H' a
  tabs : Tabs T H → Tabs T H'
theorem Ex.nx (n : Nx T H H') : Ex T a H H' := ⟨fun b o h t _ => n.of b o h t, n.hand, n.tabs⟩
theorem Ex.same (s : Same H H') : Ex T a H H' := .nx (.same s)
theorem tabs_hand (h : HandAt H a) (e : Ext a H H') (t : Tabs T H) : Tabs T H' := fun q hq => by
  obtain ⟨x, y, e0, _⟩ := h
  obtain ⟨ps, h1, h2, h3⟩ := t q hq
  refine ⟨ps, e.keep _ _ h1 (fun z => ?_), h2, fun pos cv hc => ?_⟩
  · rw [z, e0] at h1
    cases h1
  · obtain ⟨c, c1, c2⟩ := h3 pos cv hc
    refine ⟨c, c1, e.keep _ _ c2 fun z => ?_⟩
    rw [z, e0] at c2
    unfold CodeO at c2
    cases c2
theorem Ex.ext (e : Ext a H H') (h : HandAt H a) : Ex T a H H' := ⟨fun b o q _ n => e.keep b o q n, e.hand, tabs_hand h e⟩
theorem Ex.trans (e : Ex T a H H1) (f : Ex T a H1 H2) : Ex T a H H2 := ⟨fun b o h t n => f.of b o (e.of b o h t n) t n, fun h => f.hand (e.hand h), fun h => f.tabs (e.tabs h)⟩
theorem Ex.made (e : Ex T a H H') (n : H a = none) : Nx T H H' := ⟨fun b o h t => e.of b o h t (fun z => by rw [z, n] at h; cases h), e.tabs⟩
end
/-! ### the search, spans, pairs -/
def spCheck : L2.Sp := fun vs H Q _ => ∃ n m : Int, vs = [.int n, .int m] ∧ 0 ≤ n ∧ n < m ∧ Q .non H
def spBare (K : PySem.W.Frag) (T : List (Addr × Str)) : L2.Sp := fun vs H Q _ => ∃ (p q : Addr) (ns ms : List Int) (n : Nat), vs = [.ref p, .ref q, .int (n : Int)] ∧ SqL K H p (ns.map V.int) ∧ SqL K H q (ms.map V.int) ∧ ns.Pairwise (· ≤ ·) ∧ ms.Pairwise (· ≤ ·) ∧ n < ns.length * ms.length ∧ Tabs T H ∧
  ∀ (r : Int) (H' : Hp), Nx T H H' → cntS ns ms r ≤ n → n < cntS ns ms (r + 1) → Q (.int r) H'
def spSpan (K : PySem.W.Frag) : L2.Sp := fun vs H Q _ => ∃ (p : Addr) (ns : List Int) (n : Int), vs = [.ref p, .int n] ∧ SqL K H p (ns.map V.int) ∧ ns.Pairwise (· ≤ ·) ∧
  ∀ t, H t = none → Q (.ref t) (upd H t (.tup [.int (cntB ns n : Nat), .int (cntB ns (n + 1) : Nat)]))
/-- spans: where each begins and how long it is -/
structure Spn (H : Hp) (ts : List Addr) (ws : List (Nat × Nat)) : Prop where
  len : ts.length = ws.length
  at_ : ∀ (i : Nat) (t : Addr) (b c : Nat), ts[i]? = some t → ws[i]? = some (b, c) → H t = some (.tup [.int (b : Int), .int ((b : Int) + (c : Int))])
theorem Spn.up {H H' : Hp} {ts : List Addr} {ws : List (Nat × Nat)} (s : Spn H ts ws) (k : Same H H') : Spn H' ts ws := ⟨s.len, fun i t b c h1 h2 => k _ _ (s.at_ i t b c h1 h2)⟩
abbrev lenOf (ws : List (Nat × Nat)) : Nat := (ws.map (·.2)).sum
def spPairAt (K : PySem.W.Frag) : L2.Sp := fun vs H Q _ => ∃ (p : Addr) (ts : List Addr) (ws : List (Nat × Nat)) (n : Nat), vs = [.ref p, .int (n : Int)] ∧ SqL K H p (ts.map V.ref) ∧ Spn H ts ws ∧ n < lenOf ws ∧
  ∀ (i b c k : Nat), ws[i]? = some (b, c) → k < c → n = lenOf (ws.take i) + k → ∀ t, H t = none → Q (.ref t) (upd H t (.tup [.int (i : Int), .int ((b : Int) + (k : Int))]))
theorem lenOf_cons (w : Nat × Nat) (ws : List (Nat × Nat)) : lenOf (w :: ws) = w.2 + lenOf ws := by
  show (List.map _ (w :: ws)).sum = _
  rw [List.map_cons, List.sum_cons]
theorem lenOf_append (us ws : List (Nat × Nat)) : lenOf (us ++ ws) = lenOf us + lenOf ws := by
  show (List.map _ (us ++ ws)).sum = _
  rw [List.map_append, List.sum_append]
theorem lenOf_take {ws : List (Nat × Nat)} {i b c : Nat} (h : ws[i]? = some (b, c)) : lenOf (ws.take (i + 1)) = lenOf (ws.take i) + c := by
  rw [take_snoc h, lenOf_append]
  rfl
theorem lenOf_le (ws : List (Nat × Nat)) (i : Nat) : lenOf (ws.take i) ≤ lenOf ws := by
  have h := congrArg lenOf (List.take_append_drop i ws)
  rw [lenOf_append] at h
  omega
/-! ### counts -/
theorem cntB_none {ms : List Int} {n : Int} (h : ∀ y ∈ ms, n ≤ y) : cntB ms n = 0 := by
  unfold cntB
  rw [List.countP_eq_zero]
  intro y hy
  have := h y hy
  simp
  omega
theorem cntS_none {ns ms : List Int} {n : Int} (h : ∀ x ∈ ns, ∀ y ∈ ms, n ≤ x + y) : cntS ns ms n = 0 := by
  induction ns with
  | nil => rfl
  | cons x ns ih =>
    rw [cntS_cons, ih fun z hz => h z (List.mem_cons_of_mem _ hz), cntB_none fun y hy => by have := h x List.mem_cons_self y hy; omega]
theorem cntS_next (ms : List Int) (n : Int) : ∀ ns : List Int, cntS ns ms (n + 1) = cntS ns ms n + (ns.map fun z => ms.count (n - z)).sum
  | [] => rfl
  | x :: ns => by
    rw [cntS_cons, cntS_cons, cntS_next ms n ns, show n + 1 - x = n - x + 1 from by omega, cntB_next, List.map_cons, List.sum_cons]
    omega
/-- the k-th of the likes of v in a sorted row stands at so many below v, and k more -/
theorem like_at {ms : List Int} (hs : ms.Pairwise (· ≤ ·)) {v : Int} {k : Nat} (h : k < ms.count v) : ms[cntB ms v + k]? = some v ∧ (ms.take (cntB ms v + k)).count v = k := by
  have hn := cntB_next ms v
  have le := cntB_le ms (v + 1)
  have lt : cntB ms v + k < ms.length := by omega
  have at_ : ∀ j, cntB ms v ≤ j → j < cntB ms v + ms.count v → ms[j]? = some v := fun j h1 h2 => by
    obtain ⟨y, hy⟩ : ∃ y, ms[j]? = some y := ⟨_, List.getElem?_eq_getElem (by omega)⟩
    have k1 := cntB_lt (n := v) hs hy
    have k2 := cntB_lt (n := v + 1) hs hy
    have k3 : ¬ y < v := fun z => by have := k1.mp z; omega
    have k4 : y < v + 1 := k2.mpr (by omega)
    rw [hy, show y = v from by omega]
  refine ⟨at_ _ (by omega) (by omega), ?_⟩
  have low : (ms.take (cntB ms v)).count v = 0 := by
    rw [List.count_eq_zero]
    intro m
    obtain ⟨j, hj⟩ := List.mem_iff_getElem?.mp m
    rw [List.getElem?_take] at hj
    split at hj
    · rename_i c
      have := (cntB_lt (n := v) hs hj).mpr c
      omega
    · cases hj
  have step : ∀ j, j ≤ k → (ms.take (cntB ms v + j)).count v = j := by
    intro j
    induction j with
    | zero => intro _; exact low
    | succ j ih =>
      intro hj
      rw [show cntB ms v + (j + 1) = (cntB ms v + j) + 1 from by omega, take_snoc (at_ (cntB ms v + j) (by omega) (by omega)), List.count_append, ih (by omega)]
      simp
  exact step k (Nat.le_refl _)
/-- the so-manieth pair -/
def spSumT (K : PySem.W.Frag) (T : List (Addr × Str)) : L2.Sp := fun vs H Q _ => ∃ (p q : Addr) (ns ms : List Int) (n : Nat) (L : List T3) (w : T3), vs = [.ref p, .ref q, .int (n : Int)] ∧ SqL K H p (ns.map V.int) ∧ SqL K H q (ms.map V.int) ∧ ns.Pairwise (· ≤ ·) ∧ ms.Pairwise (· ≤ ·) ∧ ns.length ≤ 1000 ∧ ms.length ≤ 1000 ∧ Tabs T H ∧
  Tri.Ord ns ms L ∧ L[n]? = some w ∧ ∀ (t : Addr) (H' : Hp), Nx T H H' → H' t = some (.tup (tri w)) → Q (.ref t) H'
/-- from the search and the spans to what stands at a place -/
theorem sum_found {ns ms : List Int} {L : List T3} (o : Tri.Ord ns ms L) (sm : ms.Pairwise (· ≤ ·)) {n : Nat} {r : Int} {i k : Nat} {x : Int} (hx : ns[i]? = some x) (hk : k < ms.count (r - x)) (hn : n = cntS ns ms r + (((ns.take i).map fun z => ms.count (r - z)).sum + k)) :
    L[n]? = some (r, (i : Int), ((cntB ms (r - x) + k : Nat) : Int)) := by
  obtain ⟨h1, h2⟩ := like_at sm hk
  have := o.place hx h1
  rw [show x + (r - x) = r from by omega, h2] at this
  rw [hn]
  rw [show cntS ns ms r + (((ns.take i).map fun z => ms.count (r - z)).sum + k) = cntS ns ms r + ((ns.take i).map fun z => ms.count (r - z)).sum + k from by omega]
  exact this
/-- the law's head: the script, and the tables -/
def spLawT (K : PySem.W.Frag) (T : List (Addr × Str)) : L2.Sp := fun vs H Q _ => ∃ (a : Addr) (ns : List Int), vs = [.ref a] ∧ SqL K H a (ns.map V.int) ∧ ns.length ≤ 63 ∧ Tabs T H ∧ ∀ H', Q (.bl true) H'
end Sp
namespace Sp
open PySem L2 LamX Tri
/-! ### differences -/
theorem negs_count2 (v : Int) : ∀ ms : List Int, (negs ms).count (0 - v) = ms.count v
  | [] => rfl
  | y :: ms => by
    show ((0 - y) :: negs ms).count (0 - v) = _
    rw [List.count_cons, List.count_cons, negs_count2 v ms]
    by_cases h : y = v
    · rw [if_pos (by simp [h]), if_pos (by simp [h])]
    · rw [if_neg (by simp; omega), if_neg (by simpa using h)]
theorem diff_found {ns ms : List Int} {L : List T3} (o : Tri.Ord ns (negs ms) L) (sm : ms.Pairwise (· ≤ ·)) {n : Nat} {r : Int} {i k : Nat} {x : Int} (hx : ns[i]? = some x) (hk : k < ms.count (x - r)) (hn : n = cntD ns ms r + (((ns.take i).map fun z => ms.count (z - r)).sum + k)) :
    L[n]? = some (r, (i : Int), ((cntB ms (x - r) + k : Nat) : Int)) := by
  obtain ⟨h1, h2⟩ := like_at sm hk
  have h3 : (negs ms)[cntB ms (x - r) + k]? = some (0 - (x - r)) := by
    unfold negs
    rw [List.getElem?_map, h1]
    rfl
  have := o.place hx h3
  rw [show x + (0 - (x - r)) = r from by omega, negs_take, negs_count2, h2, negs_cntS] at this
  have e : (fun z => (negs ms).count (r - z)) = fun z => ms.count (z - r) := funext fun z => by rw [show r - z = 0 - (z - r) from by omega, negs_count2]
  rw [e] at this
  rw [hn, ← Nat.add_assoc]
  exact this
theorem cntD_next (ms : List Int) (n : Int) (ns : List Int) : cntD ns ms (n + 1) = cntD ns ms n + (ns.map fun z => ms.count (z - n)).sum := by
  have h := cntS_next (negs ms) n ns
  rw [negs_cntS, negs_cntS] at h
  have e : (fun z => (negs ms).count (n - z)) = fun z => ms.count (z - n) := funext fun z => by rw [show n - z = 0 - (z - n) from by omega, negs_count2]
  rw [e] at h
  exact h
def spDiffT (K : PySem.W.Frag) (T : List (Addr × Str)) : L2.Sp := fun vs H Q _ => ∃ (p q : Addr) (ns ms : List Int) (n : Nat) (L : List T3) (w : T3), vs = [.ref p, .ref q, .int (n : Int)] ∧ SqL K H p (ns.map V.int) ∧ SqL K H q (ms.map V.int) ∧ ns.Pairwise (· ≤ ·) ∧ ms.Pairwise (· ≤ ·) ∧ ns.length ≤ 1000 ∧ ms.length ≤ 1000 ∧ Tabs T H ∧
  Tri.Ord ns (negs ms) L ∧ L[n]? = some w ∧ ∀ (t : Addr) (H' : Hp), Nx T H H' → H' t = some (.tup (tri w)) → Q (.ref t) H'
def spRight22T (K : PySem.W.Frag) (T : List (Addr × Str)) : L2.Sp := fun vs H Q _ => ∃ (p q : Addr) (ns ms : List Int) (n : Nat), vs = [.ref p, .ref q, .int (n : Int)] ∧ SqL K H p (ns.map V.int) ∧ SqL K H q (ms.map V.int) ∧ ns.Pairwise (· ≤ ·) ∧ ms.Pairwise (· ≤ ·) ∧ ns.length ≤ 300 ∧ ms.length ≤ 300 ∧ n < ns.length * ms.length ∧ Tabs T H ∧
  ∀ H', Nx T H H' → Q (.bl true) H'
theorem turned_cntS (ms : List Int) (n : Int) (ns : List Int) : cntS ns (turned ms) n = cntD ns ms n := by
  have h : (turned ms).Perm (negs ms) := (List.reverse_perm ms).map _
  rw [← cntS_comm, cntS_perm h, cntS_comm, negs_cntS]
theorem turned_len (ms : List Int) : (turned ms).length = ms.length := by
  unfold turned
  rw [List.length_map, List.length_reverse]
end Sp

/-! three comparisons in one test -/
namespace Ch
open PySem PySem.Spec PyProof.Rows L2
def tChain3 (r1 r2 r3 : R2) (ta tb tc td : TE) : TT := fun σ H Q => ta σ H fun x H1 => tb σ H1 fun y H2 => r1 x y H2 fun z H3 => ∃ k, z = .bl k ∧
  (if k = true then tc σ H3 fun u H4 => r2 y u H4 fun z2 H5 => ∃ k2, z2 = .bl k2 ∧ (if k2 = true then td σ H5 fun v H6 => r3 u v H6 fun z3 H7 => ∃ k3, z3 = .bl k3 ∧ Q k3 H7 else Q false H5) else Q false H3)
theorem pt_chain3 {X : Cx} {a b c d : Expr} {ta tb tc td : TE} {pos : Pos} {o1 o2 o3 : CmpOp} {r1 r2 r3 : R2} (h1 : OpR X (compareOp o1) r1) (h2 : OpR X (compareOp o2) r2) (h3 : OpR X (compareOp o3) r3) (ha : PE X a ta) (hb : PE X b tb) (hc : PE X c tc) (hd : PE X d td)
    (hm : lastMarks [o1, o2, o3] [b, c, d] = false := by with_unfolding_all rfl) : PT X (.Compare a [o1, o2, o3] [b, c, d] pos) (tChain3 r1 r2 r3 ta tb tc td) := by
  refine ⟨fun pins s σ H Q I h => isTrue_chain (thn (ha.run pins s σ H _ I h) fun v s1 ⟨x, H1, I1, rx, q1⟩ => test_link (thn (hb.run pins s1 σ H1 _ I1 q1) fun u s2 ⟨y, H2, I2, ry, q2⟩ => thn (h1 pins s2 σ H2 x y v u _ I2 rx ry q2) fun e s3 ⟨z, H3, I3, rz, k, ez, q3⟩ => ?_)) hm⟩
  subst ez
  cases rz
  refine wpAny_truthy_bool ?_
  cases k with
  | false => exact ite_ff ⟨H3, I3, q3⟩
  | true =>
    refine ite_tt (test_link (thn (hc.run pins s3 σ H3 _ I3 q3) fun w s4 ⟨y2, H4, I4, r4, q4⟩ => thn (h2 pins s4 σ H4 y y2 u w _ I4 ry r4 q4) fun e2 s5 ⟨z2, H5, I5, rz2, k2, ez2, q5⟩ => ?_))
    subst ez2
    cases rz2
    refine wpAny_truthy_bool ?_
    cases k2 with
    | false => exact ite_ff ⟨H5, I5, q5⟩
    | true =>
      refine ite_tt (test_last (thn (hd.run pins s5 σ H5 _ I5 q5) fun w2 s6 ⟨y3, H6, I6, r6, q6⟩ => thn (h3 pins s6 σ H6 y2 y3 w w2 _ I6 r4 r6 q6) fun e3 s7 ⟨z3, H7, I7, rz3, k3, ez3, q7⟩ => ?_))
      subst ez3
      cases rz3
      exact wpAny_truthy_bool ⟨H7, I7, q7⟩
end Ch
namespace Sp
open PySem L2 LamX Tri
/-! ### within one row -/
theorem take_count {ms : List Int} (hs : ms.Pairwise (· ≤ ·)) (v : Int) : ∀ j, j ≤ ms.count v → (ms.take (cntB ms v + j)).count v = j
  | 0, _ => by
    rw [Nat.add_zero, List.count_eq_zero]
    intro m
    obtain ⟨j, hj⟩ := List.mem_iff_getElem?.mp m
    rw [List.getElem?_take] at hj
    split at hj
    · rename_i c
      have := (cntB_lt (n := v) hs hj).mpr c
      omega
    · cases hj
  | j + 1, h => by
    obtain ⟨h1, h2⟩ := like_at hs (v := v) (k := j) (by omega)
    rw [← Nat.add_assoc, take_snoc h1, List.count_append, h2]
    simp
/-- how many likes of v stand ahead of place k -/
theorem take_likes {ms : List Int} (hs : ms.Pairwise (· ≤ ·)) (v : Int) {k : Nat} (h : k ≤ cntB ms (v + 1)) : (ms.take k).count v = k - cntB ms v := by
  have hn := cntB_next ms v
  by_cases c : cntB ms v ≤ k
  · have := take_count hs v (k - cntB ms v) (by omega)
    rw [show cntB ms v + (k - cntB ms v) = k from by omega] at this
    exact this
  · have h0 := take_count hs v 0 (Nat.zero_le _)
    rw [Nat.add_zero] at h0
    have h1 : (ms.take k).count v ≤ (ms.take (cntB ms v)).count v := by
      have e : ms.take k = (ms.take (cntB ms v)).take k := by rw [List.take_take, Nat.min_eq_left (by omega)]
      rw [e]
      exact (List.take_sublist _ _).count_le _
    omega
theorem drop_likes {ms : List Int} (hs : ms.Pairwise (· ≤ ·)) (v : Int) {k : Nat} (h : k ≤ cntB ms (v + 1)) : (ms.drop k).count v = cntB ms (v + 1) - max (cntB ms v) k := by
  have hn := cntB_next ms v
  have h1 := take_likes hs v h
  have h2 : ms.count v = (ms.take k).count v + (ms.drop k).count v := by rw [← List.count_append, List.take_append_drop]
  omega
/-- likes of a first number's like by d, behind it, for the places ahead of i -/
def likeW (ns : List Int) (d : Int) (i : Nat) : Nat := ((List.range i).map fun a => (ns.drop (a + 1)).count (ns.getD a 0 + d)).sum
theorem likeW_succ {ns : List Int} {i : Nat} {x : Int} (d : Int) (h : ns[i]? = some x) : likeW ns d (i + 1) = likeW ns d i + (ns.drop (i + 1)).count (x + d) := by
  unfold likeW
  rw [List.range_succ, List.map_append, List.sum_append]
  have e : ns.getD i 0 = x := by rw [List.getD_eq_getElem?_getD, h]; rfl
  simp only [List.map_cons, List.map_nil, List.sum_cons, List.sum_nil, e]
  omega
theorem likeW_cons (x : Int) (xs : List Int) (d : Int) (i : Nat) : likeW (x :: xs) d (i + 1) = xs.count (x + d) + likeW xs d i := by
  unfold likeW
  rw [List.range_succ_eq_map, List.map_cons, List.sum_cons, List.map_map]
  rfl
theorem cntP_next (xs : List Int) (x d : Int) : (xs.countP fun y => decide (y - x < d + 1)) = (xs.countP fun y => decide (y - x < d)) + xs.count (x + d) := by
  induction xs with
  | nil => rfl
  | cons y xs ih =>
    rw [List.countP_cons, List.countP_cons, List.count_cons, ih]
    by_cases h : y - x < d
    · rw [if_pos (decide_eq_true (show y - x < d + 1 by omega)), if_pos (decide_eq_true h), if_neg (by simp; omega)]
      omega
    · by_cases h2 : y = x + d
      · rw [if_pos (decide_eq_true (show y - x < d + 1 by omega)), if_neg (by simpa using h), if_pos (by simp [h2])]
        omega
      · rw [if_neg (by simp; omega), if_neg (by simpa using h), if_neg (by simpa using h2)]
        omega
theorem cntW_next (d : Int) : ∀ ns : List Int, cntW ns (d + 1) = cntW ns d + likeW ns d ns.length
  | [] => rfl
  | x :: xs => by
    rw [List.length_cons, likeW_cons]
    show xs.countP _ + cntW xs (d + 1) = (xs.countP _ + cntW xs d) + _
    rw [cntP_next, cntW_next d xs]
    omega
theorem cntW_none : ∀ {ns : List Int}, ns.Pairwise (· ≤ ·) → cntW ns 0 = 0
  | [], _ => rfl
  | x :: xs, h => by
    obtain ⟨h1, h2⟩ := List.pairwise_cons.mp h
    show xs.countP _ + cntW xs 0 = 0
    rw [cntW_none h2, List.countP_eq_zero.mpr fun y hy => by have := h1 y hy; simp; omega]
theorem cntW_all {N : Int} : ∀ {ns : List Int}, (∀ x ∈ ns, ∀ y ∈ ns, y - x < N) → 2 * cntW ns N = ns.length * (ns.length - 1)
  | [], _ => rfl
  | x :: xs, h => by
    have e : (xs.countP fun y => decide (y - x < N)) = xs.length := List.countP_eq_length.mpr fun y hy => decide_eq_true (h x List.mem_cons_self y (List.mem_cons_of_mem _ hy))
    have ih := cntW_all (ns := xs) (N := N) fun a ha b hb => h a (List.mem_cons_of_mem _ ha) b (List.mem_cons_of_mem _ hb)
    show 2 * (xs.countP _ + cntW xs N) = _
    rw [e, List.length_cons, Nat.add_sub_cancel, Nat.mul_add, ih]
    cases hl : xs.length with
    | zero => rfl
    | succ m =>
      rw [Nat.add_sub_cancel]
      have : (m + 1) * m + 2 * (m + 1) = (m + 1 + 1) * (m + 1) := by
        rw [Nat.mul_comm (m + 1) m, ← Nat.add_mul]
      omega
/-- the place of a pair within a row -/
def aheadW (ns : List Int) (i j : Nat) (x d : Int) : Nat := cntW ns d + (likeW ns d i + ((ns.drop (i + 1)).take (j - (i + 1))).count (x + d))
theorem mid_likes {ms : List Int} (hs : ms.Pairwise (· ≤ ·)) (v : Int) {a j : Nat} (h : a ≤ j) (hj : j ≤ cntB ms (v + 1)) : ((ms.drop a).take (j - a)).count v = (j - cntB ms v) - (a - cntB ms v) := by
  have h1 := take_likes hs v (k := j) hj
  have h2 := take_likes hs v (k := a) (by omega)
  have e : ms.take j = ms.take a ++ (ms.drop a).take (j - a) := by
    rw [← List.take_add, show a + (j - a) = j from by omega]
  rw [e, List.count_append] at h1
  omega
/-- the spans of the later likes -/
def spansW (ns : List Int) (d : Int) : List (Nat × Nat) := (List.range ns.length).map fun a => (max (cntB ns (ns.getD a 0 + d)) (a + 1), (ns.drop (a + 1)).count (ns.getD a 0 + d))
theorem spansW_at {ns : List Int} {d : Int} {i : Nat} {x : Int} (h : ns[i]? = some x) : (spansW ns d)[i]? = some (max (cntB ns (x + d)) (i + 1), (ns.drop (i + 1)).count (x + d)) := by
  have hl := (List.getElem?_eq_some_iff.mp h).1
  unfold spansW
  rw [List.getElem?_map, List.getElem?_range hl]
  have e : ns.getD i 0 = x := by rw [List.getD_eq_getElem?_getD, h]; rfl
  show some (max (cntB ns (ns.getD i 0 + d)) (i + 1), (ns.drop (i + 1)).count (ns.getD i 0 + d)) = _
  rw [e]
theorem spansW_len (ns : List Int) (d : Int) : (spansW ns d).length = ns.length := by
  unfold spansW
  rw [List.length_map, List.length_range]
theorem spansW_take {ns : List Int} {d : Int} {i : Nat} (h : i ≤ ns.length) : lenOf ((spansW ns d).take i) = likeW ns d i := by
  unfold spansW likeW
  rw [← List.map_take, List.take_range, Nat.min_eq_left h]
  show (List.map _ (List.map _ _)).sum = _
  rw [List.map_map]
  rfl
theorem spansW_all (ns : List Int) (d : Int) : lenOf (spansW ns d) = likeW ns d ns.length := by
  have h := spansW_take (ns := ns) (d := d) (Nat.le_refl _)
  rw [← spansW_len ns d, List.take_length] at h
  rw [spansW_len] at h
  exact h
/-- a row's place: the later like at a span's place -/
theorem later_found {ns : List Int} (hs : ns.Pairwise (· ≤ ·)) {d : Int} {i k : Nat} {x : Int} (hd : 0 ≤ d) (hx : ns[i]? = some x) (hk : k < (ns.drop (i + 1)).count (x + d)) :
    i < max (cntB ns (x + d)) (i + 1) + k ∧ ns[max (cntB ns (x + d)) (i + 1) + k]? = some (x + d) ∧ ((ns.drop (i + 1)).take (max (cntB ns (x + d)) (i + 1) + k - (i + 1))).count (x + d) = k := by
  have hn := cntB_next ns (x + d)
  have hi : i + 1 ≤ cntB ns (x + d + 1) := by
    have := (cntB_lt (n := x + d + 1) hs hx).mp (by omega)
    omega
  have h1 := drop_likes hs (x + d) hi
  refine ⟨by omega, ?_, ?_⟩
  · have := (like_at hs (v := x + d) (k := max (cntB ns (x + d)) (i + 1) + k - cntB ns (x + d)) (by omega)).1
    rw [show cntB ns (x + d) + (max (cntB ns (x + d)) (i + 1) + k - cntB ns (x + d)) = max (cntB ns (x + d)) (i + 1) + k from by omega] at this
    exact this
  · rw [mid_likes hs (x + d) (by omega) (by omega)]
    omega
def spLater (K : PySem.W.Frag) : L2.Sp := fun vs H Q _ => ∃ (p : Addr) (ns : List Int) (d : Int), vs = [.ref p, .int d] ∧ SqL K H p (ns.map V.int) ∧ ns.Pairwise (· ≤ ·) ∧ ns.length ≤ 1000 ∧ 0 ≤ d ∧ ∀ (r : Addr) (ts : List Addr) (H' : Hp), Same H H' → H' r = some (.lst (ts.map V.ref)) → Spn H' ts (spansW ns d) → Q (.ref r) H'
def spWithT (K : PySem.W.Frag) (T : List (Addr × Str)) : L2.Sp := fun vs H Q _ => ∃ (p : Addr) (ns : List Int) (n : Nat), vs = [.ref p, .int (n : Int)] ∧ SqL K H p (ns.map V.int) ∧ ns.Pairwise (· ≤ ·) ∧ ns.length ≤ 1000 ∧ 2 * n < ns.length * (ns.length - 1) ∧ Tabs T H ∧
  ∀ (i j : Nat) (x d : Int) (t : Addr) (H' : Hp), i < j → ns[i]? = some x → ns[j]? = some (x + d) → n = aheadW ns i j x d → Nx T H H' → H' t = some (.tup (tri (d, (i : Int), (j : Int)))) → Q (.ref t) H'
def spAheadW (K : PySem.W.Frag) : L2.Sp := fun vs H Q _ => ∃ (p u : Addr) (ns : List Int) (i j : Nat) (x d : Int), vs = [.ref p, .ref u] ∧ SqL K H p (ns.map V.int) ∧ H u = some (.tup [.int (i : Int), .int (j : Int)]) ∧ ns.length ≤ 1000 ∧ i < j ∧ ns[i]? = some x ∧ ns[j]? = some (x + d) ∧
  ∀ H', Same H H' → Q (.int ((aheadW ns i j x d : Nat) : Int)) H'
def spRight24 (K : PySem.W.Frag) (T : List (Addr × Str)) : L2.Sp := fun vs H Q _ => ∃ (p : Addr) (ns : List Int) (n : Nat), vs = [.ref p, .int (n : Int)] ∧ SqL K H p (ns.map V.int) ∧ ns.Pairwise (· ≤ ·) ∧ ns.length ≤ 300 ∧ 2 * n < ns.length * (ns.length - 1) ∧ Tabs T H ∧ ∀ H', Nx T H H' → Q (.bl true) H'
/-- a place tells its pair -/
theorem aheadW_one {ns : List Int} (hs : ns.Pairwise (· ≤ ·)) {i j i' j' : Nat} {x x' d d' : Int} (h1 : i < j) (h2 : i' < j') (hx : ns[i]? = some x) (hx' : ns[i']? = some x') (hy : ns[j]? = some (x + d)) (hy' : ns[j']? = some (x' + d')) (e : aheadW ns i j x d = aheadW ns i' j' x' d') : d = d' ∧ i = i' ∧ j = j' := by
  have mono : ∀ {a b : Int}, a ≤ b → cntW ns a ≤ cntW ns b := fun {a b} h => by
    clear hx hx' hy hy' e hs
    induction ns with
    | nil => exact Nat.le_refl _
    | cons z zs ih =>
      show zs.countP _ + cntW zs a ≤ zs.countP _ + cntW zs b
      exact Nat.add_le_add (List.countP_mono_left fun y _ hy => decide_eq_true (by have := of_decide_eq_true hy; omega)) ih
  have lmono : ∀ {d : Int} {a b : Nat}, a ≤ b → b ≤ ns.length → likeW ns d a ≤ likeW ns d b := fun {d a b} h hb => by
    induction b with
    | zero => rw [show a = 0 from by omega]; exact Nat.le_refl _
    | succ b ih =>
      by_cases c : a = b + 1
      · rw [c]; exact Nat.le_refl _
      · obtain ⟨z, hz⟩ : ∃ z, ns[b]? = some z := ⟨_, List.getElem?_eq_getElem (by omega)⟩
        have := ih (by omega) (by omega)
        rw [likeW_succ d hz]
        omega
  -- below the whole of the next
  have inn : ∀ {i j : Nat} {x d : Int}, i < j → ns[i]? = some x → ns[j]? = some (x + d) → ((ns.drop (i + 1)).take (j - (i + 1))).count (x + d) < (ns.drop (i + 1)).count (x + d) := fun {i j x d} h hx hy => by
    have hl := (List.getElem?_eq_some_iff.mp hy).1
    have e1 : (ns.drop (i + 1))[j - (i + 1)]? = some (x + d) := by
      rw [List.getElem?_drop, show i + 1 + (j - (i + 1)) = j from by omega]
      exact hy
    have e2 := take_snoc e1
    have e3 : (ns.drop (i + 1)).count (x + d) = ((ns.drop (i + 1)).take (j - (i + 1) + 1)).count (x + d) + ((ns.drop (i + 1)).drop (j - (i + 1) + 1)).count (x + d) := by rw [← List.count_append, List.take_append_drop]
    rw [e2, List.count_append] at e3
    simp at e3
    omega
  have up : ∀ {i j : Nat} {x d : Int}, i < j → ns[i]? = some x → ns[j]? = some (x + d) → aheadW ns i j x d < cntW ns d + likeW ns d (i + 1) := fun {i j x d} h hx hy => by
    have := inn h hx hy
    unfold aheadW
    rw [likeW_succ d hx]
    omega
  have upA : ∀ {i j : Nat} {x d : Int}, i < j → ns[i]? = some x → ns[j]? = some (x + d) → aheadW ns i j x d < cntW ns (d + 1) := fun {i j x d} h hx hy => by
    have h1 := up h hx hy
    have hl := (List.getElem?_eq_some_iff.mp hx).1
    have h2 := lmono (d := d) (show i + 1 ≤ ns.length from hl) (Nat.le_refl _)
    rw [cntW_next]
    omega
  have lo : ∀ {i j : Nat} {x d : Int}, cntW ns d ≤ aheadW ns i j x d := fun {i j x d} => by unfold aheadW; omega
  have ed : d = d' := by
    rcases Int.lt_trichotomy d d' with c | c | c
    · have a1 := upA h1 hx hy
      have a2 := mono (show d + 1 ≤ d' from c)
      have a3 := lo (i := i') (j := j') (x := x') (d := d')
      omega
    · exact c
    · have a1 := upA h2 hx' hy'
      have a2 := mono (show d' + 1 ≤ d from c)
      have a3 := lo (i := i) (j := j) (x := x) (d := d)
      omega
  subst ed
  have ei : i = i' := by
    have b1 := up h1 hx hy
    have b2 := up h2 hx' hy'
    have l1 := (List.getElem?_eq_some_iff.mp hx).1
    have l2 := (List.getElem?_eq_some_iff.mp hx').1
    rcases Nat.lt_trichotomy i i' with c | c | c
    · have := lmono (d := d) (show i + 1 ≤ i' from c) (by omega)
      unfold aheadW at e b1 b2
      omega
    · exact c
    · have := lmono (d := d) (show i' + 1 ≤ i from c) (by omega)
      unfold aheadW at e b1 b2
      omega
  subst ei
  rw [hx] at hx'
  cases hx'
  refine ⟨rfl, rfl, ?_⟩
  have key : ∀ {j j' : Nat}, i < j → j < j' → ns[j]? = some (x + d) → ((ns.drop (i + 1)).take (j - (i + 1))).count (x + d) < ((ns.drop (i + 1)).take (j' - (i + 1))).count (x + d) := fun {j j'} a b hy => by
    have e1 : (ns.drop (i + 1))[j - (i + 1)]? = some (x + d) := by
      rw [List.getElem?_drop, show i + 1 + (j - (i + 1)) = j from by omega]
      exact hy
    have e2 := take_snoc e1
    have e3 : ((ns.drop (i + 1)).take (j - (i + 1) + 1)).count (x + d) ≤ ((ns.drop (i + 1)).take (j' - (i + 1))).count (x + d) := by
      have e4 : (ns.drop (i + 1)).take (j - (i + 1) + 1) = ((ns.drop (i + 1)).take (j' - (i + 1))).take (j - (i + 1) + 1) := by rw [List.take_take, Nat.min_eq_left (by omega)]
      rw [e4]
      exact (List.take_sublist _ _).count_le _
    rw [e2, List.count_append] at e3
    simp at e3
    omega
  unfold aheadW at e
  rcases Nat.lt_trichotomy j j' with c | c | c
  · have := key h1 c hy
    omega
  · exact c
  · have := key h2 c hy'
    omega
end Sp
namespace Sp
open PySem L2
theorem cut_mid (xs : List V) (a b : Nat) : cutV xs (some (a : Int)) (some (b : Int)) = (xs.drop a).take (b - a) := by
  unfold cutV
  rw [HT.sIx_nat, HT.sIx_nat]
  by_cases h : a ≤ xs.length
  · rw [Nat.min_eq_left h]
    by_cases h2 : b ≤ xs.length
    · rw [Nat.min_eq_left h2]
    · rw [Nat.min_eq_right (by omega), List.take_of_length_le (by rw [List.length_drop]; omega), List.take_of_length_le (by rw [List.length_drop]; omega)]
  · rw [Nat.min_eq_right (show xs.length ≤ a by omega), List.drop_of_length_le (Nat.le_refl _), List.drop_of_length_le (show xs.length ≤ a by omega), List.take_nil, List.take_nil]
theorem cnt_like (ns : List Int) (x d : Int) : (ns.countP fun v => decide (v - x = d)) = ns.count (x + d) := by
  rw [List.count_eq_countP]
  congr 1
  funext v
  by_cases h : v = x + d
  · rw [decide_eq_true (show v - x = d by omega), h]
    simp
  · rw [decide_eq_false (show ¬ v - x = d by omega)]
    simp [h]
end Sp

/-! repr of things, dicts of whole numbers and empty dicts within lists too: k01, k46. -/
namespace Rq
open PySem PySem.Spec PyProof.Rows L2
abbrev entQ (e : Int × V) : L2.Key × V := (Sum.inl e.1, e.2)
/-- whole numbers and truths -/
def Num (v : V) : Prop := (∃ i, v = .int i) ∨ ∃ b, v = .bl b
def numD : V → PyData
  | .int i => .int i
  | .bl b => .bool b
  | _ => .none
abbrev dkv (es : List (Int × V)) : PyData := .dict (es.map fun e => (PyData.int e.1, numD e.2))
/-- an item of a list -/
inductive El (K : PySem.W.Frag) (H : Hp) : V → PyData → Prop
  | dat {v : V} {d : PyData} : Dp K H v d → d.hasDict = false → El K H v d
  | emp {a : Addr} : H a = some (.dK []) → El K H (.ref a) (.dict [])
inductive Els (K : PySem.W.Frag) (H : Hp) : List V → List PyData → Prop
  | nil : Els K H [] []
  | cons {v : V} {d : PyData} {vs : List V} {ds : List PyData} : El K H v d → Els K H vs ds → Els K H (v :: vs) (d :: ds)
/-- fit to be shown -/
structure Fit (d : PyData) : Prop where
  able : d.showable = true
  leaf : d.leavesShort 152 = true
  small : d.weight ≤ 100000
  flat : d.depth ≤ 50
theorem Fit.len {d : PyData} (f : Fit d) : d.shown.length ≤ sizeLine := by
  have h := PyData.shown_le 152 (by decide) d f.leaf
  have h2 := Nat.mul_le_mul_left (152 + 2) f.small
  rw [sizeLine_eq]
  omega
/-- a thing and what is shown of it -/
inductive Dt (K : PySem.W.Frag) (H : Hp) : V → PyData → Prop
  | non : Dt K H .non .none
  | bl (b : Bool) : Dt K H (.bl b) (.bool b)
  | int {i : Int} : i.natAbs.log2 < 1920 → Dt K H (.int i) (.int i)
  | str {z : Str} : (reprText z).length ≤ sizeLine → Dt K H (.str z) (.str z)
  | dat {a : Addr} {d : PyData} : Dp K H (.ref a) d → d.hasDict = false → Fit d → Dt K H (.ref a) d
  | row {a : Addr} {xs : List V} {ds : List PyData} : H a = some (.lst xs) → Els K H xs ds → Fit (.list ds) → Dt K H (.ref a) (.list ds)
  | dct {a : Addr} {es : List (Int × V)} : H a = some (.dK (es.map entQ)) → (∀ e ∈ es, Num e.2) → Fit (dkv es) → Dt K H (.ref a) (dkv es)
section
variable {X : Cx} {pins : List (Addr × Obj)} {σ : L2.St} {H : Hp} {s : Shared}
theorem reads_emp (I : Inv X pins σ H s) {a : Addr} (h : H a = some (.dK [])) : ∃ as, Reads s.heap (.ref a) (.dict []) as ∧ sysModules ∉ as := by
  obtain ⟨_, hs, vs, kv, hdo⟩ := I.hok a _ h
  obtain ⟨es, ep, ⟨o, ho, hx, hdat⟩, hes, _⟩ := Heap.DictOf.raw hdo
  have e0 : es = #[] := by
    have : vs.length = 0 := by rw [← Paired.length kv]; rfl
    exact Array.eq_empty_of_size_eq_zero (by omega)
  subst e0
  refine ⟨a :: [] ++ [], .dict ho hx.1 hdat .nil .nil, fun hm => ?_⟩
  have : sysModules = a := by simpa using hm
  subst this
  simp at hs
theorem num_reads {h : Heap} {v : V} {u : Value} (n : Num v) (r : RelV v u) : Reads h u (numD v) [] := by
  rcases n with ⟨i, rfl⟩ | ⟨b, rfl⟩
  · obtain ⟨t, rfl⟩ := r
    exact .int _ _
  · cases r
    exact .bool _
theorem reads_kv (I : Inv X pins σ H s) {a : Addr} {es : List (Int × V)} (h : H a = some (.dK (es.map entQ))) (ln : ∀ e ∈ es, Num e.2) : ∃ as, Reads s.heap (.ref a) (dkv es) as ∧ sysModules ∉ as := by
  obtain ⟨_, hs, vs, kv, hdo⟩ := I.hok a _ h
  obtain ⟨en, ep, ⟨o, ho, hx, hdat⟩, hen, hat⟩ := Heap.DictOf.raw hdo
  have lk : (es.map entQ).length = vs.length := Paired.length kv
  rw [List.length_map] at lk
  have item : ∀ (j : Nat) (e : Int × V) (d : DictEntry), es[j]? = some e → en.toList[j]? = some d → (∃ t, d.key = .int e.1 t) ∧ RelV e.2 d.val := by
    intro j e d he hd
    rw [Array.getElem?_toList] at hd
    have hj := (Array.getElem?_eq_some_iff.mp hd).1
    obtain ⟨y, hy, hy1, hy2⟩ := LiI.paired_get kv (i := j) (x := entQ e) (by rw [List.getElem?_map, he]; rfl)
    obtain ⟨a1, a2⟩ := hat j hj y.1 y.2 hy
    have ed : en[j] = d := by
      rw [Array.getElem?_eq_getElem hj] at hd
      exact Option.some.inj hd
    rw [ed] at a1 a2
    rw [← hy1] at a1
    refine ⟨?_, by rw [a2]; exact hy2⟩
    rcases keyIs_shape (show keyIs (Sum.inl e.1) d.key = true from a1) with ⟨i, t, ek, ev⟩ | ⟨z, t, ek, ev⟩
    · cases ek
      exact ⟨t, ev⟩
    · cases ek
  have all : ∀ (es : List (Int × V)) (en : List DictEntry), (∀ e ∈ es, Num e.2) → en.length = es.length → (∀ (j : Nat) (e : Int × V) (d : DictEntry), es[j]? = some e → en[j]? = some d → (∃ t, d.key = .int e.1 t) ∧ RelV e.2 d.val) →
      ReadsAll s.heap (en.map (·.key)) ((es.map fun e => (PyData.int e.1, numD e.2)).map (·.1)) [] ∧ ReadsAll s.heap (en.map (·.val)) ((es.map fun e => (PyData.int e.1, numD e.2)).map (·.2)) [] := by
    intro es
    induction es with
    | nil =>
      intro en _ hl _
      have : en = [] := List.length_eq_zero_iff.mp hl
      subst this
      exact ⟨.nil, .nil⟩
    | cons e es ih =>
      intro en ln hl g
      cases en with
      | nil => cases hl
      | cons d en =>
        obtain ⟨⟨t, hk⟩, hv⟩ := g 0 e d rfl rfl
        obtain ⟨i1, i2⟩ := ih en (fun e he => ln e (List.mem_cons_of_mem _ he)) (Nat.succ.inj hl) fun j e d h1 h2 => g (j + 1) e d h1 h2
        refine ⟨?_, ?_⟩
        · rw [List.map_cons, List.map_cons, List.map_cons, hk]
          exact .cons (as := []) (.int _ _) i1
        · rw [List.map_cons, List.map_cons, List.map_cons]
          exact .cons (as := []) (num_reads (ln e List.mem_cons_self) hv) i2
  obtain ⟨r1, r2⟩ := all es en.toList ln (by rw [Array.length_toList, hen, lk]) item
  refine ⟨a :: [] ++ [], .dict ho hx.1 hdat r1 r2, fun hm => ?_⟩
  have : sysModules = a := by simpa using hm
  subst this
  simp at hs
theorem el_reads (I : Inv X pins σ H s) {v : V} {d : PyData} {u : Value} (e : El X.K H v d) (r : RelV v u) : ∃ as, Reads s.heap u d as ∧ (d.hasDict = true → sysModules ∉ as) := by
  cases e with
  | dat h n =>
    obtain ⟨as, R⟩ := Dp.reads I d v u h r
    exact ⟨as, R, PyData.noDict_hsm n⟩
  | emp h =>
    cases (show u = Value.ref _ from r)
    obtain ⟨as, R, n⟩ := reads_emp I h
    exact ⟨as, R, fun _ => n⟩
theorem els_reads (I : Inv X pins σ H s) {vs : List V} {ds : List PyData} (e : Els X.K H vs ds) : ∀ {us : List Value}, Vals vs us → PyData.showableAll ds = true → (∀ t ∈ PyData.shownAll ds, t.length ≤ sizeLine) →
    (∃ as, ReadsAll s.heap us ds as) ∧ ∃ bs, ReadAtMost s.heap (PyData.depthAll ds) bs ∧ ReprAllK X.prog X.w bs s.heap (PyData.depthAll ds) us (PyData.shownAll ds) := by
  induction e with
  | nil =>
    intro us r _ _
    cases r
    exact ⟨⟨[], .nil⟩, [], (fun _ h => nomatch h), by simp only [PyData.shownAll]; exact .nil⟩
  | cons e _ ih =>
    rename_i v d vs ds _
    intro us r hs hz
    cases r with
    | cons r rr =>
      have hs' : d.showable = true ∧ PyData.showableAll ds = true := by simpa [PyData.showableAll] using hs
      obtain ⟨as, R, sm⟩ := el_reads I e r
      obtain ⟨⟨as2, R2⟩, b2, hb2, k2⟩ := ih rr hs'.2 fun t ht => hz t (by simp only [PyData.shownAll]; exact List.mem_cons_of_mem _ ht)
      obtain ⟨b1, hb1, k1⟩ := ReprK.of_reads (prog := X.prog) (w := X.w) R hs'.1 sm (hz _ (by simp only [PyData.shownAll]; exact List.mem_cons_self))
      refine ⟨⟨_, .cons R R2⟩, b1 ++ b2, fun b hm => ?_, ?_⟩
      · simp only [PyData.depthAll]
        rcases List.mem_append.mp hm with h | h
        · obtain ⟨d', as', r', hd'⟩ := hb1 b h
          exact ⟨d', as', r', Nat.le_trans hd' (Nat.le_max_left _ _)⟩
        · obtain ⟨d', as', r', hd'⟩ := hb2 b h
          exact ⟨d', as', r', Nat.le_trans hd' (Nat.le_max_right _ _)⟩
      · simp only [PyData.depthAll, PyData.shownAll]
        exact .cons ((k1.more fun b hb => List.mem_append_left _ hb).level_le (Nat.le_max_left _ _)) (k2.more_le (fun b hb => List.mem_append_right _ hb) (Nat.le_max_right _ _))
/-- repr of such a thing -/
def rReprQ (K : PySem.W.Frag) : List V → Hp → VK → Prop := fun xs H Q => ∃ (x : V) (d : PyData), xs = [x] ∧ Dt K H x d ∧ Q (.str d.shown) H
theorem call_reprQ {k : Nat} (hu : X.A.guards = some []) (hr : Room k X.A) : CallR X (.builtin "repr") (rReprQ X.K) := by
  intro pins z σ H xs us Q I r h
  obtain ⟨x, d, rfl, hd, q⟩ := h
  have := hr.units
  obtain ⟨u, rfl, ru⟩ := vals1 r
  cases hd with
  | non =>
    cases ru
    exact PySem.P.repr_of_none ⟨.str _, H, I.tok _, ⟨_, rfl⟩, by simpa only [PyData.shown] using q⟩
  | bl b =>
    cases ru
    exact PySem.P.repr_of_bool ⟨.str _, H, I.tok _, ⟨_, rfl⟩, by simpa only [PyData.shown] using q⟩
  | int hi =>
    obtain ⟨t, rfl⟩ := ru
    exact PySem.P.repr_of_int hi ⟨.str _, H, I.tok _, ⟨_, rfl⟩, by simpa only [PyData.shown] using q⟩
  | str hz =>
    obtain ⟨t, rfl⟩ := ru
    exact PySem.P.repr_of_str ⟨.str _, H, I.tok _, ⟨_, rfl⟩, by simpa only [PyData.shown] using q⟩ hz
  | dat h n f =>
    obtain ⟨as, R⟩ := Dp.reads I d _ _ h ru
    cases (show u = Value.ref _ from ru)
    have := f.flat
    exact repr_of_reads' R f.able (PyData.noDict_hsm n) hu (by omega) (fun _ _ e => e) (fun h' u tk hk => ⟨.str d.shown, H, I.kept (t' := tk) hk, ⟨u, rfl⟩, q⟩) f.len
  | dct h ln f =>
    cases (show u = Value.ref _ from ru)
    obtain ⟨as, R, n⟩ := reads_kv I h ln
    have := f.flat
    exact repr_of_reads' R f.able (fun _ => n) hu (by omega) (fun _ _ e => e) (fun h' u tk hk => ⟨.str _, H, I.kept (t' := tk) hk, ⟨u, rfl⟩, q⟩) f.len
  | row h e f =>
    rename_i a ys ds
    cases (show u = Value.ref _ from ru)
    obtain ⟨its, rv, hl, _⟩ := I.list (SqL.of h)
    obtain ⟨o, ho, hc, n, hdt⟩ := hl.isList
    have hz' : (listText (PyData.shownAll ds)).length ≤ sizeLine := by simpa only [PyData.shown] using f.len
    obtain ⟨⟨as, R⟩, bs, hb, hk⟩ := els_reads I e rv (by simpa [PyData.showable] using f.able) fun t ht => Nat.le_trans (listText_mem_le ht) hz'
    have rr : Reads z.heap (.ref a) (.list ds) _ := .list ho hc hdt (by simpa using R)
    have hna : a ∉ bs := not_mem_of_deeper rr (by simp only [PyData.depth]; omega) hb
    have fl := f.flat
    simp only [PyData.depth] at fl
    refine call_repr_slot (T := "list") (idr := "list.__repr__") (by omega) ⟨o, ho, hc⟩ F.slot_list_repr.toG ?_
    have hg : (X.A.in1).guards = some [] := hu
    have fin : ∀ h' u tk, (∀ b o, z.heap.get? b = some o → h'.get? b = some o) → EP X pins σ Q (.str (listText (PyData.shownAll ds)) u) { z with heap := h', toks := tk } := fun h' u tk hk => ⟨.str _, H, I.kept (t' := tk) hk, ⟨u, rfl⟩, by simpa only [PyData.shown] using q⟩
    cases its with
    | nil =>
      cases R
      simp only [PyData.shownAll, listText_nil] at fin
      exact call_list_repr_empty ⟨o, ho, hc⟩ ho hdt ⟨_, _, rfl, fin z.heap _ _ fun _ _ e => e⟩
    | cons x l =>
      exact call_list_reprK ho hc hdt hna (by simpa using hk.length_eq) (fun i y e => hk.item i y (by simpa using e)) hg (fun b _ => Clear.nil b) (by show X.A.units + 1 + (PyData.depthAll ds + 1) < cLine; omega) (fun _ _ e => e) (fun h' u tk hk => ⟨_, _, rfl, fin h' u tk hk⟩) hz'
end
end Rq

/-! truths among whole numbers, a list that may be empty, dict(enumerate(xs)): k01. -/
namespace Rq
open PySem PySem.Spec PyProof.Rows L2
def numI : V → Int
  | .int i => i
  | .bl b => if b = true then 1 else 0
  | _ => 0
section
variable {X : Cx}
theorem op_addQ : OpR X (binaryOp .Add) (fun x y H Q => ∃ j, Num x ∧ y = .int j ∧ Q (.int (numI x + j)) H) := by
  intro pins s σ H x y v u Q I rx ry h
  obtain ⟨j, n, rfl, q⟩ := h
  rcases n with ⟨i, rfl⟩ | ⟨b, rfl⟩
  · exact op_add pins s σ H _ _ v u Q I rx ry ⟨i, j, rfl, rfl, q⟩
  · cases rx
    obtain ⟨t, rfl⟩ := ry
    exact PySem.IntBool.add_bool_int ⟨.int _, H, I.tok _, ⟨_, rfl⟩, q⟩
theorem op_subQ : OpR X (binaryOp .Sub) (fun x y H Q => ∃ j, Num x ∧ y = .int j ∧ Q (.int (numI x - j)) H) := by
  intro pins s σ H x y v u Q I rx ry h
  obtain ⟨j, n, rfl, q⟩ := h
  rcases n with ⟨i, rfl⟩ | ⟨b, rfl⟩
  · exact op_sub pins s σ H _ _ v u Q I rx ry ⟨i, j, rfl, rfl, q⟩
  · cases rx
    obtain ⟨t, rfl⟩ := ry
    exact PySem.IntBool.sub_bool_int ⟨.int _, H, I.tok _, ⟨_, rfl⟩, q⟩
/-- xs == [] -/
def rEqNil (K : PySem.W.Frag) : R2 := fun x y H Q => ∃ a b xs, x = .ref a ∧ y = .ref b ∧ SqL K H a xs ∧ SqL K H b [] ∧ Q (.bl xs.isEmpty) H
def rNeNil (K : PySem.W.Frag) : R2 := fun x y H Q => ∃ a b xs, x = .ref a ∧ y = .ref b ∧ SqL K H a xs ∧ SqL K H b [] ∧ Q (.bl (!xs.isEmpty)) H
theorem op_eqNil (hu : X.A.units + 64 < cLine) : OpR X (compareOp .Eq) (rEqNil X.K) := by
  intro pins s σ H x y v u Q I rx ry h
  obtain ⟨a, b, xs, rfl, rfl, ha, hb, q⟩ := h
  cases (show v = Value.ref a from rx)
  cases (show u = Value.ref b from ry)
  obtain ⟨us, r1, p1, _⟩ := I.list ha
  obtain ⟨ws, r2, p2, _⟩ := I.list hb
  cases r2
  cases xs with
  | nil =>
    cases r1
    exact SeqAt.eq_listAt (e := fun _ => true) p1.isList p2.isList rfl (by omega) (fun j h1 h2 => absurd h1 (Nat.not_lt_zero j)) ⟨.bl true, H, I, rfl, q⟩
  | cons x xs =>
    cases r1
    exact SeqAt.eq_list_lengthsAt p1.isList p2.isList (by simp) (by omega) ⟨.bl false, H, I, rfl, q⟩
theorem op_neNil (hu : X.A.units + 64 < cLine) : OpR X (compareOp .NotEq) (rNeNil X.K) := by
  intro pins s σ H x y v u Q I rx ry h
  obtain ⟨a, b, xs, rfl, rfl, ha, hb, q⟩ := h
  cases (show v = Value.ref a from rx)
  cases (show u = Value.ref b from ry)
  obtain ⟨us, r1, p1, _⟩ := I.list ha
  obtain ⟨ws, r2, p2, _⟩ := I.list hb
  cases r2
  cases xs with
  | nil =>
    cases r1
    exact SeqAt.RcNeAt.lists (e := fun _ => true) p1.isList p2.isList rfl (by omega) (fun j h1 h2 => absurd h1 (Nat.not_lt_zero j)) _ _ _ _ ⟨.bl false, H, I, rfl, q⟩
  | cons x xs =>
    cases r1
    exact SeqAt.RcNeAt.lists_lengths p1.isList p2.isList (by simp) (by omega) _ _ _ _ ⟨.bl true, H, I, rfl, q⟩
end
/-- the items of enumerate -/
def enK : Nat → List V → List (Int × V)
  | _, [] => []
  | k, x :: xs => ((k : Int), x) :: enK (k + 1) xs
theorem enK_mem : ∀ {xs : List V} {k : Nat} {e : Int × V}, e ∈ enK k xs → e.2 ∈ xs ∧ (k : Int) ≤ e.1 ∧ e.1 < (k : Int) + xs.length
  | [], _, _, h => nomatch h
  | x :: xs, k, e, h => by
    rcases List.mem_cons.mp h with rfl | h
    · refine ⟨List.mem_cons_self, Int.le_refl _, ?_⟩
      rw [List.length_cons]
      show (k : Int) < _
      omega
    · obtain ⟨h1, h2, h3⟩ := enK_mem h
      rw [List.length_cons]
      exact ⟨List.mem_cons_of_mem _ h1, by omega, by omega⟩
theorem enK_len : ∀ (xs : List V) (k : Nat), (enK k xs).length = xs.length
  | [], _ => rfl
  | x :: xs, k => by rw [enK, List.length_cons, List.length_cons, enK_len xs]
theorem merge_en : ∀ (xs : List V) (k : Nat) (acc : List (L2.Key × V)), (∀ e ∈ acc, ∃ j : Int, e.1 = Sum.inl j ∧ j < (k : Int)) → mergeK acc ((enK k xs).map entQ) = acc ++ (enK k xs).map entQ
  | [], _, acc, _ => by
    show acc = acc ++ []
    rw [List.append_nil]
  | x :: xs, k, acc, h => by
    have no : valV acc (Sum.inl (k : Int)) = none := by
      unfold valV
      rw [Option.map_eq_none_iff, List.find?_eq_none]
      intro e he
      obtain ⟨j, h1, h2⟩ := h e he
      rw [h1]
      simp
      omega
    show mergeK (putK acc (Sum.inl (k : Int)) x) ((enK (k + 1) xs).map entQ) = _
    rw [putK_new x no, merge_en xs (k + 1) _ fun e he => ?_]
    · rw [List.append_assoc]
      rfl
    · rcases List.mem_append.mp he with he | he
      · obtain ⟨j, h1, h2⟩ := h e he
        exact ⟨j, h1, by omega⟩
      · rw [List.mem_singleton.mp he]
        exact ⟨k, rfl, by omega⟩
/-- the same of values -/
def enV : Nat → List Value → List (L2.Key × Value)
  | _, [] => []
  | k, x :: xs => (Sum.inl (k : Int), x) :: enV (k + 1) xs
theorem enV_len : ∀ (xs : List Value) (k : Nat), (enV k xs).length = xs.length
  | [], _ => rfl
  | x :: xs, k => by rw [enV, List.length_cons, List.length_cons, enV_len xs]
theorem enV_at : ∀ {xs : List Value} {k i : Nat} {v : Value}, xs[i]? = some v → (enV k xs)[i]? = some (Sum.inl ((k + i : Nat) : Int), v)
  | [], _, _, _, h => by simp at h
  | x :: xs, k, 0, v, h => by cases h; rfl
  | x :: xs, k, i + 1, v, h => by
    have := enV_at (xs := xs) (k := k + 1) (i := i) h
    rw [show k + (i + 1) = k + 1 + i by omega]
    exact this
theorem en_kv : ∀ {xs : List V} {us : List Value} (k : Nat), Vals xs us → KV ((enK k xs).map entQ) (enV k us)
  | _, _, k, .nil => .nil
  | _, _, k, .cons r rr => .cons ⟨rfl, r⟩ (en_kv (k + 1) rr)
def tEnumD (K : PySem.W.Frag) (te : TE) : TE := fun σ H Q => te σ H fun x H1 => ∃ (a : Addr) (xs : List V), x = .ref a ∧ SqL K H1 a xs ∧ ∀ p, H1 p = none → Q (.ref p) (upd H1 p (.dK ((enK 0 xs).map entQ)))
section
variable {X : Cx} {e : Expr} {te : TE} {p p2 pos pos2 : Pos}
theorem pe_dictEnum (hm : X.mg "dict" = none) (hm2 : X.mg "enumerate" = none) (he : PE X e te) (hc : X.calm = true := by rfl) (hg : Gl X "dict" := by rfl) (hg2 : Gl X "enumerate" := by rfl)
    (hs2 : starEach [e] X.env = [(false, eval e X.env)] := by rfl)
    (hs : starEach [.Call (.Name "enumerate" p2) [e] [] pos2] X.env = (false, eval (.Call (.Name "enumerate" p2) [e] [] pos2) X.env) :: starEach [] X.env := by rfl) :
    PE X (.Call (.Name "dict" p) [.Call (.Name "enumerate" p2) [e] [] pos2] [] pos) (tEnumD X.K te) := by
  refine ⟨fun pins s σ H Q I hq => ?_⟩
  refine wpAny_Call_Name_kw (ld_blt I hg hm (by decide +kernel : bootBuiltins "dict" = some (.type "dict")) ?_)
  refine PyProof.Rows.callWith_type1 ?_ hs rfl
  rw [hs]
  show wpAny _ _ (spliced ((false, eval (.Call (.Name "enumerate" p2) [e] [] pos2) X.env) :: backTo pos (starEach [] X.env))) _ _ s
  refine Calls.spliced_cons ?_
  refine Call_ (ld_blt I hg2 hm2 boot_enumerate (PyProof.Rows.callWith_type1 ?_ hs2 rfl))
  rw [hs2]
  show wpAny _ _ (spliced ((false, eval e X.env) :: backTo pos2 (starEach [] X.env))) _ _ s
  refine Calls.spliced_cons (thn (he.run pins s σ H _ I hq) fun v s1 ⟨x, H1, I1, r1, a, xs, ex, hq1, q⟩ => ?_)
  subst ex
  obtain rfl : v = Value.ref a := r1
  refine Calls.spliced_nil ?_
  obtain ⟨its, rv, pl, hz⟩ := I1.list hq1
  refine call_enumerate_list pl.isList fun h' he' hit hsz hk => ?_
  refine Calls.spliced_nil ?_
  have la : a < s1.heap.objs.size := let ⟨_, z, _⟩ := pl.isList; Heap.lt_size z
  have hlen : its.length = xs.length := rv.length.symm
  refine call_dict_pairs (s := { s1 with heap := h' }) (knd := mixKind X.prog X.w) (kvs := enV 0 its) (PairArg.enumerate _ _ a (Nat.succ_ne_self _) (Nat.ne_of_lt (Nat.lt_succ_of_lt la)) (Nat.ne_of_lt la) its.toArray) (I1.ok.hd hc) ⟨⟨_, he'⟩, hit, pl.isList.at fun o z => hk _ o z⟩ ⟨by rw [enV_len, List.size_toArray], fun i key v h => ?_⟩ (by rw [List.size_toArray, hlen]; exact hz) fun h2 tk hd2 k2 => ?_
  · obtain ⟨⟨t, rfl⟩, hv⟩ := h
    rw [List.getElem?_toArray] at hv
    refine ⟨_, enV_at hv, ?_⟩
    rw [Nat.zero_add]
    exact kV_is (k := Sum.inl ((i : Nat) : Int)) ⟨t, rfl⟩
  · dsimp only at k2 ⊢
    have keep : ∀ b o, s1.heap.get? b = some o → h2.get? b = some o := fun b o z => k2 b o (fun hm => by
      simp only [List.mem_cons, List.not_mem_nil, or_false] at hm
      have hb := Heap.lt_size z
      rcases hm with h | h
      · subst h
        exact absurd hb (Nat.not_lt.mpr (Nat.le_succ _))
      · subst h
        exact absurd hb (Nat.lt_irrefl _)) (hk b o z)
    have big : s1.heap.objs.size ≤ h'.objs.size := by rw [hsz]; omega
    have hsys : (h'.objs.size == sysModules) = false := beq_eq_false_iff_ne.mpr (Nat.ne_of_gt (Nat.lt_of_lt_of_le I1.big big))
    have em : mergeK [] ((enK 0 xs).map entQ) = (enK 0 xs).map entQ := merge_en xs 0 [] fun e he => nomatch he
    refine ⟨.ref h'.objs.size, upd H1 h'.objs.size (.dK ((enK 0 xs).map entQ)), I1.laid (t' := tk) keep big (show ObjOk X.prog X.w _ _ _ (.dK _) from ⟨by rw [List.length_map, enK_len]; exact hz, hsys, merged [] (enV 0 its), ?_, hd2⟩), rfl, q _ (I1.hok.fresh big)⟩
    rw [← em]
    exact KV.merge (en_kv 0 rv) .nil
end
end Rq

/-! rows and things of all kinds, as k01 draws them. -/
namespace Rq
open PySem L2 Sp
theorem ni_bl {K : PySem.W.Frag} {H : Hp} {b : Bool} : NoInt K H (.bl b) := ⟨"bool", by decide, .base (.bl b)⟩
theorem ni_str {K : PySem.W.Frag} {H : Hp} {z : Str} : NoInt K H (.str z) := ⟨"str", by decide, .base (.str z)⟩
theorem ni_non {K : PySem.W.Frag} {H : Hp} : NoInt K H .non := ⟨"NoneType", by decide, .base .non⟩
theorem ni_lst {K : PySem.W.Frag} {H : Hp} {p : Addr} {xs : List V} (h : H p = some (.lst xs)) : NoInt K H (.ref p) := ⟨"list", by decide, .base (.lst h)⟩
theorem ni_tup {K : PySem.W.Frag} {H : Hp} {p : Addr} {xs : List V} (h : H p = some (.tup xs)) : NoInt K H (.ref p) := ⟨"tuple", by decide, .base (.tup h)⟩
theorem ni_dct {K : PySem.W.Frag} {H : Hp} {p : Addr} {kvs : List (L2.Key × V)} (h : H p = some (.dK kvs)) : NoInt K H (.ref p) := ⟨"dict", by decide, .base (.dK h)⟩
/-- within -c .. c -/
def Bnd (c : Int) (v : V) : Prop := -c ≤ numI v ∧ numI v ≤ c
theorem log_bnd {c : Int} {v : V} (h : Bnd c v) (hc : c ≤ 1000000000000000000000000000000000000000000) : (numI v).natAbs.log2 < 140 := by
  obtain ⟨h1, h2⟩ := h
  by_cases h0 : (numI v).natAbs = 0
  · rw [h0]; decide
  · exact (Nat.log2_lt h0).mpr (by omega)
/-- what is needed of an item's data -/
structure Lite (d : PyData) : Prop where
  able : d.showable = true
  leaf : d.leavesShort 152 = true
  small : d.weight ≤ 140
  flat : d.depth ≤ 3
theorem lite_int {i : Int} (h : i.natAbs.log2 < 140) : Lite (.int i) := by
  refine ⟨?_, ?_, ?_, by rw [PyData.depth]; omega⟩
  · rw [PyData.showable]
    exact decide_eq_true (by omega)
  · rw [PyData.leavesShort]
    refine decide_eq_true ?_
    show (Str.ofString (toString i)).length ≤ 152
    rw [PySem.ofString_length]
    have := int_text_length_le (k := 140) (by decide) h
    omega
  · rw [PyData.weight]
    split <;> omega
theorem lite_num {v : V} (n : Num v) (h : (numI v).natAbs.log2 < 140) : Lite (numD v) := by
  rcases n with ⟨i, rfl⟩ | ⟨b, rfl⟩
  · exact lite_int h
  · cases b
    · exact ⟨rfl, rfl, by decide, by decide⟩
    · exact ⟨rfl, rfl, by decide, by decide⟩
theorem num_dp {K : PySem.W.Frag} {H : Hp} {v : V} (n : Num v) : Dp K H v (numD v) := by
  rcases n with ⟨i, rfl⟩ | ⟨b, rfl⟩
  · exact .int i
  · exact .bl b
theorem num_kn {K : PySem.W.Frag} {H : Hp} {v : V} (n : Num v) : Kn K H v := by
  rcases n with ⟨i, rfl⟩ | ⟨b, rfl⟩
  · exact .inl ⟨i, rfl⟩
  · exact .inr ni_bl
theorem num_hd {v : V} (n : Num v) : (numD v).hasDict = false := by
  rcases n with ⟨i, rfl⟩ | ⟨b, rfl⟩ <;> rfl
/-- an item: what it is, whatever becomes of the hand -/
def Od (K : PySem.W.Frag) (a : Addr) (H : Hp) (v : V) : Prop := ∃ d, Lite d ∧ ∀ H', Ext a H H' → El K H' v d ∧ Kn K H' v
theorem Od.ext {K : PySem.W.Frag} {a : Addr} {H H1 : Hp} {v : V} (o : Od K a H v) (e : Ext a H H1) : Od K a H1 v := by
  obtain ⟨d, l, h⟩ := o
  exact ⟨d, l, fun H' e' => h H' (e.trans e')⟩
theorem od_num {K : PySem.W.Frag} {a : Addr} {H : Hp} {v : V} (n : Num v) {c : Int} (b : Bnd c v) (hc : c ≤ 1000000000000000000000000000000000000000000) : Od K a H v :=
  ⟨numD v, lite_num n (log_bnd b hc), fun H' _ => ⟨.dat (num_dp n) (num_hd n), num_kn n⟩⟩
/-- what is known of a thing that is_row is asked of -/
inductive Inf (K : PySem.W.Frag) (H : Hp) : V → Prop
  | lst {p : Addr} {xs : List V} : H p = some (.lst xs) → (∀ y ∈ xs, Kn K H y) → Inf K H (.ref p)
  | tup {p : Addr} {xs : List V} : H p = some (.tup xs) → Inf K H (.ref p)
  | dct {p : Addr} {kvs : List (L2.Key × V)} : H p = some (.dK kvs) → Inf K H (.ref p)
  | int (i : Int) : Inf K H (.int i)
  | bl (b : Bool) : Inf K H (.bl b)
  | str (z : Str) : Inf K H (.str z)
  | non : Inf K H .non
theorem Inf.two {K : PySem.W.Frag} {H : Hp} {v : V} (h : Inf K H v) : (∃ (p : Addr) (xs : List V), v = .ref p ∧ H p = some (.lst xs) ∧ ∀ y ∈ xs, Kn K H y) ∨ ∃ T, T ∈ ["int", "bool", "str", "NoneType", "tuple", "dict"] ∧ TyX K H v (.type T) ∧ ∀ (p : Addr) (xs : List V), v = .ref p → H p ≠ some (.lst xs) := by
  cases h with
  | lst e k => exact .inl ⟨_, _, rfl, e, k⟩
  | tup e => exact .inr ⟨"tuple", by decide, .base (.tup e), fun p xs h1 h2 => by cases h1; rw [e] at h2; cases h2⟩
  | dct e => exact .inr ⟨"dict", by decide, .base (.dK e), fun p xs h1 h2 => by cases h1; rw [e] at h2; cases h2⟩
  | int i => exact .inr ⟨"int", by decide, .base (.int i), fun p xs h1 => by cases h1⟩
  | bl b => exact .inr ⟨"bool", by decide, .base (.bl b), fun p xs h1 => by cases h1⟩
  | str z => exact .inr ⟨"str", by decide, .base (.str z), fun p xs h1 => by cases h1⟩
  | non => exact .inr ⟨"NoneType", by decide, .base .non, fun p xs h1 => by cases h1⟩
/-- a thing, whatever becomes of the hand -/
def Th (K : PySem.W.Frag) (a : Addr) (H : Hp) (v : V) : Prop := ∃ d, ∀ H', Ext a H H' → Dt K H' v d ∧ Inf K H' v
theorem Th.ext {K : PySem.W.Frag} {a : Addr} {H H1 : Hp} {v : V} (o : Th K a H v) (e : Ext a H H1) : Th K a H1 v := by
  obtain ⟨d, h⟩ := o
  exact ⟨d, fun H' e' => h H' (e.trans e')⟩
/-- a list of whole numbers and truths -/
structure Ns (a : Addr) (c : Int) (H : Hp) (p : Addr) (xs : List V) : Prop where
  at_ : H p = some (.lst xs)
  ne : p ≠ a
  num : ∀ x ∈ xs, Num x ∧ Bnd c x
theorem Ns.ext {a p : Addr} {c : Int} {H H1 : Hp} {xs : List V} (n : Ns a c H p xs) (e : Ext a H H1) : Ns a c H1 p xs := ⟨e.keep _ _ n.at_ n.ne, n.ne, n.num⟩
section
variable {K : PySem.W.Frag} {a p : Addr} {H : Hp} {xs : List V} {c : Int}
/-- the data of items -/
theorem ods : ∀ {xs : List V}, (∀ x ∈ xs, Od K a H x) → ∃ ds : List PyData, (∀ H', Ext a H H' → Els K H' xs ds ∧ ∀ y ∈ xs, Kn K H' y) ∧ PyData.showableAll ds = true ∧ PyData.leavesShortAll 152 ds = true ∧ PyData.weightAll ds ≤ 141 * xs.length ∧ PyData.depthAll ds ≤ 3
  | [], _ => ⟨[], fun _ _ => ⟨.nil, fun _ h => nomatch h⟩, rfl, rfl, Nat.le_refl _, by decide⟩
  | x :: xs, h => by
    obtain ⟨d, l, g⟩ := h x List.mem_cons_self
    obtain ⟨ds, g2, h1, h2, h3, h4⟩ := ods (xs := xs) fun y hy => h y (List.mem_cons_of_mem _ hy)
    refine ⟨d :: ds, fun H' e => ⟨.cons (g H' e).1 (g2 H' e).1, fun y hy => ?_⟩, ?_, ?_, ?_, ?_⟩
    · rcases List.mem_cons.mp hy with rfl | hy
      · exact (g H' e).2
      · exact (g2 H' e).2 y hy
    · rw [PyData.showableAll, l.able, h1]
      rfl
    · rw [PyData.leavesShortAll, l.leaf, h2]
      rfl
    · rw [PyData.weightAll, List.length_cons]
      have := l.small
      omega
    · rw [PyData.depthAll]
      have := l.flat
      omega
theorem th_list (hp : H p = some (.lst xs)) (np : p ≠ a) (h : ∀ x ∈ xs, Od K a H x) (hl : xs.length ≤ 320) : Th K a H (.ref p) := by
  obtain ⟨ds, g, h1, h2, h3, h4⟩ := ods h
  refine ⟨.list ds, fun H' e => ?_⟩
  have e1 := e.keep _ _ hp np
  refine ⟨.row e1 (g H' e).1 ⟨by rw [PyData.showable]; exact h1, by rw [PyData.leavesShort]; exact h2, by rw [PyData.weight]; omega, by rw [PyData.depth]; omega⟩, .lst e1 (g H' e).2⟩
theorem ns_th (n : Ns a c H p xs) (hc : c ≤ 1000000000000000000000000000000000000000000) (hl : xs.length ≤ 320) : Th K a H (.ref p) :=
  th_list n.at_ n.ne (fun x hx => od_num (n.num x hx).1 (n.num x hx).2 hc) hl
/-- the data of a row of numbers -/
theorem nums_dp {H' : Hp} : ∀ {xs : List V}, (∀ x ∈ xs, Num x ∧ Bnd c x) → DpAll K H' xs (xs.map numD)
  | [], _ => .nil
  | x :: xs, h => .cons (num_dp (h x List.mem_cons_self).1) (nums_dp fun y hy => h y (List.mem_cons_of_mem _ hy))
theorem nums_lite (hc : c ≤ 1000000000000000000000000000000000000000000) : ∀ {xs : List V}, (∀ x ∈ xs, Num x ∧ Bnd c x) → PyData.showableAll (xs.map numD) = true ∧ PyData.leavesShortAll 152 (xs.map numD) = true ∧ PyData.weightAll (xs.map numD) ≤ 141 * xs.length ∧ PyData.depthAll (xs.map numD) ≤ 3 ∧ PyData.hasDictAll (xs.map numD) = false
  | [], _ => ⟨rfl, rfl, Nat.le_refl _, by decide, rfl⟩
  | x :: xs, h => by
    obtain ⟨h1, h2, h3, h4, h5⟩ := nums_lite hc (xs := xs) fun y hy => h y (List.mem_cons_of_mem _ hy)
    obtain ⟨n, b⟩ := h x List.mem_cons_self
    have l := lite_num n (log_bnd b hc)
    refine ⟨?_, ?_, ?_, ?_, ?_⟩
    · rw [List.map_cons, PyData.showableAll, l.able, h1]
      rfl
    · rw [List.map_cons, PyData.leavesShortAll, l.leaf, h2]
      rfl
    · rw [List.map_cons, PyData.weightAll, List.length_cons]
      have := l.small
      omega
    · rw [List.map_cons, PyData.depthAll]
      have := l.flat
      omega
    · rw [List.map_cons, PyData.hasDictAll, num_hd n, h5]
      rfl
theorem fit_of {d : PyData} (h1 : d.showable = true) (h2 : d.leavesShort 152 = true) (h3 : d.weight ≤ 100000) (h4 : d.depth ≤ 50) : Fit d := ⟨h1, h2, h3, h4⟩
/-- tuple(row) -/
theorem th_tuple (hh : ∀ H', Ext a H H' → H' p = some (.tup xs)) (h : ∀ x ∈ xs, Num x ∧ Bnd c x) (hc : c ≤ 1000000000000000000000000000000000000000000) (hl : xs.length ≤ 320) : Th K a H (.ref p) := by
  obtain ⟨h1, h2, h3, h4, h5⟩ := nums_lite hc h
  refine ⟨.tuple (xs.map numD), fun H' e => ⟨.dat (.tup (.inl (.inl (hh H' e))) (nums_dp h)) (by rw [PyData.hasDict]; exact h5) ⟨by rw [PyData.showable]; exact h1, by rw [PyData.leavesShort]; exact h2, by rw [PyData.weight]; omega, by rw [PyData.depth]; omega⟩, .tup (hh H' e)⟩⟩
/-- [row] -/
theorem th_in {q : Addr} (hp : H p = some (.lst [.ref q])) (np : p ≠ a) (n : Ns a c H q xs) (hc : c ≤ 1000000000000000000000000000000000000000000) (hl : xs.length ≤ 320) : Th K a H (.ref p) := by
  obtain ⟨h1, h2, h3, h4, h5⟩ := nums_lite hc n.num
  refine ⟨.list [.list (xs.map numD)], fun H' e => ?_⟩
  have e1 := e.keep _ _ hp np
  have e2 := (n.ext e).at_
  refine ⟨.dat (.lst (SqL.new e1) (.cons (.lst (SqL.new e2) (nums_dp n.num)) .nil)) ?_ ⟨?_, ?_, ?_, ?_⟩, .lst e1 fun y hy => ?_⟩
  · simp only [PyData.hasDict, PyData.hasDictAll, h5]
    rfl
  · simp only [PyData.showable, PyData.showableAll, h1]
    rfl
  · simp only [PyData.leavesShort, PyData.leavesShortAll, h2]
    rfl
  · simp only [PyData.weight, PyData.weightAll]
    omega
  · simp only [PyData.depth, PyData.depthAll]
    omega
  · rw [List.mem_singleton.mp hy]
    exact .inr (ni_lst e2)
/-- (row,) -/
theorem th_inT {q : Addr} (hp : ∀ H', Ext a H H' → H' p = some (.tup [.ref q])) (n : Ns a c H q xs) (hc : c ≤ 1000000000000000000000000000000000000000000) (hl : xs.length ≤ 320) : Th K a H (.ref p) := by
  obtain ⟨h1, h2, h3, h4, h5⟩ := nums_lite hc n.num
  refine ⟨.tuple [.list (xs.map numD)], fun H' e => ?_⟩
  have e1 := hp H' e
  have e2 := (n.ext e).at_
  refine ⟨.dat (.tup (.inl (.inl e1)) (.cons (.lst (SqL.new e2) (nums_dp n.num)) .nil)) ?_ ⟨?_, ?_, ?_, ?_⟩, .tup e1⟩
  · simp only [PyData.hasDict, PyData.hasDictAll, h5]
    rfl
  · simp only [PyData.showable, PyData.showableAll, h1]
    rfl
  · simp only [PyData.leavesShort, PyData.leavesShortAll, h2]
    rfl
  · simp only [PyData.weight, PyData.weightAll]
    omega
  · simp only [PyData.depth, PyData.depthAll]
    omega
/-- dict(enumerate(row)) -/
theorem en_lite (hc : c ≤ 1000000000000000000000000000000000000000000) : ∀ {xs : List V} {k : Nat}, (∀ x ∈ xs, Num x ∧ Bnd c x) → k + xs.length ≤ 1000 → PyData.showableKv ((enK k xs).map fun e => (PyData.int e.1, numD e.2)) = true ∧ PyData.leavesShortKv 152 ((enK k xs).map fun e => (PyData.int e.1, numD e.2)) = true ∧ PyData.weightKv ((enK k xs).map fun e => (PyData.int e.1, numD e.2)) ≤ 160 * xs.length ∧ PyData.depthKv ((enK k xs).map fun e => (PyData.int e.1, numD e.2)) ≤ 3
  | [], _, _, _ => ⟨rfl, rfl, Nat.le_refl _, by rw [enK, List.map_nil, PyData.depthKv]; omega⟩
  | x :: xs, k, h, hk => by
    rw [List.length_cons] at hk
    obtain ⟨h1, h2, h3, h4⟩ := en_lite hc (xs := xs) (k := k + 1) (fun y hy => h y (List.mem_cons_of_mem _ hy)) (by omega)
    obtain ⟨n, b⟩ := h x List.mem_cons_self
    have l := lite_num n (log_bnd b hc)
    have lk : ((k : Int)).natAbs.log2 < 10 := by
      by_cases h0 : ((k : Int)).natAbs = 0
      · rw [h0]; decide
      · exact (Nat.log2_lt h0).mpr (by omega)
    have lki := lite_int (i := (k : Int)) (by omega)
    have wk : (PyData.int (k : Int)).weight ≤ 10 := by
      rw [PyData.weight]
      split <;> omega
    refine ⟨?_, ?_, ?_, ?_⟩
    · rw [enK, List.map_cons, PyData.showableKv, l.able, lki.able, h1]
      rfl
    · rw [enK, List.map_cons, PyData.leavesShortKv, l.leaf, lki.leaf, h2]
      rfl
    · rw [enK, List.map_cons, PyData.weightKv, List.length_cons]
      dsimp only
      have := l.small
      omega
    · rw [enK, List.map_cons, PyData.depthKv]
      dsimp only
      have h5 := l.flat
      have h6 := lki.flat
      omega
theorem th_dict (hh : ∀ H', Ext a H H' → H' p = some (.dK ((enK 0 xs).map entQ))) (h : ∀ x ∈ xs, Num x ∧ Bnd c x) (hc : c ≤ 1000000000000000000000000000000000000000000) (hl : xs.length ≤ 320) : Th K a H (.ref p) := by
  obtain ⟨h1, h2, h3, h4⟩ := en_lite hc (k := 0) h (by omega)
  refine ⟨dkv (enK 0 xs), fun H' e => ⟨.dct (hh H' e) (fun e he => (h e.2 (enK_mem he).1).1) ⟨by rw [PyData.showable]; exact h1, by rw [PyData.leavesShort]; exact h2, by rw [PyData.weight]; omega, by rw [PyData.depth]; omega⟩, .dct (hh H' e)⟩⟩
end
end Rq

/-! the promises of k01's defs. -/
namespace Rq
open PySem L2 Sp
def spOdd01 (K : PySem.W.Frag) : L2.Sp := fun vs H Q _ => ∃ (a p : Addr) (xs : List V) (c : Int) (i : Nat), vs = [.ref a, .ref p, .int (i : Int)] ∧ HandAt H a ∧ Ns a c H p xs ∧ i ≤ xs.length ∧ xs.length ≤ 400 ∧ 1000000000000000 ≤ c ∧ c + 1 ≤ 1000000000000000000000000000000000000000000 ∧
  ∀ (v : V) (H' : Hp), Ext a H H' → Od K a H' v → (Num v → Bnd (c + 1) v) → Q v H'
def spSpoilt01 (K : PySem.W.Frag) : L2.Sp := fun vs H Q _ => ∃ (a p : Addr) (xs : List V) (c : Int), vs = [.ref a, .ref p] ∧ HandAt H a ∧ Ns a c H p xs ∧ xs.length ≤ 310 ∧ 1000000000000000 ≤ c ∧ c + 1 ≤ 1000000000000000000000000000000000000000000 ∧
  ∀ (v : V) (H' : Hp), Ext a H H' → Th K a H' v → (∀ (p : Addr) (xs' : List V), v = .ref p → H' p = some (.lst xs') → p ≠ a ∧ xs'.length ≤ xs.length + 1 ∧ ∀ x ∈ xs', Num x → Bnd (c + 1) x) → Q v H'
def spIs01 (K : PySem.W.Frag) : L2.Sp := fun vs H Q _ => ∃ x : V, vs = [x] ∧ Inf K H x ∧ ∀ b : Bool, (b = true ↔ ∃ (p : Addr) (xs : List V), x = .ref p ∧ H p = some (.lst xs) ∧ IsRow xs) → Q (.bl b) H
def spWholes01 (K : PySem.W.Frag) : L2.Sp := fun vs H Q _ => ∃ x : V, vs = [x] ∧ Inf K H x ∧ (∀ (p : Addr) (xs : List V), x = .ref p → H p = some (.lst xs) → xs.length ≤ 1000) ∧ ∀ (b : Bool) (H' : Hp), (b = true → ∃ (p : Addr) (xs : List V), x = .ref p ∧ H p = some (.lst xs) ∧ ∀ y ∈ xs, Num y) → Same H H' → Q (.bl b) H'
theorem Inf.up {K : PySem.W.Frag} {H H' : Hp} {v : V} (s : Same H H') (h : Inf K H v) : Inf K H' v := by
  cases h with
  | lst e k => exact .lst (s _ _ e) fun y hy => (k y hy).up s
  | tup e => exact .tup (s _ _ e)
  | dct e => exact .dct (s _ _ e)
  | int i => exact .int i
  | bl b => exact .bl b
  | str z => exact .str z
  | non => exact .non
theorem bool_ty {K : PySem.W.Frag} {H : Hp} {x : V} {T : String} (t : TyX K H x (.type T)) (h : T = "bool") : Num x := by
  cases t with
  | base b => cases b <;> first | exact .inr ⟨_, rfl⟩ | (exfalso; revert h; decide)
  | _ => exfalso; revert h; decide
/-- an if, its test told once -/
theorem if_once {c : TT} {t u : TS} {D : Ends} {σ : L2.St} {H : Hp} (I J : Hp → Prop) (key : ∀ K : Bool → Hp → Prop, (∀ H1, I H1 → K true H1) → (∀ H1, J H1 → K false H1) → c σ H K) (h1 : ∀ H1, I H1 → t D σ H1) (h2 : ∀ H1, J H1 → u D σ H1) : tIfS c t u D σ H :=
  key (fun b H1 => if b = true then t D σ H1 else u D σ H1) (fun H1 h => by rw [if_pos rfl]; exact h1 H1 h) fun H1 h => by rw [if_neg (by decide)]; exact h2 H1 h
theorem Ns.mono {a p : Addr} {c d : Int} {H : Hp} {xs : List V} (n : Ns a c H p xs) (h : c ≤ d) : Ns a d H p xs := ⟨n.at_, n.ne, fun x hx => ⟨(n.num x hx).1, by have := (n.num x hx).2.1; omega, by have := (n.num x hx).2.2; omega⟩⟩
/-- items of the first so many that are no whole numbers -/
def isNum : V → Bool
  | .int _ => true
  | .bl _ => true
  | _ => false
theorem isNum_iff {v : V} : isNum v = true ↔ Num v := by
  constructor
  · intro h
    cases v <;> first | exact .inl ⟨_, rfl⟩ | exact .inr ⟨_, rfl⟩ | cases h
  · rintro (⟨i, rfl⟩ | ⟨b, rfl⟩) <;> rfl
/-- the last number looked at so far, while all went well -/
theorem row_take {xs : List V} {i : Nat} (h : IsRow (xs.take i)) {n : Int} (hx : xs[i]? = some (.int n)) (hg : ∀ m : Int, 0 < i → xs[i - 1]? = some (.int m) → m ≤ n) : IsRow (xs.take (i + 1)) := by
  obtain ⟨ns, e, s⟩ := h
  have li := (List.getElem?_eq_some_iff.mp hx).1
  refine ⟨ns ++ [n], by rw [take_snoc hx, e, List.map_append]; rfl, List.pairwise_append.mpr ⟨s, List.pairwise_singleton _ _, fun a ha b hb => ?_⟩⟩
  rw [List.mem_singleton.mp hb]
  have ln : ns.length = i := by
    have := congrArg List.length e
    rw [List.length_take, List.length_map] at this
    omega
  obtain ⟨j, hj⟩ := List.mem_iff_getElem?.mp ha
  have lj := (List.getElem?_eq_some_iff.mp hj).1
  obtain ⟨m, hm⟩ : ∃ m, ns[i - 1]? = some m := ⟨_, List.getElem?_eq_getElem (by omega)⟩
  have h1 : xs[i - 1]? = some (.int m) := by
    have : (xs.take i)[i - 1]? = some (V.int m) := by rw [e, List.getElem?_map, hm]; rfl
    rw [List.getElem?_take] at this
    split at this
    · exact this
    · cases this
  have h2 := sorted_le s hj hm (by omega)
  have h3 := hg m (by omega) h1
  omega
theorem row_sub {xs : List V} {i : Nat} (h : IsRow xs) : IsRow (xs.take i) := by
  obtain ⟨ns, rfl, s⟩ := h
  exact ⟨ns.take i, by rw [List.map_take], s.sublist (List.take_sublist _ _)⟩
end Rq

namespace Sp
open PySem L2
def top (i : Nat) : Stmt := PySem.Challenge.pw_sumplace_k01_what_is_a_row.main.body.getD i (.Pass ⟨0, 0, 0, 0⟩)
abbrev sis_whole : Stmt := top 1
abbrev sis_row : Stmt := top 2
abbrev slaw_hand : Stmt := top 4
abbrev slaw_draw : Stmt := top 5
abbrev slaw_cells : Stmt := top 6
abbrev slaw_great : Stmt := top 7
abbrev slaw_row : Stmt := top 8
abbrev slaw_odd : Stmt := top 9
abbrev slaw_spoilt : Stmt := top 10
abbrev slaw_is : Stmt := top 11
abbrev slaw_whole_numbers : Stmt := top 12
abbrev slaw : Stmt := top 13
theorem scis_whole : FnScope ["thing"] ["thing"] (defScope sis_whole) := ⟨rfl, rfl, rfl, by decide +kernel, rfl, by decide +kernel, by decide +kernel⟩
theorem scis_row : FnScope ["thing", "at", "number"] ["thing"] (defScope sis_row) := ⟨rfl, rfl, rfl, by decide +kernel, rfl, by decide +kernel, by decide +kernel⟩
theorem sclaw_hand : FnScope ["cell", "k", "digits"] ["cell", "k"] (defScope slaw_hand) := ⟨rfl, rfl, rfl, by decide +kernel, rfl, by decide +kernel, by decide +kernel⟩
theorem sclaw_draw : FnScope ["hand", "limit", "got"] ["hand", "limit"] (defScope slaw_draw) := ⟨rfl, rfl, rfl, by decide +kernel, rfl, by decide +kernel, by decide +kernel⟩
theorem sclaw_cells : FnScope ["script", "many"] ["script", "many"] (defScope slaw_cells) := ⟨rfl, rfl, rfl, by decide +kernel, rfl, by decide +kernel, by decide +kernel⟩
theorem sclaw_great : FnScope ["script"] ["script"] (defScope slaw_great) := ⟨rfl, rfl, rfl, by decide +kernel, rfl, by decide +kernel, by decide +kernel⟩
theorem sclaw_row : FnScope ["hand", "least", "most", "many", "reach", "kind", "low", "step", "k"] ["hand", "least", "most"] (defScope slaw_row) := ⟨rfl, rfl, rfl, by decide +kernel, rfl, by decide +kernel, by decide +kernel⟩
theorem sclaw_odd : FnScope ["hand", "row", "at", "ahead", "some"] ["hand", "row", "at"] (defScope slaw_odd) := ⟨rfl, rfl, rfl, by decide +kernel, rfl, by decide +kernel, by decide +kernel⟩
theorem sclaw_spoilt : FnScope ["hand", "row", "kind", "some", "at"] ["hand", "row"] (defScope slaw_spoilt) := ⟨rfl, rfl, rfl, by decide +kernel, rfl, by decide +kernel, by decide +kernel⟩
theorem sclaw_is : FnScope ["thing", "ahead", "one"] ["thing"] (defScope slaw_is) := ⟨rfl, rfl, rfl, by decide +kernel, rfl, by decide +kernel, by decide +kernel⟩
theorem sclaw_whole_numbers : FnScope ["thing", "one"] ["thing"] (defScope slaw_whole_numbers) := ⟨rfl, rfl, rfl, by decide +kernel, rfl, by decide +kernel, by decide +kernel⟩
theorem sclaw : FnScope ["script", "deep", "k", "thing", "cell", "hand", "row", "sizes", "number", "spoilt", "once", "kept", "told"] ["script"] (defScope slaw) := ⟨rfl, rfl, rfl, by decide +kernel, rfl, by decide +kernel, by decide +kernel⟩
end Sp

namespace Sp
open PySem L2
section
variable {P : Program} {w : World} {K : PySem.W.Frag} {mg : Str → Option Value} {base : Heap}
local macro_rules | `(tactic| walk_at "side") => `(tactic| first
  | exact mulW (by omega) (by omega) (by omega) (by omega)
  | exact divW (by omega) (by omega)
  | exact mulW (by decide +kernel) (by decide +kernel) (by decide +kernel) (by decide +kernel)
  | (show CPow _ _; exact ⟨by decide, by decide, by decide⟩)
  | (show (0 : Int) < _; omega)
  | exact small (Nat.le_of_ble_eq_true rfl)
  | decide
  | omega
  | exact Pr.divG (by omega) (by omega) (by omega))
local macro_rules | `(tactic| walk_at "ne") => `(tactic| first | assumption | exact ne_of_none (by assumption) (by assumption) | exact Ne.symm (by assumption))
local macro_rules | `(tactic| walk_at "get") => `(tactic| first | assumption | exact upd_same | (refine (by assumption : Same _ _) _ _ ?_; walk_at "get") | (refine Ext.keep (by assumption) _ _ ?_ (by walk_at "ne"); walk_at "get"))
local macro_rules | `(tactic| walk_at "sq") => `(tactic| first | assumption | exact SqL.new (by walk_at "get") | exact Or.inl (Or.inl (by walk_at "get")) | (refine Same.seq (by assumption) ?_; walk_at "sq") | (refine seqExt (by assumption) (by walk_at "ne") ?_; walk_at "sq"))
local macro_rules | `(tactic| walk_at "hand") => `(tactic| first | assumption | (refine HandAt.same (by assumption) ?_; walk_at "hand") | (refine Ext.hand (by assumption) ?_; walk_at "hand"))
local macro_rules | `(tactic| walk_at "at") => `(tactic| first | exact at0 | exact at1)
local macro_rules | `(tactic| walk_at "s") => `(tactic| first
  | refine ⟨_, rfl, ?_⟩
  | refine ⟨_, _, rfl, rfl, ?_⟩
  | refine ⟨_, _, _, _, rfl, rfl, (by walk_at "sq"), (by walk_at "at"), ?_⟩
  | refine ⟨_, _, _, _, rfl, rfl, (by first | assumption | exact upd_same), rfl, ?_⟩
  | refine And.intro (by walk_at "side") ?_)
local macro_rules | `(tactic| walk_at "pos") => `(tactic| first | omega | decide | (show (0 : Int) < _; decide +kernel) | (show _ < (2 ^ 62 : Int); decide +kernel) | (show (0 : Int) < _; omega))

theorem ok_hand {f : Addr} {fd : FuncData} (F : Fun K "_law_hand" "_law_hand" slaw_hand f fd) : FnOk P w K mg base CX0 1 f fd ["cell", "k"] spHand := by
  have nd := sclaw_hand.nd
  refine F.ok sclaw_hand (fun vs H Q E h => ?_) (fun cdv A outer s H vs Q E hr h => ?_)
  · obtain ⟨c, k, rfl, _⟩ := h
    rfl
  · obtain ⟨c, k, rfl, hk0, hk, q⟩ := h
    refine ⟨_, (pss_cons (ps_set (i := 2) nd rfl (.inl rfl) pe_int)
      (Evl.pss_cut (ps_if (pt_cmpR op_ge (pv 0) (pe_op op_pow pe_int pe_int) (nomark _)) (pss_one (ps_set (i := 2) nd rfl (.inl rfl) (pv 0))) pss_nil)
      (pss_one (ps_ret (pe_lst (pa_cons (pv 2) (pa_cons (pe_op op_mod (pe_op op_mulW (pe_op op_add (pe_op op_add (pe_op op_mod (pv 0) pe_int) (pe_op op_mulW pe_int (pv 1))) pe_int) pe_int) pe_int) pa_nil))))))), ?_⟩
    have m1 := Int.emod_nonneg c (show (2147483587 : Int) ≠ 0 by decide)
    have m2 := Int.emod_lt_of_pos c (show (0 : Int) < 2147483587 by decide)
    refine ⟨fun σ' H' => ∃ d : Int, 0 ≤ d ∧ H' = H ∧ σ' = [some (.int c), some (.int k), some (.int d)], ?_, ?_⟩
    · repeat walk_at "s"
      refine ite2 (fun z => ?_) (fun z => ?_)
      · have z1 : (10 : Int) ^ (Int.toNat 18) ≤ c := of_decide_eq_true z
        have z2 : (0 : Int) ≤ 10 ^ (Int.toNat 18) := by decide
        walk_at "s"
        exact ⟨c, by omega, rfl, rfl⟩
      · exact ⟨0, Int.le_refl 0, rfl, rfl⟩
    · rintro σ' H' ⟨d, hd, rfl, rfl⟩
      repeat walk_at "s"
      intro p hp
      exact q p _ _ hp hd (Int.emod_nonneg _ (by decide)) (Int.emod_lt_of_pos _ (by decide))

theorem ok_draw {f : Addr} {fd : FuncData} (F : Fun K "_law_draw" "_law_draw" slaw_draw f fd) : FnOk P w K mg base CX0 1 f fd ["hand", "limit"] spDraw := by
  have nd := sclaw_draw.nd
  refine F.ok sclaw_draw (fun vs H Q E h => ?_) (fun cdv A outer s H vs Q E hr h => ?_)
  · obtain ⟨a, n, rfl, _⟩ := h
    rfl
  · obtain ⟨a, n, rfl, ⟨x, y, e, hx, hy, hy2⟩, hn0, hn, q⟩ := h
    refine ⟨_, (pss_cons (ps_if (pt_cmpR op_gt (pe_ix ix_list (pv 0) pe_int (fun _ _ => rfl)) pe_int (nomark _)) (pss_cons (ps_set (i := 2) nd rfl (.inl rfl) (pe_op op_mod (pe_ix ix_list (pv 0) pe_int (fun _ _ => rfl)) (pv 1)))
      (pss_cons (ps_asg (pe_op op_fdivW (pe_ix ix_list (pv 0) pe_int (fun _ _ => rfl)) (pv 1)) (pg_sub (pv 0) pe_int set_list))
      (pss_one (ps_ret (pv 2))))) pss_nil)
      (pss_cons (ps_asg (pe_op op_mod (pe_op op_add (pe_op op_add (pe_op op_mulW (pe_ix ix_list (pv 0) pe_int (fun _ _ => rfl)) (pe_ix ix_list (pv 0) pe_int (fun _ _ => rfl))) (pe_op op_mulW pe_int (pe_ix ix_list (pv 0) pe_int (fun _ _ => rfl)))) pe_int) pe_int) (pg_sub (pv 0) pe_int set_list))
      (pss_one (ps_ret (pe_op op_mod (pe_op op_fdivW (pe_ix ix_list (pv 0) pe_int (fun _ _ => rfl)) pe_int) (pv 1)))))), ?_⟩
    repeat walk_at "s"
    refine ite2 (fun z => ?_) (fun z => ?_)
    · repeat walk_at "s"
      refine q _ _ (Int.emod_nonneg _ (by omega)) (Int.emod_lt_of_pos _ hn0) ⟨_, _, upd_same, Int.ediv_nonneg hx (by omega), hy, hy2⟩ fun b hb => upd_ne hb
    · repeat walk_at "s"
      refine q _ _ (Int.emod_nonneg _ (by omega)) (Int.emod_lt_of_pos _ hn0) ⟨_, _, upd_same, hx, Int.emod_nonneg _ (by decide), Int.emod_lt_of_pos _ (by decide)⟩ fun b hb => upd_ne hb

theorem ok_cells {f : Addr} {fd : FuncData} (B : Bt mg) (F : Fun K "_law_cells" "_law_cells" slaw_cells f fd) : FnOk P w K mg base CX0 1 f fd ["script", "many"] (spCells K) := by
  have nd := sclaw_cells.nd
  refine F.ok sclaw_cells (fun vs H Q E h => ?_) (fun cdv A outer s H vs Q E hr h => ?_)
  · obtain ⟨a, m, ns, rfl, _⟩ := h
    rfl
  · obtain ⟨a, m, ns, rfl, hS, hl, hm, q⟩ := h
    have hu := hr.units
    refine ⟨_, (pss_one (ps_ret (Enl.pe_listEnum B.list_ B.enumerate_ (pe_op op_cat (pe_slice sl_list (pv 0) po_none (po_some (pv 1))) (pe_op op_rep (pe_lst (pa_cons pe_int pa_nil)) (pe_callTy call_int1 (by rfl) B.int_ (by decide +kernel) (pa_cons (pe_cmpR (op_eqD hu) (pv 0) (pe_lst pa_nil) (nomark _)) pa_nil))))))), ?_⟩
    iterate 3 walk_at "s"
    refine ⟨_, _, rfl, hS, ?_⟩
    intro p1 np1
    generalize hg1 : upd H p1 _ = H1
    have s1 : Same H H1 := hg1 ▸ same_new np1
    have e1 := (congrFun hg1 p1).symm.trans upd_same
    clear hg1
    walk_at "s"
    intro p2 np2
    generalize hg2 : upd H1 p2 _ = H2
    have s2 : Same H1 H2 := hg2 ▸ same_new np2
    have e2 := (congrFun hg2 p2).symm.trans upd_same
    clear hg2
    walk_at "s"
    walk_at "s"
    intro p3 np3
    generalize hg3 : upd H2 p3 _ = H3
    have s3 : Same H2 H3 := hg3 ▸ same_new np3
    have e3 := (congrFun hg3 p3).symm.trans upd_same
    clear hg3
    have hS3 : SqL K H3 a (ns.map V.int) := by walk_at "sq"
    have hD : Dp K H3 (.ref p3) (di []) := dp_ints (ns := []) (SqL.new e3)
    refine ⟨di ns, di [], dp_ints hS3, hD, shaped_ints _, shaped_ints _, ?_⟩
    refine .inr ⟨_, rfl, ?_⟩
    refine ⟨_, _, _, rfl, rfl, (by walk_at "get"), ?_, ?_, ?_, ?_⟩
    · split <;> decide
    · split <;> decide
    · split <;> decide
    rw [rep_one, rep_int]
    intro p4 np4
    generalize hg4 : upd H3 p4 _ = H4
    have s4 : Same H3 H4 := hg4 ▸ same_new np4
    have e4 := (congrFun hg4 p4).symm.trans upd_same
    clear hg4
    obtain ⟨ms, em, lm, mm⟩ := cut_map (ns := ns) none (some (m : Int))
    rw [em] at e1
    generalize hk : (if PyData.eqv (di ns) (di []) = true then (1 : Int) else 0).toNat = k at e4
    have hk1 : k ≤ 1 := by rw [← hk]; split <;> decide
    refine ⟨_, _, _, _, rfl, rfl, (by walk_at "get"), e4, small (by rw [List.length_map, List.length_map, List.length_replicate]; omega), ?_⟩
    intro p5 np5
    generalize hg5 : upd H4 p5 _ = H5
    have s5 : Same H4 H5 := hg5 ▸ same_new np5
    have e5 := (congrFun hg5 p5).symm.trans upd_same
    clear hg5
    rw [← List.map_append] at e5
    have hlen : (ms ++ List.replicate k (0 : Int)).length ≤ 64 := by rw [List.length_append, List.length_replicate]; omega
    refine ⟨p5, _, rfl, SqL.new e5, small (by rw [List.length_map]; omega), fun H6 p6 ts s6 np6 _ e6 l6 t6 => ?_⟩
    have sA := (((((s1.trans s2).trans s3).trans s4).trans s5).trans s6)
    refine q H6 p6 ts (ms ++ List.replicate k 0) sA ((((((s1.trans s2).trans s3).trans s4).trans s5)).free np6) e6 (by rw [l6, List.length_map]) hlen fun j t c h1 h2 => ?_
    exact t6 j t (.int c) h1 (by rw [List.getElem?_map, h2]; rfl)

theorem ok_great {f : Addr} {fd : FuncData} (B : Bt mg) (F : Fun K "_law_great" "_law_great" slaw_great f fd) : FnOk P w K mg base CX0 1 f fd ["script"] (spGreat K) := by
  have nd := sclaw_great.nd
  refine F.ok sclaw_great (fun vs H Q E h => ?_) (fun cdv A outer s H vs Q E hr h => ?_)
  · obtain ⟨a, ns, rfl, _⟩ := h
    rfl
  · obtain ⟨a, ns, rfl, hS, q⟩ := h
    refine ⟨_, (pss_one (ps_ret (pe_cmpR op_eq (pe_op op_mod (pe_op op_fdivW (pe_callB (cr_sum rfl) (by rfl) B.sum_ (by decide +kernel) (pa_cons (pv 0) pa_nil)) pe_int) pe_int) pe_int (nomark _)))), ?_⟩
    walk_at "s"
    refine ⟨_, _, rfl, hS, ?_⟩
    repeat walk_at "s"
    exact ⟨rfl, q _⟩

theorem ok_row {f : Addr} {fd : FuncData} (B : Bt mg) (F : Fun K "_law_row" "_law_row" slaw_row f fd) (claw_draw : Cal P w K mg base 1 "_law_draw" ["hand", "limit"] spDraw) : FnOk P w K mg base CX0 2 f fd ["hand", "least", "most"] spRow := by
  have nd := sclaw_row.nd
  refine F.ok sclaw_row (fun vs H Q E h => ?_) (fun cdv A outer s H vs Q E hr h => ?_)
  · obtain ⟨a, lo, hi, rfl, _⟩ := h
    rfl
  · obtain ⟨a, lo, hi, rfl, h0, hlo, hhi, q⟩ := h
    refine ⟨_, (pss_cons (ps_set (i := 3) nd rfl (.inl rfl) (pe_op op_add (pv 1) (pe_own claw_draw (hr.mono (by decide)) (by rfl) (pa_cons (pv 0) (pa_cons (pe_op op_add (pe_op op_sub (pv 2) (pv 1)) pe_int) pa_nil)))))
      (pss_cons (ps_set (i := 4) nd rfl (.inr rfl) (pe_ix ix_list (pe_lst (pa_cons pe_int (pa_cons pe_int (pa_cons pe_int (pa_cons (pe_op op_pow pe_int pe_int) (pa_cons (pe_op op_pow pe_int pe_int) pa_nil)))))) (pe_own claw_draw (hr.mono (by decide)) (by rfl) (pa_cons (pv 0) (pa_cons pe_int pa_nil))) (fun _ _ => rfl)))
      (pss_cons (ps_set (i := 5) nd rfl (.inl rfl) (pe_own claw_draw (hr.mono (by decide)) (by rfl) (pa_cons (pv 0) (pa_cons pe_int pa_nil))))
      (pss_cons (ps_set (i := 6) nd rfl (.inr rfl) (pe_op op_sub (pe_own claw_draw (hr.mono (by decide)) (by rfl) (pa_cons (pv 0) (pa_cons (pe_op op_add (pe_op op_mulW pe_int (pv 4)) pe_int) pa_nil))) (pv 4)))
      (pss_cons (ps_if (pt_cmpR op_eq (pv 5) pe_int (nomark _)) (pss_one (ps_ret (pe_op op_rep (pe_lst (pa_cons (pv 6) pa_nil)) (pv 3)))) pss_nil)
      (pss_cons (ps_if (pt_cmpR op_eq (pv 5) pe_int (nomark _)) (pss_cons (ps_set (i := 7) nd rfl (.inr rfl) (pe_op op_add pe_int (pe_own claw_draw (hr.mono (by decide)) (by rfl) (pa_cons (pv 0) (pa_cons pe_int pa_nil)))))
      (pss_one (ps_ret (pe_lc (own := [("k", 8)]) (by rfl) nd (pi_range1 (by rfl) B.range_ (pa_cons (pv 3) pa_nil)) (blkOk_by (own := [("k", 8)]) (N := ["hand", "least", "most", "many", "reach", "kind", "low", "step", "k"]) (sc := defScope slaw_row) (by decide +kernel)) (fun _ _ _ _ _ => (pg_name (i := 8) nd rfl (.inl rfl))) (fun _ _ _ _ _ => pts_nil) (fun _ _ _ _ _ => (pe_op op_add (pe_callB (call_min2 rfl) (by rfl) B.min_ (by decide +kernel) (pa_cons (pv 6) (pa_cons (pe_op op_sub (pe_op op_pow pe_int pe_int) pe_int) pa_nil))) (pe_op op_mulW (pv 7) (pv 8)))))))) pss_nil)
      (pss_one (ps_ret (pe_callB cr_sortedI (by rfl) B.sorted_ (by decide +kernel) (pa_cons (pe_lc (own := [("k", 8)]) (by rfl) nd (pi_range1 (by rfl) B.range_ (pa_cons (pv 3) pa_nil)) (blkOk_by (own := [("k", 8)]) (N := ["hand", "least", "most", "many", "reach", "kind", "low", "step", "k"]) (sc := defScope slaw_row) (by decide +kernel)) (fun _ _ _ _ _ => (pg_name (i := 8) nd rfl (.inl rfl))) (fun _ _ _ _ _ => pts_nil) (fun _ _ _ _ _ => (pe_op op_sub (pe_own claw_draw (hr.mono (by decide)) (by rfl) (pa_cons (pv 0) (pa_cons (pe_op op_add (pe_op op_mulW pe_int (pv 4)) pe_int) pa_nil))) (pv 4)))) pa_nil)))))))))), ?_⟩
    -- many
    repeat walk_at "s"
    refine ⟨a, _, rfl, (by walk_at "hand"), (by walk_at "pos"), (by walk_at "pos"), ?_⟩
    intro r1 H1 ra1 rb1 h1 k1
    have x1 : Ext a H H1 := drawn h1 k1
    clear k1
    -- reach
    repeat walk_at "s"
    intro p2 np2
    generalize hg2 : upd H1 p2 _ = H2
    have s2 : Same H1 H2 := hg2 ▸ same_new np2
    have e2 := (congrFun hg2 p2).symm.trans upd_same
    clear hg2
    have n2 : p2 ≠ a := HandAt.ne (by walk_at "hand") np2
    repeat walk_at "s"
    refine ⟨a, _, rfl, (by walk_at "hand"), (by walk_at "pos"), (by walk_at "pos"), ?_⟩
    intro r3 H3 ra3 rb3 h3 k3
    have x3 : Ext a H2 H3 := drawn h3 k3
    clear k3
    obtain ⟨y, hy, my⟩ : ∃ y : Int, atI [V.int 1, V.int 4, V.int 30, V.int (10 ^ Int.toNat 6), V.int (10 ^ Int.toNat 15)] r3 = some (.int y) ∧ 0 < y ∧ y ≤ 1000000000000000 := by
      obtain ⟨x, h1, h2⟩ := at_draw (xs := [V.int 1, V.int 4, V.int 30, V.int (10 ^ Int.toNat 6), V.int (10 ^ Int.toNat 15)]) ra3 rb3
      simp only [List.mem_cons, List.not_mem_nil, or_false] at h2
      rcases h2 with rfl | rfl | rfl | rfl | rfl
      all_goals exact ⟨_, h1, by decide, by decide⟩
    refine ⟨_, _, _, _, rfl, rfl, (by walk_at "sq"), hy, ?_⟩
    -- kind
    repeat walk_at "s"
    refine ⟨a, _, rfl, (by walk_at "hand"), (by walk_at "pos"), (by walk_at "pos"), ?_⟩
    intro r4 H4 ra4 rb4 h4 k4
    have x4 : Ext a H3 H4 := drawn h4 k4
    clear k4
    -- low
    repeat walk_at "s"
    refine ⟨a, _, rfl, (by walk_at "hand"), (by walk_at "pos"), (by walk_at "pos"), ?_⟩
    intro r5 H5 ra5 rb5 h5 k5
    have x5 : Ext a H4 H5 := drawn h5 k5
    clear k5
    repeat walk_at "s"
    refine ⟨rfl, _, rfl, ?_⟩
    have X : Ext a H H5 := ((((x1.trans (.same s2)).trans x3).trans x4).trans x5)
    have nm : lo ≤ ((lo : Int) + r1).toNat ∧ ((lo : Int) + r1).toNat ≤ hi := by omega
    refine ite2 (fun z => ?_) (fun z => ?_)
    · -- all alike
      repeat walk_at "s"
      intro p6 np6
      generalize hg6 : upd H5 p6 _ = H6
      have s6 : Same H5 H6 := hg6 ▸ same_new np6
      have e6 := (congrFun hg6 p6).symm.trans upd_same
      clear hg6
      have n6 : p6 ≠ a := HandAt.ne (by walk_at "hand") np6
      walk_at "s"
      refine ⟨_, _, _, rfl, rfl, e6, ?_, ?_, small ?_, ?_⟩
      · omega
      · omega
      · rw [List.length_singleton]; omega
      rw [rep_one, rep_int]
      intro p7 np7
      generalize hg7 : upd H6 p7 _ = H7
      have s7 : Same H6 H7 := hg7 ▸ same_new np7
      have e7 := (congrFun hg7 p7).symm.trans upd_same
      clear hg7
      have n7 : p7 ≠ a := HandAt.ne (by walk_at "hand") np7
      refine q p7 _ H7 ((X.trans (.same s6)).trans (.same s7)) (X.free n7 (s6.free np7)) e7 (by rw [List.length_replicate]; omega) (by rw [List.length_replicate]; omega) ⟨List.pairwise_replicate.mpr (.inr (Int.le_refl _)), fun n hn => ?_⟩
      rw [List.eq_of_mem_replicate hn]
      omega
    · repeat walk_at "s"
      refine ⟨rfl, _, rfl, ?_⟩
      refine ite2 (fun z => ?_) (fun z => ?_)
      · -- by one step
        repeat walk_at "s"
        refine ⟨a, _, rfl, (by walk_at "hand"), (by walk_at "pos"), (by walk_at "pos"), ?_⟩
        intro r6 H6 ra6 rb6 h6 k6
        have x6 : Ext a H5 H6 := drawn h6 k6
        clear k6
        walk_at "s"
        repeat walk_at "s"
        intro D nD
        have nDa : D ≠ a := HandAt.ne (by walk_at "hand") nD
        obtain ⟨b, hb, b1, b2⟩ : ∃ b : Int, (if (10 ^ Int.toNat 15 - 1000 : Int) < r5 - y then (10 ^ Int.toNat 15 - 1000 : Int) else r5 - y) = b ∧ -1000000000000000 ≤ b ∧ b ≤ 999999999999000 := by
          refine ⟨_, rfl, ?_⟩
          rw [show (10 ^ Int.toNat 15 - 1000 : Int) = 999999999999000 from by decide]
          split <;> omega
        refine lc_range (lo := 0) (n := ((lo : Int) + r1).toNat) (fun i H' => Same H6 H' ∧ H' D = some (.lst ((stepped b (1 + r6) i).map V.int))) ⟨same_new nD, upd_same⟩ (fun i Hi hi' w => ?_) (fun Hi w => ?_)
        · obtain ⟨w1, w2⟩ := w
          refine ⟨rfl, ?_⟩
          repeat walk_at "s"
          refine ⟨_, _, rfl, ?_⟩
          repeat walk_at "s"
          refine ⟨_, w2, smallLt (by rw [List.length_map, stepped_len]; omega), fun c o hc => ?_, ?_⟩
          · rw [upd_ne (ne_of_none hc nD)]
            exact w1 c o hc
          · rw [upd_same, stepped_succ, List.map_append, ← hb, Int.zero_add]
            rfl
        · obtain ⟨w1, w2⟩ := w
          refine q D _ Hi ((X.trans x6).trans (.same w1)) (X.free nDa (x6.free nDa nD)) w2 (by rw [stepped_len]; omega) (by rw [stepped_len]; omega) ⟨stepped_sorted (by omega) _, fun n hn => ?_⟩
          obtain ⟨k, hk, rfl⟩ := stepped_mem hn
          have k1 : (k : Int) ≤ 300 := by omega
          have k2 := Int.mul_le_mul (show 1 + r6 ≤ 3 by omega) k1 (by omega) (by omega)
          have k3 := Int.mul_nonneg (show 0 ≤ 1 + r6 by omega) (show (0 : Int) ≤ (k : Int) by omega)
          omega
      · -- drawn
        repeat walk_at "s"
        intro D nD
        have nDa : D ≠ a := HandAt.ne (by walk_at "hand") nD
        refine lc_range (lo := 0) (n := ((lo : Int) + r1).toNat) (fun i H' => ∃ xs : List Int, xs.length = i ∧ Ext a H5 H' ∧ H' D = some (.lst (xs.map V.int)) ∧ ∀ n ∈ xs, -1000000000000000 ≤ n ∧ n ≤ 1000000000000000) ⟨[], rfl, .new nD, upd_same, fun _ z => nomatch z⟩ (fun i Hi hi' w => ?_) (fun Hi w => ?_)
        · obtain ⟨xs, w0, w1, w2, w3⟩ := w
          refine ⟨rfl, ?_⟩
          repeat walk_at "s"
          refine ⟨a, _, rfl, (by walk_at "hand"), (by walk_at "pos"), (by walk_at "pos"), ?_⟩
          intro r6 H6 ra6 rb6 h6 k6
          have x6 : Ext a Hi H6 := drawn h6 k6
          clear k6
          repeat walk_at "s"
          refine ⟨_, x6.keep _ _ w2 nDa, smallLt (by rw [List.length_map]; omega), xs ++ [r6 - y], by rw [List.length_append, w0]; rfl, ⟨fun c o hc hca => ?_, fun hh => ?_⟩, ?_, ?_⟩
          · rw [upd_ne (ne_of_none hc nD)]
            exact (w1.trans x6).keep c o hc hca
          · obtain ⟨u, v, e, r⟩ := (w1.trans x6).hand hh
            exact ⟨u, v, by rw [upd_ne nDa.symm]; exact e, r⟩
          · rw [upd_same, List.map_append]
            rfl
          · intro n hn
            rcases List.mem_append.mp hn with hn | hn
            · exact w3 n hn
            · rw [List.mem_singleton.mp hn]
              omega
        · obtain ⟨xs, w0, w1, w2, w3⟩ := w
          refine ⟨D, xs, rfl, SqL.new w2, fun ms p hp hs np => ?_⟩
          have npa : p ≠ a := HandAt.ne (w1.hand (by walk_at "hand")) np
          refine q p ms _ ((X.trans w1).trans (.new np)) (X.free npa (w1.free npa np)) upd_same (by rw [hp.length_eq]; omega) (by rw [hp.length_eq]; omega) (perm_fine hp hs w3)

theorem ok_is_whole {f : Addr} {fd : FuncData} (B : Bt mg) (F : Fun K "is_whole" "is_whole" sis_whole f fd) : FnOk P w K mg base CX0 1 f fd ["thing"] (spIsWhole K) := by
  have nd := scis_whole.nd
  refine F.ok scis_whole (fun vs H Q E h => ?_) (fun cdv A outer s H vs Q E hr h => ?_)
  · obtain ⟨x, rfl, _⟩ := h
    rfl
  · obtain ⟨x, rfl, h⟩ := h
    refine ⟨_, (pss_one (ps_ret (pe_and (pe_callB call_isi (by rfl) B.isinstance_ (by decide +kernel) (pa_cons (pv 0) (pa_cons (pe_bltn (v := .ty "int") (by rfl) B.int_ (by decide +kernel) rfl) pa_nil))) (pe_one (pe_not (pe_callB call_isi (by rfl) B.isinstance_ (by decide +kernel) (pa_cons (pv 0) (pa_cons (pe_bltn (v := .ty "bool") (by rfl) B.bool_ (by decide +kernel) rfl) pa_nil)))))))), ?_⟩
    walk_at "s"
    rcases h with ⟨⟨n, rfl⟩, q⟩ | ⟨⟨T, hT, ty⟩, q⟩
    · refine ⟨_, _, _, _, true, rfl, .ty "int", .base (.int n), kit_ty (by decide +kernel), ?_⟩
      repeat walk_at "s"
      refine ⟨_, _, _, _, false, rfl, .ty "bool", .base (.int n), kit_ty (by decide +kernel), ?_⟩
      exact ⟨_, rfl, q⟩
    · simp only [kinds, List.mem_cons, List.not_mem_nil, or_false] at hT
      rcases hT with rfl | rfl | rfl | rfl | rfl | rfl
      · refine ⟨_, _, _, _, true, rfl, .ty "int", ty, kit_ty (by decide +kernel), ?_⟩
        repeat walk_at "s"
        refine ⟨_, _, _, _, true, rfl, .ty "bool", ty, kit_ty (by decide +kernel), ?_⟩
        exact ⟨_, rfl, q⟩
      all_goals
        refine ⟨_, _, _, _, false, rfl, .ty "int", ty, kit_ty (by decide +kernel), ?_⟩
        exact ⟨_, rfl, q⟩
theorem ok_is_row {f : Addr} {fd : FuncData} (B : Bt mg) (F : Fun K "is_row" "is_row" sis_row f fd) (cis_whole : Cal P w K mg base 1 "is_whole" ["thing"] (spIsWhole K)) : FnOk P w K mg base CX0 2 f fd ["thing"] (spIsRow K) := by
  have nd := scis_row.nd
  refine F.ok scis_row (fun vs H Q E h => ?_) (fun cdv A outer s H vs Q E hr h => ?_)
  · obtain ⟨x, rfl, _⟩ := h
    rfl
  · obtain ⟨x, rfl, h⟩ := h
    refine ⟨_, (pss_cons (ps_if (pt_not (pt_val (pe_callB call_isi (by rfl) B.isinstance_ (by decide +kernel) (pa_cons (pv 0) (pa_cons (pe_bltn (v := .ty "list") (by rfl) B.list_ (by decide +kernel) rfl) pa_nil))))) (pss_one (ps_ret pe_bl)) pss_nil)
      (pss_cons (ps_for PassesOwn.never rfl (pi_enum (by rfl) B.enumerate_ (pa_cons (pv 0) pa_nil)) (pg_tup rfl (pgs_cons (pg_name (i := 1) nd rfl (.inl rfl)) (pgs_cons (pg_name (i := 2) nd rfl (.inl rfl)) pgs_nil))) (pss_cons (ps_if (pt_not (pt_val (pe_own cis_whole (hr.mono (by decide)) (by rfl) (pa_cons (pv 2) pa_nil)))) (pss_one (ps_ret pe_bl)) pss_nil)
      (pss_one (ps_if (PW.pt (pw_and (pt_cmpR op_gt (pv 1) pe_int (nomark _)) (pw_and1 (pt_cmpR op_lt (pv 2) (pe_ix ix_list (pv 0) (pe_op op_sub (pv 1) pe_int) (fun _ _ => rfl)) (nomark _))))) (pss_one (ps_ret pe_bl)) pss_nil))))
      (pss_one (ps_ret pe_bl)))), ?_⟩
    walk_at "s"
    rcases h with ⟨p, xs, rfl, hS, hk, q⟩ | ⟨T, hT, ty, q⟩
    · refine ⟨_, _, _, _, true, rfl, .ty "list", tyList hS, kit_ty (by decide +kernel), ?_⟩
      repeat walk_at "s"
      refine ⟨p, xs, rfl, hS, ?_⟩
      refine for_enum (K := K) (a := p) (xs := xs) (fun i σ H' => Same H H' ∧ (∃ v1 v2 : Option V, σ = [some (.ref p), v1, v2]) ∧ ∃ ns : List Int, xs.take i = ns.map V.int ∧ ns.Pairwise (· ≤ ·)) ⟨Same.refl _, ⟨none, none, rfl⟩, [], rfl, List.Pairwise.nil⟩ (fun i σ Hi _ w => w.1.seq hS) (fun i x σ Hi T hx w nT => ?_) (fun σ Hi w => ?_)
      · obtain ⟨s1, ⟨v1, v2, rfl⟩, ns, en, sn⟩ := w
        have sT : Same Hi (upd Hi T (.tup [.int (i : Nat), x])) := same_new nT
        have hi : i < xs.length := (List.getElem?_eq_some_iff.mp hx).1
        have ln : ns.length = i := by
          have := congrArg List.length en
          rw [List.length_take, List.length_map] at this
          omega
        refine ⟨T, _, rfl, .inl (.inl upd_same), rfl, _, _, rfl, _, _, rfl, rfl, ?_⟩
        generalize upd Hi T (.tup [.int (i : Nat), x]) = H2 at sT ⊢
        have s2 := s1.trans sT
        repeat walk_at "s"
        rcases hk x (List.mem_of_getElem? hx) with ⟨n, rfl⟩ | hno
        · refine .inl ⟨⟨n, rfl⟩, ?_⟩
          repeat walk_at "s"
          have snoc : xs.take (i + 1) = (ns ++ [n]).map V.int := by
            rw [take_snoc hx, en, List.map_append]
            rfl
          refine ite2 (fun z => ?_) (fun z => ?_)
          · have z1 : (0 : Int) < (i : Int) := of_decide_eq_true z
            obtain ⟨m, hm⟩ : ∃ m, ns[i - 1]? = some m := ⟨_, List.getElem?_eq_getElem (by omega)⟩
            have hm2 : xs[i - 1]? = some (.int m) := by
              have h1 : (xs.take i)[i - 1]? = some (.int m) := by rw [en, List.getElem?_map, hm]; rfl
              rw [List.getElem?_take] at h1
              rw [if_pos (by omega)] at h1
              exact h1
            have last : ns = ns.take (i - 1) ++ [m] := by
              have h1 := take_snoc hm
              rw [show i - 1 + 1 = ns.length from by omega, take_all] at h1
              exact h1
            repeat walk_at "s"
            refine ⟨_, _, _, .int m, rfl, rfl, s2.seq hS, ?_, ?_⟩
            · show atI xs ((i : Int) - 1) = _
              rw [show (i : Int) - 1 = ((i - 1 : Nat) : Int) from by omega]
              exact atI_nat hm2
            repeat walk_at "s"
            refine ite2 (fun u => ?_) (fun u => ?_)
            · have u1 : n < m := of_decide_eq_true u
              refine q false H2 ⟨fun h => (by cases h), fun h => ?_⟩ s2
              obtain ⟨ms, em, sm⟩ := h
              have a1 : ms[i - 1]? = some m := by
                rw [em, List.getElem?_map] at hm2
                cases e : ms[i - 1]? with
                | none => rw [e] at hm2; cases hm2
                | some k => rw [e] at hm2; rw [V.int.inj (Option.some.inj hm2)]
              have a2 : ms[i]? = some n := by
                rw [em, List.getElem?_map] at hx
                cases e : ms[i]? with
                | none => rw [e] at hx; cases hx
                | some k => rw [e] at hx; rw [V.int.inj (Option.some.inj hx)]
              have := sorted_le sm a1 a2 (by omega)
              omega
            · have u1 : ¬ n < m := fun k => u (decide_eq_true k)
              refine ⟨s2, ⟨_, _, rfl⟩, ns ++ [n], snoc, List.pairwise_append.mpr ⟨sn, List.pairwise_singleton _ _, fun y hy y2 hy2 => ?_⟩⟩
              rw [List.mem_singleton.mp hy2]
              obtain ⟨j, hj⟩ := List.mem_iff_getElem?.mp hy
              have h1 := (List.getElem?_eq_some_iff.mp hj).1
              have := sorted_le sn hj hm (by omega)
              omega
          · have z1 : ¬ (0 : Int) < (i : Int) := fun k => z (decide_eq_true k)
            have z2 : ns = [] := List.length_eq_zero_iff.mp (by omega)
            refine ⟨s2, ⟨_, _, rfl⟩, ns ++ [n], snoc, ?_⟩
            rw [z2]
            exact List.pairwise_singleton _ _
        · refine .inr ⟨hno.up s2, ?_⟩
          repeat walk_at "s"
          refine q false H2 ⟨fun h => (by cases h), fun h => ?_⟩ s2
          obtain ⟨ms, em, sm⟩ := h
          rw [em, List.getElem?_map] at hx
          cases e : ms[i]? with
          | none => rw [e] at hx; cases hx
          | some k => rw [e] at hx; exact absurd (Option.some.inj hx).symm (hno.ne k)
      · obtain ⟨s1, ⟨v1, v2, rfl⟩, ns, en, sn⟩ := w
        rw [take_all] at en
        exact q true Hi ⟨fun _ => ⟨ns, en, sn⟩, fun _ => rfl⟩ s1
    · simp only [List.mem_cons, List.not_mem_nil, or_false] at hT
      rcases hT with rfl | rfl | rfl | rfl | rfl | rfl
      all_goals
        refine ⟨_, _, _, _, false, rfl, .ty "list", ty, kit_ty (by decide +kernel), ?_⟩
        repeat walk_at "s"
        exact q

theorem ok_odd01 {f : Addr} {fd : FuncData} (B : Bt mg) (F : Fun K "_law_odd" "_law_odd" slaw_odd f fd) (claw_draw : Cal P w K mg base 1 "_law_draw" ["hand", "limit"] spDraw) : FnOk P w K mg base CX0 2 f fd ["hand", "row", "at"] (Rq.spOdd01 K) := by
  have nd := sclaw_odd.nd
  refine F.ok sclaw_odd (fun vs H Q E h => ?_) (fun cdv A outer s H vs Q E hr h => ?_)
  · obtain ⟨a, p, xs, c, i, rfl, _⟩ := h
    rfl
  · obtain ⟨a, p, xs, c, i, rfl, h0, n, hi, hl, c0, c1, q⟩ := h
    have hu := hr.units
    refine ⟨_, (pss_cons (ps_set (i := 3) nd rfl (.inl rfl) (pe_ix ix_list (pe_op op_cat (pe_slice sl_list (pv 1) po_none (po_some (pv 2))) (pe_lst (pa_cons pe_int pa_nil))) (pe_callB (call_max2 rfl) (by rfl) B.max_ (by decide +kernel) (pa_cons pe_int (pa_cons (pe_op op_sub (pv 2) pe_int) pa_nil))) (fun _ _ => rfl)))
      (pss_cons (ps_set (i := 4) nd rfl (.inl rfl) (pe_lst (pa_cons (pe_op Rq.op_subQ (pv 3) pe_int) (pa_cons (pv 3) (pa_cons (pe_op Rq.op_addQ (pv 3) pe_int) (pa_cons pe_bl (pa_cons pe_bl (pa_cons pe_non (pa_cons pe_str (pa_cons pe_str (pa_cons (pe_lst (pa_cons pe_int pa_nil)) (pa_cons (pe_tup (pa_cons pe_int pa_nil)) (pa_cons pe_dnewK (pa_cons (pe_lst pa_nil) (pa_cons (pe_tup pa_nil) (pa_cons (pe_op op_pow pe_int pe_int) (pa_cons (pe_op op_sub pe_int (pe_op op_pow pe_int pe_int)) pa_nil)))))))))))))))))
      (pss_one (ps_ret (pe_ix ix_list (pv 4) (pe_own claw_draw (hr.mono (by decide)) (by rfl) (pa_cons (pv 0) (pa_cons pe_int pa_nil))) (fun _ _ => rfl)))))), ?_⟩
    repeat walk_at "s"
    refine ⟨p, xs, rfl, SqL.new n.at_, ?_⟩
    intro p1 np1
    generalize hg1 : upd H p1 _ = H1
    have s1 : Same H H1 := hg1 ▸ same_new np1
    have e1 := (congrFun hg1 p1).symm.trans upd_same
    clear hg1
    have n1 : p1 ≠ a := HandAt.ne (by walk_at "hand") np1
    rw [cut_take] at e1
    repeat walk_at "s"
    intro p2 np2
    generalize hg2 : upd H1 p2 _ = H2
    have s2 : Same H1 H2 := hg2 ▸ same_new np2
    have e2 := (congrFun hg2 p2).symm.trans upd_same
    clear hg2
    have n2 : p2 ≠ a := HandAt.ne (by walk_at "hand") np2
    refine ⟨p1, p2, _, _, rfl, rfl, s2 _ _ e1, e2, small (by rw [List.length_take]; simp; omega), ?_⟩
    intro p3 np3
    generalize hg3 : upd H2 p3 _ = H3
    have s3 : Same H2 H3 := hg3 ▸ same_new np3
    have e3 := (congrFun hg3 p3).symm.trans upd_same
    clear hg3
    have n3 : p3 ≠ a := HandAt.ne (by walk_at "hand") np3
    have X3 : Ext a H H3 := ((Ext.same s1).trans (.same s2)).trans (.same s3)
    repeat walk_at "s"
    refine ⟨_, _, rfl, ?_⟩
    obtain ⟨y, hy, ny, by_⟩ : ∃ y, atI (xs.take i ++ [V.int 0]) (if (i : Int) - 1 > 0 then (i : Int) - 1 else 0) = some y ∧ Rq.Num y ∧ Rq.Bnd c y := by
      by_cases z : i = 0
      · subst z
        exact ⟨.int 0, at0, .inl ⟨0, rfl⟩, by show -c ≤ 0; omega, by show (0 : Int) ≤ c; omega⟩
      · obtain ⟨y, hy⟩ : ∃ y, xs[i - 1]? = some y := ⟨_, List.getElem?_eq_getElem (by omega)⟩
        obtain ⟨n1, b1⟩ := n.num y (List.mem_of_getElem? hy)
        refine ⟨y, ?_, n1, b1⟩
        rw [show (if (i : Int) - 1 > 0 then (i : Int) - 1 else 0) = ((i - 1 : Nat) : Int) by split <;> omega]
        refine atI_nat (j := i - 1) ?_
        rw [List.getElem?_append_left (by rw [List.length_take]; omega), List.getElem?_take, if_pos (by omega)]
        exact hy
    refine ⟨p3, _, _, _, rfl, rfl, SqL.new e3, hy, ?_⟩
    repeat walk_at "s"
    refine ⟨1, ny, rfl, ?_⟩
    repeat walk_at "s"
    refine ⟨1, ny, rfl, ?_⟩
    repeat walk_at "s"
    intro p4 np4
    generalize hg4 : upd H3 p4 _ = H4
    have s4 : Same H3 H4 := hg4 ▸ same_new np4
    have e4 := (congrFun hg4 p4).symm.trans upd_same
    clear hg4
    have n4 : p4 ≠ a := HandAt.ne (by walk_at "hand") np4
    repeat walk_at "s"
    intro p5 np5
    generalize hg5 : upd H4 p5 _ = H5
    have s5 : Same H4 H5 := hg5 ▸ same_new np5
    have e5 := (congrFun hg5 p5).symm.trans upd_same
    clear hg5
    repeat walk_at "s"
    intro p6 np6
    generalize hg6 : upd H5 p6 _ = H6
    have s6 : Same H5 H6 := hg6 ▸ same_new np6
    have e6 := (congrFun hg6 p6).symm.trans upd_same
    clear hg6
    repeat walk_at "s"
    have h6 : HandAt H6 a := (((X3.hand h0).same s4).same s5).same s6
    intro p7 np7
    generalize hg7 : upd H6 p7 _ = H7
    have s7 : Same H6 H7 := hg7 ▸ same_new np7
    have e7 := (congrFun hg7 p7).symm.trans upd_same
    clear hg7
    have n7 : p7 ≠ a := HandAt.ne (by walk_at "hand") np7
    repeat walk_at "s"
    intro p8 np8
    generalize hg8 : upd H7 p8 _ = H8
    have s8 : Same H7 H8 := hg8 ▸ same_new np8
    have e8 := (congrFun hg8 p8).symm.trans upd_same
    clear hg8
    repeat walk_at "s"
    intro p9 np9
    generalize hg9 : upd H8 p9 _ = H9
    have s9 : Same H8 H9 := hg9 ▸ same_new np9
    have e9 := (congrFun hg9 p9).symm.trans upd_same
    clear hg9
    have n9 : p9 ≠ a := HandAt.ne (by walk_at "hand") np9
    repeat walk_at "s"
    have h9 : HandAt H9 a := (((h6).same s7).same s8).same s9
    refine ⟨a, _, rfl, (by walk_at "hand"), (by walk_at "pos"), (by walk_at "pos"), ?_⟩
    intro r10 H10 ra10 rb10 h10 k10
    have x10 : Ext a H9 H10 := drawn h10 k10
    clear k10
    have t15 : (10 : Int) ^ Int.toNat 15 = 1000000000000000 := by decide
    have X9 : Ext a H H9 := X3.trans (.same (((((s4.trans s5).trans s6).trans s7).trans s8).trans s9))
    have X10 : Ext a H H10 := X9.trans x10
    have Y4 := x10.keep _ _ (s9 _ _ (s8 _ _ (s7 _ _ (s6 _ _ (s5 _ _ e4))))) n4
    have Y7 := x10.keep _ _ (s9 _ _ (s8 _ _ e7)) n7
    have Y9 := x10.keep _ _ e9 n9
    have tupk : ∀ {b : Addr} {vs : List V} {Ha Hb : Hp}, HandAt Ha a → Ext a Ha Hb → Ha b = some (.tup vs) → Hb b = some (.tup vs) := fun {b vs Ha Hb} hh e hb => e.keep _ _ hb fun z => by
      obtain ⟨u, w, e0, _⟩ := hh
      rw [z, e0] at hb
      cases hb
    have dctk : ∀ {b : Addr} {kv : List (L2.Key × V)} {Ha Hb : Hp}, HandAt Ha a → Ext a Ha Hb → Ha b = some (.dK kv) → Hb b = some (.dK kv) := fun {b kv Ha Hb} hh e hb => e.keep _ _ hb fun z => by
      obtain ⟨u, w, e0, _⟩ := hh
      rw [z, e0] at hb
      cases hb
    have Y5 := tupk h9 x10 (s9 _ _ (s8 _ _ (s7 _ _ (s6 _ _ e5))))
    have Y8 := tupk h9 x10 (s9 _ _ e8)
    have Y6 := dctk h9 x10 (s9 _ _ (s8 _ _ (s7 _ _ e6)))
    obtain ⟨v, hv, mv⟩ := at_draw (xs := [V.int (Rq.numI y - 1), y, V.int (Rq.numI y + 1), V.bl true, V.bl false, V.non, V.str "0", V.str "", V.ref p4, V.ref p5, V.ref p6, V.ref p7, V.ref p8, V.int (10 ^ Int.toNat 15), V.int (0 - 10 ^ Int.toNat 15)]) ra10 rb10
    refine ⟨_, _, _, _, rfl, rfl, SqL.new Y9, hv, ?_⟩
    have bI : ∀ z : Int, -(c + 1) ≤ z → z ≤ c + 1 → Rq.Od K a H10 (V.int z) ∧ (Rq.Num (V.int z) → Rq.Bnd (c + 1) (V.int z)) := fun z z1 z2 => ⟨Rq.od_num (.inl ⟨z, rfl⟩) (c := c + 1) ⟨z1, z2⟩ c1, fun _ => ⟨z1, z2⟩⟩
    have fin : Rq.Od K a H10 v ∧ (Rq.Num v → Rq.Bnd (c + 1) v) := by
      obtain ⟨b1, b2⟩ := by_
      rw [t15] at mv
      simp only [List.mem_cons, List.not_mem_nil, or_false] at mv
      have tl : Rq.Lite (.str "0") ∧ Rq.Lite (.str "") := ⟨⟨by decide, by decide, by decide, by decide⟩, ⟨by decide, by decide, by decide, by decide⟩⟩
      rcases mv with rfl | rfl | rfl | rfl | rfl | rfl | rfl | rfl | rfl | rfl | rfl | rfl | rfl | rfl | rfl
      · exact bI _ (by omega) (by omega)
      · exact ⟨Rq.od_num ny (c := c) ⟨b1, b2⟩ (by omega), fun _ => ⟨by omega, by omega⟩⟩
      · exact bI _ (by omega) (by omega)
      · exact ⟨Rq.od_num (.inr ⟨true, rfl⟩) (c := c) ⟨by show -c ≤ 1; omega, by show (1 : Int) ≤ c; omega⟩ (by omega), fun _ => ⟨by show -(c + 1) ≤ 1; omega, by show (1 : Int) ≤ c + 1; omega⟩⟩
      · exact ⟨Rq.od_num (.inr ⟨false, rfl⟩) (c := c) ⟨by show -c ≤ 0; omega, by show (0 : Int) ≤ c; omega⟩ (by omega), fun _ => ⟨by show -(c + 1) ≤ 0; omega, by show (0 : Int) ≤ c + 1; omega⟩⟩
      · exact ⟨⟨.none, ⟨rfl, rfl, by decide, by decide⟩, fun _ _ => ⟨.dat .non rfl, .inr Rq.ni_non⟩⟩, fun n => by rcases n with ⟨_, h⟩ | ⟨_, h⟩ <;> cases h⟩
      · exact ⟨⟨_, tl.1, fun _ _ => ⟨.dat (.str _) rfl, .inr Rq.ni_str⟩⟩, fun n => by rcases n with ⟨_, h⟩ | ⟨_, h⟩ <;> cases h⟩
      · exact ⟨⟨_, tl.2, fun _ _ => ⟨.dat (.str _) rfl, .inr Rq.ni_str⟩⟩, fun n => by rcases n with ⟨_, h⟩ | ⟨_, h⟩ <;> cases h⟩
      · exact ⟨⟨.list [.int 0], ⟨rfl, by decide, by decide, by decide⟩, fun H' e => ⟨.dat (.lst (SqL.new (e.keep _ _ Y4 n4)) (.cons (.int 0) .nil)) rfl, .inr (Rq.ni_lst (e.keep _ _ Y4 n4))⟩⟩, fun n => by rcases n with ⟨_, h⟩ | ⟨_, h⟩ <;> cases h⟩
      · exact ⟨⟨.tuple [.int 0], ⟨rfl, by decide, by decide, by decide⟩, fun H' e => ⟨.dat (.tup (.inl (.inl (tupk (x10.hand h9) e Y5))) (.cons (.int 0) .nil)) rfl, .inr (Rq.ni_tup (tupk (x10.hand h9) e Y5))⟩⟩, fun n => by rcases n with ⟨_, h⟩ | ⟨_, h⟩ <;> cases h⟩
      · exact ⟨⟨.dict [], ⟨rfl, rfl, by decide, by decide⟩, fun H' e => ⟨.emp (dctk (x10.hand h9) e Y6), .inr (Rq.ni_dct (dctk (x10.hand h9) e Y6))⟩⟩, fun n => by rcases n with ⟨_, h⟩ | ⟨_, h⟩ <;> cases h⟩
      · exact ⟨⟨.list [], ⟨rfl, rfl, by decide, by decide⟩, fun H' e => ⟨.dat (.lst (SqL.new (e.keep _ _ Y7 n7)) .nil) rfl, .inr (Rq.ni_lst (e.keep _ _ Y7 n7))⟩⟩, fun n => by rcases n with ⟨_, h⟩ | ⟨_, h⟩ <;> cases h⟩
      · exact ⟨⟨.tuple [], ⟨rfl, rfl, by decide, by decide⟩, fun H' e => ⟨.dat (.tup (.inl (.inl (tupk (x10.hand h9) e Y8))) .nil) rfl, .inr (Rq.ni_tup (tupk (x10.hand h9) e Y8))⟩⟩, fun n => by rcases n with ⟨_, h⟩ | ⟨_, h⟩ <;> cases h⟩
      · exact bI _ (by omega) (by omega)
      · exact bI _ (by omega) (by omega)
    exact q v H10 X10 fin.1 fin.2

theorem ok_is01 {f : Addr} {fd : FuncData} (B : Bt mg) (F : Fun K "_law_is" "_law_is" slaw_is f fd) : FnOk P w K mg base CX0 1 f fd ["thing"] (Rq.spIs01 K) := by
  have nd := sclaw_is.nd
  refine F.ok sclaw_is (fun vs H Q E h => ?_) (fun cdv A outer s H vs Q E hr h => ?_)
  · obtain ⟨x, rfl, _⟩ := h
    rfl
  · obtain ⟨x, rfl, inf, q⟩ := h
    have hu := hr.units
    refine ⟨_, (pss_cons (ps_if (pt_not (pt_val (pe_callB call_isi (by rfl) B.isinstance_ (by decide +kernel) (pa_cons (pv 0) (pa_cons (pe_bltn (v := .ty "list") (by rfl) B.list_ (by decide +kernel) rfl) pa_nil))))) (pss_one (ps_ret pe_bl)) pss_nil)
      (pss_cons (ps_set (i := 1) nd rfl (.inl rfl) pe_non)
      (pss_cons (ps_for PassesOwn.never rfl (pi_list (pv 0)) (pg_name (i := 2) nd rfl (.inl rfl)) (pss_cons (ps_if (PW.pt (pw_or (pt_val (pe_callB call_isi (by rfl) B.isinstance_ (by decide +kernel) (pa_cons (pv 2) (pa_cons (pe_bltn (v := .ty "bool") (by rfl) B.bool_ (by decide +kernel) rfl) pa_nil)))) (pw_or (pt_not (pt_val (pe_callB call_isi (by rfl) B.isinstance_ (by decide +kernel) (pa_cons (pv 2) (pa_cons (pe_bltn (v := .ty "int") (by rfl) B.int_ (by decide +kernel) rfl) pa_nil))))) (pw_or1 (PW.pt (pw_and (pt_cmpR op_notN (pv 1) pe_non (nomark _)) (pw_and1 (pt_cmpR op_lt (pv 2) (pv 1) (nomark _))))))))) (pss_one (ps_ret pe_bl)) pss_nil)
      (pss_one (ps_set (i := 1) nd rfl (.inl rfl) (pv 2)))))
      (pss_one (ps_ret pe_bl))))), ?_⟩
    repeat walk_at "s"
    rcases inf.two with ⟨p, xs, rfl, e, hk⟩ | ⟨T, hT, ty, nli⟩
    · have hS : SqL K H p xs := SqL.new e
      refine ⟨_, _, _, _, true, rfl, .ty "list", tyList hS, kit_ty (by decide +kernel), ?_⟩
      repeat walk_at "s"
      refine ⟨⟨_, hS⟩, ?_⟩
      have no : ∀ {i : Nat} {x : V}, xs[i]? = some x → NoInt K H x → ∀ b : Bool, b = false → (b = true ↔ ∃ (p' : Addr) (xs' : List V), V.ref p = .ref p' ∧ H p' = some (.lst xs') ∧ IsRow xs') := fun {i x} hx hn b hb => by
        subst hb
        refine ⟨fun h => (by cases h), fun h => ?_⟩
        obtain ⟨p', xs', h1, h2, ms, em, _⟩ := h
        cases h1
        rw [e] at h2
        cases h2
        rw [em, List.getElem?_map] at hx
        cases e2 : ms[i]? with
        | none => rw [e2] at hx; cases hx
        | some k => rw [e2] at hx; exact absurd (Option.some.inj hx).symm (hn.ne k)
      refine for_list (K := K) (a := p) (xs := xs) (fun i σ H' => H' = H ∧ IsRow (xs.take i) ∧ ∃ (av : V) (v2 : Option V), ((i = 0 ∧ av = .non) ∨ ∃ m : Int, 0 < i ∧ xs[i - 1]? = some (.int m) ∧ av = .int m) ∧ σ = [some (.ref p), some av, v2])
        ⟨rfl, ⟨[], rfl, List.Pairwise.nil⟩, .non, none, .inl ⟨rfl, rfl⟩, rfl⟩ (fun i σ Hi _ w => by rw [w.1]; exact hS) (fun i x σ Hi hx w => ?_) (fun σ Hi w => ?_)
      · obtain ⟨rfl, row, av, v2, hav, rfl⟩ := w
        rcases hk x (List.mem_of_getElem? hx) with ⟨n, rfl⟩ | hno
        · repeat walk_at "s"
          refine ⟨_, _, _, _, false, rfl, .ty "bool", .base (.int n), kit_ty (by decide +kernel), ?_⟩
          repeat walk_at "s"
          refine ⟨_, _, _, _, true, rfl, .ty "int", .base (.int n), kit_ty (by decide +kernel), ?_⟩
          repeat walk_at "s"
          rcases hav with ⟨i0, rfl⟩ | ⟨m, i0, hm, rfl⟩
          · repeat walk_at "s"
            refine ⟨rfl, Rq.row_take row hx fun m h => absurd h (by omega), .int n, _, .inr ⟨n, by omega, ?_, rfl⟩, rfl⟩
            rw [Nat.add_sub_cancel]
            exact hx
          · repeat walk_at "s"
            by_cases c : n < m
            · rw [decide_eq_true c]
              repeat walk_at "s"
              refine q false ⟨fun h => (by cases h), fun h => ?_⟩
              obtain ⟨p', xs', h1, h2, ms, em, sm⟩ := h
              cases h1
              rw [e] at h2
              cases h2
              have a1 : ms[i - 1]? = some m := by
                rw [em, List.getElem?_map] at hm
                cases e2 : ms[i - 1]? with
                | none => rw [e2] at hm; cases hm
                | some k => rw [e2] at hm; rw [V.int.inj (Option.some.inj hm)]
              have a2 : ms[i]? = some n := by
                rw [em, List.getElem?_map] at hx
                cases e2 : ms[i]? with
                | none => rw [e2] at hx; cases hx
                | some k => rw [e2] at hx; rw [V.int.inj (Option.some.inj hx)]
              have := sorted_le sm a1 a2 (by omega)
              omega
            · rw [decide_eq_false c]
              repeat walk_at "s"
              refine ⟨rfl, Rq.row_take row hx fun m' _ h => ?_, .int n, _, .inr ⟨n, by omega, ?_, rfl⟩, rfl⟩
              · rw [hm] at h
                cases h
                omega
              · rw [Nat.add_sub_cancel]
                exact hx
        · have nx := no hx hno
          obtain ⟨T, hT, ty⟩ := hno
          simp only [kinds, List.mem_cons, List.not_mem_nil, or_false] at hT
          rcases hT with rfl | rfl | rfl | rfl | rfl | rfl
          · repeat walk_at "s"
            refine ⟨_, _, _, _, true, rfl, .ty "bool", ty, kit_ty (by decide +kernel), ?_⟩
            repeat walk_at "s"
            exact q false (nx false rfl)
          all_goals
            repeat walk_at "s"
            refine ⟨_, _, _, _, false, rfl, .ty "bool", ty, kit_ty (by decide +kernel), ?_⟩
            repeat walk_at "s"
            refine ⟨_, _, _, _, false, rfl, .ty "int", ty, kit_ty (by decide +kernel), ?_⟩
            repeat walk_at "s"
            exact q false (nx false rfl)
      · obtain ⟨rfl, row, av, v2, hav, rfl⟩ := w
        rw [take_all] at row
        repeat walk_at "s"
        exact q true ⟨fun _ => ⟨p, xs, rfl, e, row⟩, fun _ => rfl⟩
    · have nl : ∀ b : Bool, b = false → (b = true ↔ ∃ (p' : Addr) (xs' : List V), x = .ref p' ∧ H p' = some (.lst xs') ∧ IsRow xs') := fun b hb => by
        subst hb
        refine ⟨fun h => (by cases h), fun h => ?_⟩
        obtain ⟨p', xs', h1, h2, _⟩ := h
        exact absurd h2 (nli _ _ h1)
      simp only [List.mem_cons, List.not_mem_nil, or_false] at hT
      rcases hT with rfl | rfl | rfl | rfl | rfl | rfl
      all_goals
        refine ⟨_, _, _, _, false, rfl, .ty "list", ty, kit_ty (by decide +kernel), ?_⟩
        repeat walk_at "s"
        exact q false (nl false rfl)

theorem ok_wholes01 {f : Addr} {fd : FuncData} (B : Bt mg) (F : Fun K "_law_whole_numbers" "_law_whole_numbers" slaw_whole_numbers f fd) : FnOk P w K mg base CX0 1 f fd ["thing"] (Rq.spWholes01 K) := by
  have nd := sclaw_whole_numbers.nd
  refine F.ok sclaw_whole_numbers (fun vs H Q E h => ?_) (fun cdv A outer s H vs Q E hr h => ?_)
  · obtain ⟨x, rfl, _⟩ := h
    rfl
  · obtain ⟨x, rfl, inf, lim, q⟩ := h
    have hu := hr.units
    refine ⟨_, (pss_one (ps_ret (pe_and (pe_callB call_isi (by rfl) B.isinstance_ (by decide +kernel) (pa_cons (pv 0) (pa_cons (pe_bltn (v := .ty "list") (by rfl) B.list_ (by decide +kernel) rfl) pa_nil))) (pe_one (pe_cmpR (Rq.op_eqNil hu) (pe_lc (own := [("one", 1)]) (by rfl) nd (pi_list (pv 0)) (blkOk_by (own := [("one", 1)]) (N := ["thing", "one"]) (sc := defScope slaw_whole_numbers) (by decide +kernel)) (fun _ _ _ _ _ => (pg_name (i := 1) nd rfl (.inl rfl))) (fun _ _ _ _ _ => (pts_one (pt_not (pt_val (pe_callB (call_isiK (K := K) rfl) (by rfl) B.isinstance_ (by decide +kernel) (pa_cons (pv 1) (pa_cons (pe_bltn (v := .ty "int") (by rfl) B.int_ (by decide +kernel) rfl) pa_nil))))))) (fun _ _ _ _ _ => (pv 1))) (pe_lst pa_nil) (nomark _)))))), ?_⟩
    repeat walk_at "s"
    rcases inf.two with ⟨p, xs, rfl, e, hk⟩ | ⟨T, hT, ty, nli⟩
    · have hS : SqL K H p xs := SqL.new e
      refine ⟨_, _, _, _, true, rfl, .ty "list", tyList hS, kit_ty (by decide +kernel), ?_⟩
      repeat walk_at "s"
      refine ⟨⟨_, hS⟩, ?_⟩
      intro D nD
      refine lc_list (K := K) (a := p) (xs := xs) (fun j H' => Same H H' ∧ ∃ ys : List V, H' D = some (.lst ys) ∧ ys.length ≤ j ∧ (ys = [] → ∀ y ∈ xs.take j, Rq.Num y)) ⟨same_new nD, [], upd_same, Nat.le_refl _, fun _ y hy => by simp at hy⟩ (fun j Hj _ w => w.1.seq hS) (fun j x Hj hx w => ?_) (fun H5 w => ?_)
      · obtain ⟨s1, ys, e1, l1, w1⟩ := w
        refine ⟨rfl, ?_⟩
        have keepY : Rq.Num x → (Same H Hj ∧ ∃ ys : List V, Hj D = some (.lst ys) ∧ ys.length ≤ j + 1 ∧ (ys = [] → ∀ y ∈ xs.take (j + 1), Rq.Num y)) := fun nx => ⟨s1, ys, e1, by omega, fun h y hy => by
          rw [take_snoc hx] at hy
          rcases List.mem_append.mp hy with hy | hy
          · exact w1 h y hy
          · rw [List.mem_singleton.mp hy]
            exact nx⟩
        rcases hk x (List.mem_of_getElem? hx) with ⟨n, rfl⟩ | hno
        · repeat walk_at "s"
          refine ⟨_, _, _, _, true, rfl, .ty "int", .base (.int n), kit_ty (by decide +kernel), ?_⟩
          repeat walk_at "s"
          exact (keepY (.inl ⟨n, rfl⟩)).2
        · obtain ⟨T, hT, ty⟩ := hno
          have ty2 := TyX.up s1 ty
          simp only [kinds, List.mem_cons, List.not_mem_nil, or_false] at hT
          rcases hT with rfl | rfl | rfl | rfl | rfl | rfl
          · repeat walk_at "s"
            refine ⟨_, _, _, _, true, rfl, .ty "int", ty2, kit_ty (by decide +kernel), ?_⟩
            repeat walk_at "s"
            exact (keepY (Rq.bool_ty ty rfl)).2
          all_goals
            repeat walk_at "s"
            refine ⟨_, _, _, _, false, rfl, .ty "int", ty2, kit_ty (by decide +kernel), ?_⟩
            repeat walk_at "s"
            refine ⟨ys, e1, smallLt (by have := lim p xs rfl e; have := (List.getElem?_eq_some_iff.mp hx).1; omega), same_app nD s1, ys ++ [x], upd_same, by rw [List.length_append]; simp; omega, fun h => absurd h (by simp)⟩
      · obtain ⟨s5, ys, e5, l5, w5⟩ := w
        rw [take_all] at w5
        repeat walk_at "s"
        intro p6 np6
        generalize hg6 : upd H5 p6 _ = H6
        have s6 : Same H5 H6 := hg6 ▸ same_new np6
        have e6 := (congrFun hg6 p6).symm.trans upd_same
        clear hg6
        refine ⟨D, p6, ys, rfl, rfl, SqL.new (s6 _ _ e5), SqL.new e6, ?_⟩
        refine q _ H6 (fun h => ⟨p, xs, rfl, e, w5 (by simpa using h)⟩) (s5.trans s6)
    · simp only [List.mem_cons, List.not_mem_nil, or_false] at hT
      rcases hT with rfl | rfl | rfl | rfl | rfl | rfl
      all_goals
        refine ⟨_, _, _, _, false, rfl, .ty "list", ty, kit_ty (by decide +kernel), ?_⟩
        repeat walk_at "s"
        exact q false H (fun h => (by cases h)) (Same.refl _)

theorem ok_spoilt01 {f : Addr} {fd : FuncData} (B : Bt mg) (F : Fun K "_law_spoilt" "_law_spoilt" slaw_spoilt f fd) (claw_draw : Cal P w K mg base 1 "_law_draw" ["hand", "limit"] spDraw) (claw_odd : Cal P w K mg base 2 "_law_odd" ["hand", "row", "at"] (Rq.spOdd01 K)) : FnOk P w K mg base CX0 3 f fd ["hand", "row"] (Rq.spSpoilt01 K) := by
  have nd := sclaw_spoilt.nd
  refine F.ok sclaw_spoilt (fun vs H Q E h => ?_) (fun cdv A outer s H vs Q E hr h => ?_)
  · obtain ⟨a, p, xs, c, rfl, _⟩ := h
    rfl
  · obtain ⟨a, p, xs, c, rfl, h0, n, hl, c0, c1, q⟩ := h
    have hu := hr.units
    refine ⟨_, (pss_cons (ps_set (i := 2) nd rfl (.inl rfl) (pe_own claw_draw (hr.mono (by decide)) (by rfl) (pa_cons (pv 0) (pa_cons pe_int pa_nil))))
      (pss_cons (ps_if (pt_cmpR op_eq (pv 2) pe_int (nomark _)) (pss_cons (ps_set (i := 3) nd rfl (.inl rfl) (pe_lst (pa_cons pe_non (pa_cons pe_int (pa_cons pe_bl (pa_cons pe_str (pa_cons pe_str (pa_cons (pe_tup pa_nil) (pa_cons pe_dnewK (pa_cons (pe_callTy call_tuple_of (by rfl) B.tuple_ (by decide +kernel) (pa_cons (pv 1) pa_nil)) (pa_cons (pe_lst (pa_cons (pv 1) pa_nil)) (pa_cons (pe_tup (pa_cons (pv 1) pa_nil)) (pa_cons (Rq.pe_dictEnum B.dict_ B.enumerate_ (pv 1)) (pa_cons (pe_lst (pa_cons (pe_lst pa_nil) pa_nil)) (pa_cons (pe_lst (pa_cons pe_non pa_nil)) pa_nil)))))))))))))))
      (pss_one (ps_ret (pe_ix ix_list (pv 3) (pe_own claw_draw (hr.mono (by decide)) (by rfl) (pa_cons (pv 0) (pa_cons pe_int pa_nil))) (fun _ _ => rfl))))) pss_nil)
      (pss_cons (ps_set (i := 4) nd rfl (.inl rfl) (pe_own claw_draw (hr.mono (by decide)) (by rfl) (pa_cons (pv 0) (pa_cons (pe_op op_add (pe_callB call_len_seq (by rfl) B.len_ (by decide +kernel) (pa_cons (pv 1) pa_nil)) pe_int) pa_nil))))
      (pss_cons (ps_if (pt_cmpR op_eq (pv 2) pe_int (nomark _)) (pss_one (ps_ret (pe_op op_cat (pe_op op_cat (pe_slice sl_list (pv 1) po_none (po_some (pv 4))) (pe_revL (pe_slice sl_list (pv 1) (po_some (pv 4)) (po_some (pe_op op_add (pv 4) pe_int))))) (pe_slice sl_list (pv 1) (po_some (pe_op op_add (pv 4) pe_int)) po_none)))) pss_nil)
      (pss_cons (ps_if (pt_cmpR op_eq (pv 2) pe_int (nomark _)) (pss_one (ps_ret (pe_revL (pv 1)))) pss_nil)
      (pss_cons (ps_if (pt_cmpR op_eq (pv 2) pe_int (nomark _)) (pss_one (ps_ret (pe_op op_cat (pe_op op_cat (pe_slice sl_list (pv 1) po_none (po_some (pv 4))) (pe_lst (pa_cons (pe_own claw_odd (hr.mono (by decide)) (by rfl) (pa_cons (pv 0) (pa_cons (pv 1) (pa_cons (pv 4) pa_nil)))) pa_nil))) (pe_slice sl_list (pv 1) (po_some (pv 4)) po_none)))) pss_nil)
      (pss_cons (ps_if (pt_cmpR op_eq (pv 2) pe_int (nomark _)) (pss_one (ps_ret (pe_op op_cat (pe_slice sl_list (pv 1) po_none (po_some (pv 4))) (pe_slice sl_list (pv 1) (po_some (pe_op op_add (pv 4) pe_int)) po_none)))) pss_nil)
      (pss_one (ps_ret (pe_op op_cat (pe_op op_cat (pe_slice sl_list (pv 1) po_none (po_some (pv 4))) (pe_op op_rep (pe_lst (pa_cons (pe_own claw_odd (hr.mono (by decide)) (by rfl) (pa_cons (pv 0) (pa_cons (pv 1) (pa_cons (pv 4) pa_nil)))) pa_nil)) (pe_callTy call_int1 (by rfl) B.int_ (by decide +kernel) (pa_cons (pe_cmpR op_lt (pv 4) (pe_callB call_len_seq (by rfl) B.len_ (by decide +kernel) (pa_cons (pv 1) pa_nil)) (nomark _)) pa_nil)))) (pe_slice sl_list (pv 1) (po_some (pe_op op_add (pv 4) pe_int)) po_none))))))))))), ?_⟩
    repeat walk_at "s"
    refine ⟨a, _, rfl, (by walk_at "hand"), (by walk_at "pos"), (by walk_at "pos"), ?_⟩
    intro r1 H1 ra1 rb1 h1 k1
    have x1 : Ext a H H1 := drawn h1 k1
    clear k1
    have hh1 := x1.hand h0
    have n1' := n.ext x1
    repeat walk_at "s"
    refine ⟨rfl, _, rfl, ?_⟩
    have cc : c ≤ 1000000000000000000000000000000000000000000 := by omega
    -- a list of items tells a thing
    have done : ∀ (H' : Hp) (p' : Addr) (ys : List V), Ext a H H' → H' p' = some (.lst ys) → p' ≠ a → ys.length ≤ xs.length + 1 → (∀ y ∈ ys, Rq.Od K a H' y ∧ (Rq.Num y → Rq.Bnd (c + 1) y)) → Q (.ref p') H' := fun H' p' ys e h1 h2 h3 h4 => by
      refine q _ H' e (Rq.th_list h1 h2 (fun y hy => (h4 y hy).1) (by omega)) fun p2 xs2 g1 g2 => ?_
      cases g1
      rw [h1] at g2
      cases g2
      exact ⟨h2, h3, fun y hy => (h4 y hy).2⟩
    have old : ∀ (H' : Hp) (y : V), y ∈ xs → Rq.Od K a H' y ∧ (Rq.Num y → Rq.Bnd (c + 1) y) := fun H' y hy => by
      obtain ⟨ny, b1, b2⟩ := n.num y hy
      exact ⟨Rq.od_num ny ⟨b1, b2⟩ cc, fun _ => ⟨by omega, by omega⟩⟩
    refine ite2 (fun z => ?_) (fun z => ?_)
    · repeat walk_at "s"
      intro p2 np2
      generalize hg2 : upd H1 p2 _ = H2
      have s2 : Same H1 H2 := hg2 ▸ same_new np2
      have e2 := (congrFun hg2 p2).symm.trans upd_same
      clear hg2
      repeat walk_at "s"
      intro p3 np3
      generalize hg3 : upd H2 p3 _ = H3
      have s3 : Same H2 H3 := hg3 ▸ same_new np3
      have e3 := (congrFun hg3 p3).symm.trans upd_same
      clear hg3
      repeat walk_at "s"
      have r3 := s3 _ _ (s2 _ _ n1'.at_)
      refine ⟨p, xs, rfl, .inl ⟨SqL.new r3, ?_⟩⟩
      intro p4 np4
      generalize hg4 : upd H3 p4 _ = H4
      have s4 : Same H3 H4 := hg4 ▸ same_new np4
      have e4 := (congrFun hg4 p4).symm.trans upd_same
      clear hg4
      repeat walk_at "s"
      have h4 : HandAt H4 a := ((hh1.same s2).same s3).same s4
      intro p5 np5
      generalize hg5 : upd H4 p5 _ = H5
      have s5 : Same H4 H5 := hg5 ▸ same_new np5
      have e5 := (congrFun hg5 p5).symm.trans upd_same
      clear hg5
      have n5 : p5 ≠ a := HandAt.ne (by walk_at "hand") np5
      repeat walk_at "s"
      intro p6 np6
      generalize hg6 : upd H5 p6 _ = H6
      have s6 : Same H5 H6 := hg6 ▸ same_new np6
      have e6 := (congrFun hg6 p6).symm.trans upd_same
      clear hg6
      repeat walk_at "s"
      refine ⟨p, xs, rfl, SqL.new (s6 _ _ (s5 _ _ (s4 _ _ r3))), ?_⟩
      intro p7 np7
      generalize hg7 : upd H6 p7 _ = H7
      have s7 : Same H6 H7 := hg7 ▸ same_new np7
      have e7 := (congrFun hg7 p7).symm.trans upd_same
      clear hg7
      repeat walk_at "s"
      have h7 : HandAt H7 a := ((h4.same s5).same s6).same s7
      intro p8 np8
      generalize hg8 : upd H7 p8 _ = H8
      have s8 : Same H7 H8 := hg8 ▸ same_new np8
      have e8 := (congrFun hg8 p8).symm.trans upd_same
      clear hg8
      have n8 : p8 ≠ a := HandAt.ne (by walk_at "hand") np8
      repeat walk_at "s"
      intro p9 np9
      generalize hg9 : upd H8 p9 _ = H9
      have s9 : Same H8 H9 := hg9 ▸ same_new np9
      have e9 := (congrFun hg9 p9).symm.trans upd_same
      clear hg9
      have n9 : p9 ≠ a := HandAt.ne (by walk_at "hand") np9
      repeat walk_at "s"
      intro p10 np10
      generalize hg10 : upd H9 p10 _ = H10
      have s10 : Same H9 H10 := hg10 ▸ same_new np10
      have e10 := (congrFun hg10 p10).symm.trans upd_same
      clear hg10
      have n10 : p10 ≠ a := HandAt.ne (by walk_at "hand") np10
      repeat walk_at "s"
      intro p11 np11
      generalize hg11 : upd H10 p11 _ = H11
      have s11 : Same H10 H11 := hg11 ▸ same_new np11
      have e11 := (congrFun hg11 p11).symm.trans upd_same
      clear hg11
      have n11 : p11 ≠ a := HandAt.ne (by walk_at "hand") np11
      repeat walk_at "s"
      have h11 : HandAt H11 a := (((h7.same s8).same s9).same s10).same s11
      refine ⟨a, _, rfl, (by walk_at "hand"), (by walk_at "pos"), (by walk_at "pos"), ?_⟩
      intro r12 H12 ra12 rb12 h12 k12
      have x12 : Ext a H11 H12 := drawn h12 k12
      clear k12
      have h12 := x12.hand h11
      have S11 : Same H1 H11 := s2.trans (s3.trans (s4.trans (s5.trans (s6.trans (s7.trans (s8.trans (s9.trans (s10.trans s11))))))))
      have X12 : Ext a H H12 := x1.trans ((Ext.same S11).trans x12)
      have n12 : Rq.Ns a c H12 p xs := n1'.ext ((Ext.same S11).trans x12)
      have tupk : ∀ {b : Addr} {vs : List V} {Ha Hb : Hp}, HandAt Ha a → Ext a Ha Hb → Ha b = some (.tup vs) → Hb b = some (.tup vs) := fun {b vs Ha Hb} hh e hb => e.keep _ _ hb fun z => by
        obtain ⟨u, w, e0, _⟩ := hh
        rw [z, e0] at hb
        cases hb
      have dctk : ∀ {b : Addr} {kv : List (L2.Key × V)} {Ha Hb : Hp}, HandAt Ha a → Ext a Ha Hb → Ha b = some (.dK kv) → Hb b = some (.dK kv) := fun {b kv Ha Hb} hh e hb => e.keep _ _ hb fun z => by
        obtain ⟨u, w, e0, _⟩ := hh
        rw [z, e0] at hb
        cases hb
      have Y2 := tupk h11 x12 (s11 _ _ (s10 _ _ (s9 _ _ (s8 _ _ (s7 _ _ (s6 _ _ (s5 _ _ (s4 _ _ (s3 _ _ e2)))))))))
      have Y3 := dctk h11 x12 (s11 _ _ (s10 _ _ (s9 _ _ (s8 _ _ (s7 _ _ (s6 _ _ (s5 _ _ (s4 _ _ e3))))))))
      have Y4 := tupk h11 x12 (s11 _ _ (s10 _ _ (s9 _ _ (s8 _ _ (s7 _ _ (s6 _ _ (s5 _ _ e4)))))))
      have Y5 := x12.keep _ _ (s11 _ _ (s10 _ _ (s9 _ _ (s8 _ _ (s7 _ _ (s6 _ _ e5)))))) n5
      have Y6 := tupk h11 x12 (s11 _ _ (s10 _ _ (s9 _ _ (s8 _ _ (s7 _ _ e6)))))
      have Y7 := dctk h11 x12 (s11 _ _ (s10 _ _ (s9 _ _ (s8 _ _ e7))))
      have Y8 := x12.keep _ _ (s11 _ _ (s10 _ _ (s9 _ _ e8))) n8
      have Y9 := x12.keep _ _ (s11 _ _ (s10 _ _ e9)) n9
      have Y10 := x12.keep _ _ (s11 _ _ e10) n10
      have Y11 := x12.keep _ _ e11 n11
      obtain ⟨v, hv, mv⟩ := at_draw (xs := [V.non, V.int 0, V.bl true, V.str "", V.str "0 1", V.ref p2, V.ref p3, V.ref p4, V.ref p5, V.ref p6, V.ref p7, V.ref p9, V.ref p10]) ra12 rb12
      refine ⟨_, _, _, _, rfl, rfl, SqL.new Y11, hv, ?_⟩
      have nolist : (∀ (p' : Addr) (ys : List V), v = .ref p' → H12 p' ≠ some (.lst ys)) → Rq.Th K a H12 v → Q v H12 := fun g t => q v H12 X12 t fun p' ys h1 h2 => absurd h2 (g p' ys h1)
      have one : ∀ (p' : Addr) (y : V), v = .ref p' → H12 p' = some (.lst [y]) → p' ≠ a → ¬ Rq.Num y → Rq.Th K a H12 v → Q v H12 := fun p' y h1 h2 h3 h4 t => q v H12 X12 t fun p2 ys g1 g2 => by
        rw [h1] at g1
        cases g1
        rw [h2] at g2
        cases g2
        refine ⟨h3, by simp, fun x hx nx => ?_⟩
        rw [List.mem_singleton.mp hx] at nx
        exact absurd nx h4
      have nref : ∀ p' : Addr, ¬ Rq.Num (.ref p') := fun p' n => by rcases n with ⟨_, h⟩ | ⟨_, h⟩ <;> cases h
      simp only [List.mem_cons, List.not_mem_nil, or_false] at mv
      rcases mv with rfl | rfl | rfl | rfl | rfl | rfl | rfl | rfl | rfl | rfl | rfl | rfl | rfl
      · exact nolist (fun _ _ h => by cases h) ⟨.none, fun _ _ => ⟨.non, .non⟩⟩
      · exact nolist (fun _ _ h => by cases h) ⟨.int 0, fun _ _ => ⟨.int (by decide), .int 0⟩⟩
      · exact nolist (fun _ _ h => by cases h) ⟨.bool true, fun _ _ => ⟨.bl true, .bl true⟩⟩
      · exact nolist (fun _ _ h => by cases h) ⟨.str "", fun _ _ => ⟨.str (by decide), .str _⟩⟩
      · exact nolist (fun _ _ h => by cases h) ⟨.str "0 1", fun _ _ => ⟨.str (by decide +kernel), .str _⟩⟩
      · exact nolist (fun p' ys h => by cases h; rw [Y2]; exact fun h => by cases h) (Rq.th_tuple (c := c) (xs := []) (fun H' e => tupk h12 e Y2) (fun _ h => nomatch h) cc (by decide))
      · exact nolist (fun p' ys h => by cases h; rw [Y3]; exact fun h => by cases h) (Rq.th_dict (c := c) (xs := []) (fun H' e => dctk h12 e Y3) (fun _ h => nomatch h) cc (by decide))
      · exact nolist (fun p' ys h => by cases h; rw [Y4]; exact fun h => by cases h) (Rq.th_tuple (c := c) (xs := xs) (fun H' e => tupk h12 e Y4) n.num cc (by omega))
      · exact one p5 _ rfl Y5 n5 (nref _) (Rq.th_in Y5 n5 n12 cc (by omega))
      · exact nolist (fun p' ys h => by cases h; rw [Y6]; exact fun h => by cases h) (Rq.th_inT (fun H' e => tupk h12 e Y6) n12 cc (by omega))
      · exact nolist (fun p' ys h => by cases h; rw [Y7]; exact fun h => by cases h) (Rq.th_dict (c := c) (xs := xs) (fun H' e => dctk h12 e Y7) n.num cc (by omega))
      · exact one p9 _ rfl Y9 n9 (nref _) (Rq.th_in (c := c) Y9 n9 ⟨Y8, n8, fun _ h => nomatch h⟩ cc (by decide))
      · exact one p10 _ rfl Y10 n10 (fun n => by rcases n with ⟨_, h⟩ | ⟨_, h⟩ <;> cases h) (Rq.th_list Y10 n10 (fun y hy => by rw [List.mem_singleton.mp hy]; exact ⟨.none, ⟨rfl, rfl, by decide, by decide⟩, fun _ _ => ⟨.dat .non rfl, .inr Rq.ni_non⟩⟩) (by decide))
    · repeat walk_at "s"
      refine ⟨p, _, rfl, .inl (SqL.new n1'.at_), ?_⟩
      repeat walk_at "s"
      refine ⟨a, _, rfl, (by walk_at "hand"), (by walk_at "pos"), (by walk_at "pos"), ?_⟩
      intro r2 H2 ra2 rb2 h2 k2
      have x2 : Ext a H1 H2 := drawn h2 k2
      clear k2
      have h2 := x2.hand hh1
      have n2' := n1'.ext x2
      have X2 := x1.trans x2
      obtain ⟨i, hi⟩ : ∃ i : Nat, r2 = (i : Int) := ⟨r2.toNat, by omega⟩
      subst hi
      have il : i ≤ xs.length := by omega
      repeat walk_at "s"
      refine ⟨rfl, _, rfl, ?_⟩
      have i2 : (i : Int) + 2 = ((i + 2 : Nat) : Int) := rfl
      have i1 : (i : Int) + 1 = ((i + 1 : Nat) : Int) := rfl
      refine ite2 (fun z1 => ?_) (fun z1 => ?_)
      · repeat walk_at "s"
        refine ⟨p, xs, rfl, SqL.new n2'.at_, ?_⟩
        intro p3 np3
        generalize hg3 : upd H2 p3 _ = H3
        have s3 : Same H2 H3 := hg3 ▸ same_new np3
        have e3 := (congrFun hg3 p3).symm.trans upd_same
        clear hg3
        have n3 : p3 ≠ a := HandAt.ne (by walk_at "hand") np3
        rw [cut_take] at e3
        repeat walk_at "s"
        refine ⟨p, xs, rfl, SqL.new (s3 _ _ n2'.at_), ?_⟩
        intro p4 np4
        generalize hg4 : upd H3 p4 _ = H4
        have s4 : Same H3 H4 := hg4 ▸ same_new np4
        have e4 := (congrFun hg4 p4).symm.trans upd_same
        clear hg4
        have n4 : p4 ≠ a := HandAt.ne (by walk_at "hand") np4
        try dsimp only at e4
        rw [i2, cut_mid] at e4
        refine ⟨p4, _, rfl, SqL.new e4, ?_⟩
        intro p5 np5
        generalize hg5 : upd H4 p5 _ = H5
        have s5 : Same H4 H5 := hg5 ▸ same_new np5
        have e5 := (congrFun hg5 p5).symm.trans upd_same
        clear hg5
        have n5 : p5 ≠ a := HandAt.ne (by walk_at "hand") np5
        refine ⟨p3, p5, _, _, rfl, rfl, s5 _ _ (s4 _ _ e3), e5, small (by simp; omega), ?_⟩
        intro p6 np6
        generalize hg6 : upd H5 p6 _ = H6
        have s6 : Same H5 H6 := hg6 ▸ same_new np6
        have e6 := (congrFun hg6 p6).symm.trans upd_same
        clear hg6
        have n6 : p6 ≠ a := HandAt.ne (by walk_at "hand") np6
        repeat walk_at "s"
        have S6 : Same H2 H6 := s3.trans (s4.trans (s5.trans s6))
        refine ⟨p, xs, rfl, SqL.new (S6 _ _ n2'.at_), ?_⟩
        intro p7 np7
        generalize hg7 : upd H6 p7 _ = H7
        have s7 : Same H6 H7 := hg7 ▸ same_new np7
        have e7 := (congrFun hg7 p7).symm.trans upd_same
        clear hg7
        have n7 : p7 ≠ a := HandAt.ne (by walk_at "hand") np7
        try dsimp only at e7
        rw [i2, cut_from] at e7
        refine ⟨p6, p7, _, _, rfl, rfl, s7 _ _ e6, e7, small (by simp; omega), ?_⟩
        intro p8 np8
        generalize hg8 : upd H7 p8 _ = H8
        have s8 : Same H7 H8 := hg8 ▸ same_new np8
        have e8 := (congrFun hg8 p8).symm.trans upd_same
        clear hg8
        have n8 : p8 ≠ a := HandAt.ne (by walk_at "hand") np8
        refine done H8 p8 _ (X2.trans (.same (S6.trans (s7.trans s8)))) e8 n8 (by simp; omega) fun y hy => old _ y ?_
        simp only [List.mem_append, List.mem_reverse] at hy
        rcases hy with (hy | hy) | hy
        · exact List.mem_of_mem_take hy
        · exact List.mem_of_mem_drop (List.mem_of_mem_take hy)
        · exact List.mem_of_mem_drop hy
      · repeat walk_at "s"
        refine ⟨rfl, _, rfl, ?_⟩
        refine ite2 (fun z2 => ?_) (fun z2 => ?_)
        · repeat walk_at "s"
          refine ⟨p, xs, rfl, SqL.new n2'.at_, ?_⟩
          intro p3 np3
          generalize hg3 : upd H2 p3 _ = H3
          have s3 : Same H2 H3 := hg3 ▸ same_new np3
          have e3 := (congrFun hg3 p3).symm.trans upd_same
          clear hg3
          have n3 : p3 ≠ a := HandAt.ne (by walk_at "hand") np3
          refine done H3 p3 _ (X2.trans (.same s3)) e3 n3 (by simp) fun y hy => old _ y (List.mem_reverse.mp hy)
        · repeat walk_at "s"
          refine ⟨rfl, _, rfl, ?_⟩
          refine ite2 (fun z3 => ?_) (fun z3 => ?_)
          · repeat walk_at "s"
            refine ⟨p, xs, rfl, SqL.new n2'.at_, ?_⟩
            intro p3 np3
            generalize hg3 : upd H2 p3 _ = H3
            have s3 : Same H2 H3 := hg3 ▸ same_new np3
            have e3 := (congrFun hg3 p3).symm.trans upd_same
            clear hg3
            have n3 : p3 ≠ a := HandAt.ne (by walk_at "hand") np3
            rw [cut_take] at e3
            repeat walk_at "s"
            refine ⟨a, p, xs, c, i, rfl, h2.same s3, n2'.ext (.same s3), il, by omega, c0, c1, fun v H4 x4 ov nv => ?_⟩
            repeat walk_at "s"
            have h4 := x4.hand (h2.same s3)
            intro p5 np5
            generalize hg5 : upd H4 p5 _ = H5
            have s5 : Same H4 H5 := hg5 ▸ same_new np5
            have e5 := (congrFun hg5 p5).symm.trans upd_same
            clear hg5
            have n5 : p5 ≠ a := HandAt.ne (by walk_at "hand") np5
            refine ⟨p3, p5, _, _, rfl, rfl, s5 _ _ (x4.keep _ _ e3 n3), e5, small (by simp; omega), ?_⟩
            intro p6 np6
            generalize hg6 : upd H5 p6 _ = H6
            have s6 : Same H5 H6 := hg6 ▸ same_new np6
            have e6 := (congrFun hg6 p6).symm.trans upd_same
            clear hg6
            have n6 : p6 ≠ a := HandAt.ne (by walk_at "hand") np6
            have X6 : Ext a H2 H6 := (Ext.same s3).trans (x4.trans ((Ext.same s5).trans (.same s6)))
            repeat walk_at "s"
            refine ⟨p, xs, rfl, SqL.new (n2'.ext X6).at_, ?_⟩
            intro p7 np7
            generalize hg7 : upd H6 p7 _ = H7
            have s7 : Same H6 H7 := hg7 ▸ same_new np7
            have e7 := (congrFun hg7 p7).symm.trans upd_same
            clear hg7
            have n7 : p7 ≠ a := HandAt.ne (by walk_at "hand") np7
            rw [cut_from] at e7
            refine ⟨p6, p7, _, _, rfl, rfl, s7 _ _ e6, e7, small (by simp; omega), ?_⟩
            intro p8 np8
            generalize hg8 : upd H7 p8 _ = H8
            have s8 : Same H7 H8 := hg8 ▸ same_new np8
            have e8 := (congrFun hg8 p8).symm.trans upd_same
            clear hg8
            have n8 : p8 ≠ a := HandAt.ne (by walk_at "hand") np8
            refine done H8 p8 _ (X2.trans (X6.trans ((Ext.same s7).trans (.same s8)))) e8 n8 (by simp; omega) fun y hy => ?_
            simp only [List.mem_append, List.mem_singleton] at hy
            rcases hy with (hy | rfl) | hy
            · exact old _ y (List.mem_of_mem_take hy)
            · exact ⟨ov.ext ((Ext.same s5).trans ((Ext.same s6).trans ((Ext.same s7).trans (.same s8)))), nv⟩
            · exact old _ y (List.mem_of_mem_drop hy)
          · repeat walk_at "s"
            refine ⟨rfl, _, rfl, ?_⟩
            refine ite2 (fun z4 => ?_) (fun z4 => ?_)
            · repeat walk_at "s"
              refine ⟨p, xs, rfl, SqL.new n2'.at_, ?_⟩
              intro p3 np3
              generalize hg3 : upd H2 p3 _ = H3
              have s3 : Same H2 H3 := hg3 ▸ same_new np3
              have e3 := (congrFun hg3 p3).symm.trans upd_same
              clear hg3
              have n3 : p3 ≠ a := HandAt.ne (by walk_at "hand") np3
              rw [cut_take] at e3
              repeat walk_at "s"
              refine ⟨p, xs, rfl, SqL.new (s3 _ _ n2'.at_), ?_⟩
              intro p4 np4
              generalize hg4 : upd H3 p4 _ = H4
              have s4 : Same H3 H4 := hg4 ▸ same_new np4
              have e4 := (congrFun hg4 p4).symm.trans upd_same
              clear hg4
              have n4 : p4 ≠ a := HandAt.ne (by walk_at "hand") np4
              try dsimp only at e4
              rw [i1, cut_from] at e4
              refine ⟨p3, p4, _, _, rfl, rfl, s4 _ _ e3, e4, small (by simp; omega), ?_⟩
              intro p5 np5
              generalize hg5 : upd H4 p5 _ = H5
              have s5 : Same H4 H5 := hg5 ▸ same_new np5
              have e5 := (congrFun hg5 p5).symm.trans upd_same
              clear hg5
              have n5 : p5 ≠ a := HandAt.ne (by walk_at "hand") np5
              refine done H5 p5 _ (X2.trans (.same (s3.trans (s4.trans s5)))) e5 n5 (by simp; omega) fun y hy => old _ y ?_
              simp only [List.mem_append] at hy
              rcases hy with hy | hy
              · exact List.mem_of_mem_take hy
              · exact List.mem_of_mem_drop hy
            · repeat walk_at "s"
              refine ⟨p, xs, rfl, SqL.new n2'.at_, ?_⟩
              intro p3 np3
              generalize hg3 : upd H2 p3 _ = H3
              have s3 : Same H2 H3 := hg3 ▸ same_new np3
              have e3 := (congrFun hg3 p3).symm.trans upd_same
              clear hg3
              have n3 : p3 ≠ a := HandAt.ne (by walk_at "hand") np3
              rw [cut_take] at e3
              repeat walk_at "s"
              refine ⟨a, p, xs, c, i, rfl, h2.same s3, n2'.ext (.same s3), il, by omega, c0, c1, fun v H4 x4 ov nv => ?_⟩
              repeat walk_at "s"
              have h4 := x4.hand (h2.same s3)
              intro p5 np5
              generalize hg5 : upd H4 p5 _ = H5
              have s5 : Same H4 H5 := hg5 ▸ same_new np5
              have e5 := (congrFun hg5 p5).symm.trans upd_same
              clear hg5
              have n5 : p5 ≠ a := HandAt.ne (by walk_at "hand") np5
              have X5 : Ext a H2 H5 := (Ext.same s3).trans (x4.trans (Ext.same s5))
              repeat walk_at "s"
              refine ⟨p, _, rfl, .inl (SqL.new (n2'.ext X5).at_), ?_⟩
              repeat walk_at "s"
              refine .inr ⟨_, rfl, ?_⟩
              obtain ⟨k, hk, k1⟩ : ∃ k : Nat, (if decide ((i : Int) < (xs.length : Int)) = true then (1 : Int) else 0) = (k : Int) ∧ (k = 0 ∨ (k = 1 ∧ i < xs.length)) := by
                by_cases z : (i : Int) < (xs.length : Int)
                · exact ⟨1, by rw [decide_eq_true z]; rfl, .inr ⟨rfl, by omega⟩⟩
                · exact ⟨0, by rw [decide_eq_false z]; rfl, .inl rfl⟩
              rw [hk]
              refine ⟨p5, _, _, rfl, rfl, e5, by omega, by omega, small (by rw [Int.toNat_natCast]; simp; omega), ?_⟩
              intro p6 np6
              generalize hg6 : upd H5 p6 _ = H6
              have s6 : Same H5 H6 := hg6 ▸ same_new np6
              have e6 := (congrFun hg6 p6).symm.trans upd_same
              clear hg6
              have n6 : p6 ≠ a := HandAt.ne (by walk_at "hand") np6
              rw [rep_one, Int.toNat_natCast] at e6
              have X6 : Ext a H2 H6 := X5.trans (.same s6)
              have e36 := s6 _ _ (s5 _ _ (x4.keep _ _ e3 n3))
              refine ⟨p3, p6, _, _, rfl, rfl, e36, e6, small (by simp; omega), ?_⟩
              intro p7 np7
              generalize hg7 : upd H6 p7 _ = H7
              have s7 : Same H6 H7 := hg7 ▸ same_new np7
              have e7 := (congrFun hg7 p7).symm.trans upd_same
              clear hg7
              have n7 : p7 ≠ a := HandAt.ne (by walk_at "hand") np7
              repeat walk_at "s"
              refine ⟨p, xs, rfl, SqL.new (n2'.ext (X6.trans (.same s7))).at_, ?_⟩
              intro p8 np8
              generalize hg8 : upd H7 p8 _ = H8
              have s8 : Same H7 H8 := hg8 ▸ same_new np8
              have e8 := (congrFun hg8 p8).symm.trans upd_same
              clear hg8
              have n8 : p8 ≠ a := HandAt.ne (by walk_at "hand") np8
              try dsimp only at e8
              rw [i1, cut_from] at e8
              refine ⟨p7, p8, _, _, rfl, rfl, s8 _ _ e7, e8, small (by simp; omega), ?_⟩
              intro p9 np9
              generalize hg9 : upd H8 p9 _ = H9
              have s9 : Same H8 H9 := hg9 ▸ same_new np9
              have e9 := (congrFun hg9 p9).symm.trans upd_same
              clear hg9
              have n9 : p9 ≠ a := HandAt.ne (by walk_at "hand") np9
              refine done H9 p9 _ (X2.trans (X6.trans ((Ext.same s7).trans ((Ext.same s8).trans (.same s9))))) e9 n9 (by simp; omega) fun y hy => ?_
              simp only [List.mem_append] at hy
              rcases hy with (hy | hy) | hy
              · exact old _ y (List.mem_of_mem_take hy)
              · rw [(List.mem_replicate.mp hy).2]
                exact ⟨ov.ext ((Ext.same s5).trans ((Ext.same s6).trans ((Ext.same s7).trans ((Ext.same s8).trans (.same s9))))), nv⟩
              · exact old _ y (List.mem_of_mem_drop hy)

theorem ok_law1 {f : Addr} {fd : FuncData} (B : Bt mg) (F : Fun K "law" "law" slaw f fd) (cis_row : Cal P w K mg base 2 "is_row" ["thing"] (spIsRow K)) (claw_hand : Cal P w K mg base 1 "_law_hand" ["cell", "k"] spHand) (claw_draw : Cal P w K mg base 1 "_law_draw" ["hand", "limit"] spDraw)
    (claw_cells : Cal P w K mg base 1 "_law_cells" ["script", "many"] (spCells K)) (claw_great : Cal P w K mg base 1 "_law_great" ["script"] (spGreat K)) (claw_row : Cal P w K mg base 2 "_law_row" ["hand", "least", "most"] spRow) (claw_spoilt : Cal P w K mg base 3 "_law_spoilt" ["hand", "row"] (Rq.spSpoilt01 K))
    (claw_is : Cal P w K mg base 1 "_law_is" ["thing"] (Rq.spIs01 K)) (claw_whole_numbers : Cal P w K mg base 1 "_law_whole_numbers" ["thing"] (Rq.spWholes01 K)) : Gd.FnG P w K mg base 4 f fd ["script"] (spLaw K) := by
  have nd := sclaw.nd
  refine Gd.okG F sclaw (fun vs H Q E h => ?_) (fun cdv A outer s H vs Q E ug hr h => ?_)
  · obtain ⟨a, ns, rfl, _⟩ := h
    rfl
  · obtain ⟨sc, ns, rfl, hS, hlen, q⟩ := h
    have hu := hr.units
    refine ⟨_, (pss_cons (ps_set (i := 1) nd rfl (.inl rfl) (pe_lst (pa_cons (pe_lst pa_nil) (pa_cons (pe_tup pa_nil) pa_nil))))
      (pss_cons (ps_for PassesOwn.never rfl (pi_range1 (by rfl) B.range_ (pa_cons pe_int pa_nil)) (pg_name (i := 2) nd rfl (.inl rfl)) (pss_one (ps_set (i := 1) nd rfl (.inl rfl) (pe_lst (pa_cons (pe_lst (pa_cons (pe_ix ix_list (pv 1) pe_int (fun _ _ => rfl)) pa_nil)) (pa_cons (pe_tup (pa_cons (pe_ix ix_list (pv 1) pe_int (fun _ _ => rfl)) pa_nil)) pa_nil))))))
      (pss_cons (ps_if (pt_cmpR (Rq.op_neNil hu) (pe_lc (own := [("thing", 3)]) (by rfl) nd (pi_list (pe_op op_cat (pv 1) (pe_lst (pa_cons (pe_lst (pa_cons pe_int (pa_cons (pe_ix ix_list (pv 1) pe_int (fun _ _ => rfl)) pa_nil))) (pa_cons (pe_lst (pa_cons (pe_ix ix_list (pv 1) pe_int (fun _ _ => rfl)) pa_nil)) pa_nil))))) (blkOk_by (own := [("thing", 3)]) (N := ["script", "deep", "k", "thing", "cell", "hand", "row", "sizes", "number", "spoilt", "once", "kept", "told"]) (sc := defScope slaw) (by decide +kernel)) (fun _ _ _ _ _ => (pg_name (i := 3) nd rfl (.inl rfl))) (fun _ _ _ _ _ => (pts_one (pt_cmpR op_notBl (pe_own cis_row (hr.mono (by decide)) (by rfl) (pa_cons (pv 3) pa_nil)) pe_bl (nomark _)))) (fun _ _ _ _ _ => (pv 3))) (pe_lst pa_nil) (nomark _)) (pss_one (ps_ret pe_bl)) pss_nil)
      (pss_cons (ps_for PassesOwn.never rfl (pi_list (pe_own claw_cells (hr.mono (by decide)) (by rfl) (pa_cons (pv 0) (pa_cons pe_int pa_nil)))) (pg_tup rfl (pgs_cons (pg_name (i := 2) nd rfl (.inl rfl)) (pgs_cons (pg_name (i := 4) nd rfl (.inl rfl)) pgs_nil))) (pss_cons (ps_set (i := 5) nd rfl (.inl rfl) (pe_own claw_hand (hr.mono (by decide)) (by rfl) (pa_cons (pv 4) (pa_cons (pv 2) pa_nil))))
      (pss_cons (ps_set (i := 6) nd rfl (.inl rfl) (pe_own claw_row (hr.mono (by decide)) (by rfl) (pa_cons (pv 5) (pa_cons pe_int (pa_cons (pe_ix ix_list (pe_lst (pa_cons pe_int (pa_cons pe_int pa_nil))) (pe_own claw_draw (hr.mono (by decide)) (by rfl) (pa_cons (pv 5) (pa_cons pe_int pa_nil))) (fun _ _ => rfl)) pa_nil)))))
      (Evl.pss_cut (ps_if (PW.pt (pw_and (pt_cmpR op_eq (pv 2) pe_int (nomark _)) (pw_and1 (pt_val (pe_own claw_great (hr.mono (by decide)) (by rfl) (pa_cons (pv 0) pa_nil)))))) (pss_cons (ps_set (i := 7) nd rfl (.inl rfl) (pe_ix ix_list (pe_lst (pa_cons (pe_tup (pa_cons pe_int (pa_cons pe_int pa_nil))) (pa_cons (pe_tup (pa_cons pe_int (pa_cons pe_int pa_nil))) pa_nil))) (pe_own claw_draw (hr.mono (by decide)) (by rfl) (pa_cons (pv 5) (pa_cons pe_int pa_nil))) (fun _ _ => rfl)))
      (pss_one (ps_set (i := 6) nd rfl (.inl rfl) (pe_own claw_row (hr.mono (by decide)) (by rfl) (pa_cons (pv 5) (pa_cons (pe_ix ix_tup (pv 7) pe_int (fun _ _ => rfl)) (pa_cons (pe_ix ix_tup (pv 7) pe_int (fun _ _ => rfl)) pa_nil))))))) (pss_one (ps_if (pt_cmpR op_eq (pe_own claw_draw (hr.mono (by decide)) (by rfl) (pa_cons (pv 5) (pa_cons pe_int pa_nil))) pe_int (nomark _)) (pss_one (ps_setLc (i := 6) (own := [("number", 8)]) (by rfl) nd rfl rfl (sw_true rfl rfl rfl (by decide +kernel)) (pi_list (pv 6)) (blkOk_by (own := [("number", 8)]) (N := ["script", "deep", "k", "thing", "cell", "hand", "row", "sizes", "number", "spoilt", "once", "kept", "told"]) (sc := defScope slaw) (by decide +kernel)) (fun _ _ _ _ _ => (pg_name (i := 8) nd rfl (.inl rfl))) (fun _ _ _ _ _ => pts_nil) (fun _ _ _ _ _ => (pe_op op_add (pe_op op_mulW (pv 8) (pe_op op_pow pe_int pe_int)) (pv 8))))) pss_nil)))
      (pss_cons (ps_set (i := 9) nd rfl (.inl rfl) (pe_own claw_spoilt (hr.mono (by decide)) (by rfl) (pa_cons (pv 5) (pa_cons (pv 6) pa_nil))))
      (pss_cons (ps_set (i := 10) nd rfl (.inl rfl) (pv 6))
      (Evl.pss_cut (ps_if (pt_val (pe_own claw_whole_numbers (hr.mono (by decide)) (by rfl) (pa_cons (pv 9) pa_nil))) (pss_one (ps_set (i := 10) nd rfl (.inl rfl) (pv 9))) pss_nil)
      (pss_one (ps_for PassesOwn.never rfl (pi_list (pe_lst (pa_cons (pv 6) (pa_cons (pv 9) (pa_cons (pe_own claw_spoilt (hr.mono (by decide)) (by rfl) (pa_cons (pv 5) (pa_cons (pv 10) pa_nil))) (pa_cons (pe_own claw_spoilt (hr.mono (by decide)) (by rfl) (pa_cons (pv 5) (pa_cons (pv 6) pa_nil))) pa_nil)))))) (pg_name (i := 3) nd rfl (.inl rfl)) (pss_cons (ps_set (i := 11) nd rfl (.inl rfl) (pe_callB (Rq.call_reprQ ug hr) (by rfl) B.repr_ (by decide +kernel) (pa_cons (pv 3) pa_nil)))
      (pss_cons (ps_set (i := 12) nd rfl (.inl rfl) (pe_own cis_row (hr.mono (by decide)) (by rfl) (pa_cons (pv 3) pa_nil)))
      (pss_one (ps_if (PW.pt (pw_or (pt_not (pt_val (pe_callB call_isi (by rfl) B.isinstance_ (by decide +kernel) (pa_cons (pv 12) (pa_cons (pe_bltn (v := .ty "bool") (by rfl) B.bool_ (by decide +kernel) rfl) pa_nil))))) (pw_or (pt_cmpR op_ne (pv 12) (pe_own claw_is (hr.mono (by decide)) (by rfl) (pa_cons (pv 3) pa_nil)) (nomark _)) (pw_or1 (pt_cmpR op_ne (pe_callB (Rq.call_reprQ ug hr) (by rfl) B.repr_ (by decide +kernel) (pa_cons (pv 3) pa_nil)) (pv 11) (nomark _)))))) (pss_one (ps_ret pe_bl)) pss_nil)))))))))))))
      (pss_cons (ps_if (PW.pt (pw_or (pt_cmpR op_notBl (pe_own cis_row (hr.mono (by decide)) (by rfl) (pa_cons (pe_listRg rfl (by rfl) B.list_ (prg_1 (by rfl) B.range_ pe_int)) pa_nil)) pe_bl (nomark _)) (pw_or1 (pt_cmpR op_notBl (pe_own cis_row (hr.mono (by decide)) (by rfl) (pa_cons (pe_op op_cat (pe_op op_rep (pe_lst (pa_cons pe_int pa_nil)) pe_int) (pe_lst (pa_cons (pe_un un_neg pe_int) pa_nil))) pa_nil)) pe_bl (nomark _))))) (pss_one (ps_ret pe_bl)) pss_nil)
      (pss_one (ps_ret (pe_and (pe_cmpR op_isBl (pe_own cis_row (hr.mono (by decide)) (by rfl) (pa_cons (pe_lst pa_nil) pa_nil)) pe_bl (nomark _)) (pe_and (pe_cmpR op_isBl (pe_own cis_row (hr.mono (by decide)) (by rfl) (pa_cons (pe_op op_rep (pe_lst (pa_cons pe_int pa_nil)) pe_int) pa_nil)) pe_bl (nomark _)) (pe_one (pe_cmpR op_isBl (pe_own cis_row (hr.mono (by decide)) (by rfl) (pa_cons (pe_op op_cat (pe_op op_rep (pe_lst (pa_cons pe_int pa_nil)) pe_int) (pe_lst (pa_cons pe_int pa_nil))) pa_nil)) pe_bl (nomark _)))))))))))), ?_⟩
    repeat walk_at "s"
    intro p1 np1
    generalize hg1 : upd H p1 _ = H1
    have s1 : Same H H1 := hg1 ▸ same_new np1
    have e1 := (congrFun hg1 p1).symm.trans upd_same
    clear hg1
    repeat walk_at "s"
    intro p2 np2
    generalize hg2 : upd H1 p2 _ = H2
    have s2 : Same H1 H2 := hg2 ▸ same_new np2
    have e2 := (congrFun hg2 p2).symm.trans upd_same
    clear hg2
    repeat walk_at "s"
    intro p3 np3
    generalize hg3 : upd H2 p3 _ = H3
    have s3 : Same H2 H3 := hg3 ▸ same_new np3
    have e3 := (congrFun hg3 p3).symm.trans upd_same
    clear hg3
    have S3 : Same H H3 := (s1.trans s2).trans s3
    have E1 := s3 _ _ (s2 _ _ e1)
    have E2 := s3 _ _ e2
    repeat walk_at "s"
    refine for_range (lo := 0) (n := 2000) (fun k σ H' => Same H H' ∧ ∃ (pd l t : Addr) (v2 : Option V), H' pd = some (.lst [.ref l, .ref t]) ∧ (∃ ys, H' l = some (.lst ys) ∧ (0 < k → ∃ (l' : Addr) (zs : List V), ys = [.ref l'] ∧ H' l' = some (.lst zs))) ∧ (∃ ys, H' t = some (.tup ys)) ∧ σ = [some (.ref sc), some (.ref pd), v2, none, none, none, none, none, none, none, none, none, none])
      ⟨S3, p3, p1, p2, none, e3, ⟨_, E1, fun h => absurd h (by decide)⟩, ⟨_, E2⟩, rfl⟩ (fun k σ Hk hk w => ?_) (fun σ Hk w => ?_)
    · obtain ⟨sk, pd, l, t, v2, ed, ⟨ys, el, _⟩, ⟨us, et⟩, rfl⟩ := w
      repeat walk_at "s"
      intro p4 np4
      generalize hg4 : upd Hk p4 _ = H4
      have s4 : Same Hk H4 := hg4 ▸ same_new np4
      have e4 := (congrFun hg4 p4).symm.trans upd_same
      clear hg4
      repeat walk_at "s"
      intro p5 np5
      generalize hg5 : upd H4 p5 _ = H5
      have s5 : Same H4 H5 := hg5 ▸ same_new np5
      have e5 := (congrFun hg5 p5).symm.trans upd_same
      clear hg5
      repeat walk_at "s"
      intro p6 np6
      generalize hg6 : upd H5 p6 _ = H6
      have s6 : Same H5 H6 := hg6 ▸ same_new np6
      have e6 := (congrFun hg6 p6).symm.trans upd_same
      clear hg6
      exact ⟨((sk.trans s4).trans s5).trans s6, p6, p4, p5, _, e6, ⟨_, s6 _ _ (s5 _ _ e4), fun _ => ⟨l, ys, rfl, s6 _ _ (s5 _ _ (s4 _ _ el))⟩⟩, ⟨_, s6 _ _ e5⟩, rfl⟩
    obtain ⟨sk, pd, l, t, v2, ed, ⟨ys, el, more⟩, ⟨us, et⟩, rfl⟩ := w
    obtain ⟨l', zs, rfl, el'⟩ := more (by decide)
    repeat walk_at "s"
    intro p4 np4
    generalize hg4 : upd Hk p4 _ = H4
    have s4 : Same Hk H4 := hg4 ▸ same_new np4
    have e4 := (congrFun hg4 p4).symm.trans upd_same
    clear hg4
    repeat walk_at "s"
    intro p5 np5
    generalize hg5 : upd H4 p5 _ = H5
    have s5 : Same H4 H5 := hg5 ▸ same_new np5
    have e5 := (congrFun hg5 p5).symm.trans upd_same
    clear hg5
    repeat walk_at "s"
    intro p6 np6
    generalize hg6 : upd H5 p6 _ = H6
    have s6 : Same H5 H6 := hg6 ▸ same_new np6
    have e6 := (congrFun hg6 p6).symm.trans upd_same
    clear hg6
    refine ⟨pd, p6, _, _, rfl, rfl, s6 _ _ (s5 _ _ (s4 _ _ ed)), e6, small (by simp), ?_⟩
    intro p7 np7
    generalize hg7 : upd H6 p7 _ = H7
    have s7 : Same H6 H7 := hg7 ▸ same_new np7
    have e7 := (congrFun hg7 p7).symm.trans upd_same
    clear hg7
    have S47 : Same Hk H7 := ((s4.trans s5).trans s6).trans s7
    have E4 := s7 _ _ (s6 _ _ (s5 _ _ e4))
    have E5 := s7 _ _ (s6 _ _ e5)
    have nrow : ∀ {zs : List V} {p' : Addr}, V.ref p' ∈ zs → ¬ IsRow zs := fun {zs p'} hm h => by
      obtain ⟨ms, rfl, _⟩ := h
      obtain ⟨m, _, h2⟩ := List.mem_map.mp hm
      cases h2
    have four : ∀ x ∈ [V.ref l, V.ref t] ++ [V.ref p4, V.ref p5], (∃ (p' : Addr) (zs : List V), x = .ref p' ∧ H7 p' = some (.lst zs) ∧ (∀ y ∈ zs, Kn K H7 y) ∧ ¬ IsRow zs) ∨ ∃ (p' : Addr) (zs : List V), x = .ref p' ∧ H7 p' = some (.tup zs) := fun x hx => by
      simp only [List.mem_append, List.mem_cons, List.not_mem_nil, or_false] at hx
      rcases hx with (rfl | rfl) | (rfl | rfl)
      · exact .inl ⟨l, _, rfl, S47 _ _ el, fun y hy => by rw [List.mem_singleton.mp hy]; exact .inr (Rq.ni_lst (S47 _ _ el')), nrow (p' := l') List.mem_cons_self⟩
      · exact .inr ⟨t, _, rfl, S47 _ _ et⟩
      · refine .inl ⟨p4, _, rfl, E4, fun y hy => ?_, nrow (p' := l) (List.mem_cons_of_mem _ List.mem_cons_self)⟩
        simp only [List.mem_cons, List.not_mem_nil, or_false] at hy
        rcases hy with rfl | rfl
        · exact .inl ⟨0, rfl⟩
        · exact .inr (Rq.ni_lst (S47 _ _ el))
      · exact .inl ⟨p5, _, rfl, E5, fun y hy => by rw [List.mem_singleton.mp hy]; exact .inr (Rq.ni_tup (S47 _ _ et)), nrow (p' := t) List.mem_cons_self⟩
    refine ⟨p7, rfl, ⟨_, SqL.new e7⟩, ?_⟩
    intro D nD
    refine lc_list (K := K) (a := p7) (xs := [V.ref l, V.ref t] ++ [V.ref p4, V.ref p5]) (fun j H' => Same H7 H' ∧ H' D = some (.lst [])) ⟨same_new nD, upd_same⟩ (fun j Hj _ w => w.1.seq (SqL.new e7)) (fun j x Hj hx w => ?_) (fun H8 w => ?_)
    · obtain ⟨w1, w2⟩ := w
      refine ⟨rfl, ?_⟩
      repeat walk_at "s"
      rcases four x (List.mem_of_getElem? hx) with ⟨p', zs, rfl, h1, h2, h3⟩ | ⟨p', zs, rfl, h1⟩
      · refine .inl ⟨p', zs, rfl, SqL.new (w1 _ _ h1), fun y hy => (h2 y hy).up w1, fun b H' ib s' => ?_⟩
        obtain rfl : b = false := by
          cases b with
          | false => rfl
          | true => exact absurd (ib.mp rfl) h3
        repeat walk_at "s"
        exact ⟨w1.trans s', s' _ _ w2⟩
      · refine .inr ⟨"tuple", by decide, .base (.tup (w1 _ _ h1)), ?_⟩
        repeat walk_at "s"
        first | exact ⟨w1, w2⟩ | exact w2
    obtain ⟨s8, e8⟩ := w
    repeat walk_at "s"
    intro p9 np9
    generalize hg9 : upd H8 p9 _ = H9
    have s9 : Same H8 H9 := hg9 ▸ same_new np9
    have e9 := (congrFun hg9 p9).symm.trans upd_same
    clear hg9
    refine ⟨D, p9, [], rfl, rfl, SqL.new (s9 _ _ e8), SqL.new e9, ?_⟩
    have S9 : Same H H9 := ((sk.trans S47).trans s8).trans s9
    repeat walk_at "s"
    clear four nrow e7 e6 e5 e4 E4 E5 np4 np5 np6 np7 np9 e9 e8 nD
    refine ⟨sc, 40, ns, rfl, S9.seq hS, hlen, by decide, ?_⟩
    intro HA pA ts cs sA npA eA lA lcA tA
    refine ⟨_, rfl, ⟨_, SqL.new eA⟩, ?_⟩
    refine for_list (K := K) (a := pA) (xs := ts.map V.ref) (fun i σ H' => Same HA H' ∧ ∃ v1 v2 v3 v4 v5 v6 v7 v8 v9 v10 v11 v12, σ = [some (.ref sc), v1, v2, v3, v4, v5, v6, v7, v8, v9, v10, v11, v12]) ⟨Same.refl _, _, _, _, _, _, _, _, _, _, _, _, _, rfl⟩ (fun i σ Hi _ w => w.1.seq (SqL.new eA)) (fun i x σ HB hx w => ?_) (fun σ HB w => ?_)
    · obtain ⟨sB, v1, v2, v3, v4, v5, v6, v7, v8, v9, v10, v11, v12, rfl⟩ := w
      obtain ⟨t, ht, rfl⟩ := ref_at hx
      obtain ⟨c, hc⟩ : ∃ c, cs[i]? = some c := ⟨_, List.getElem?_eq_getElem (by have := (List.getElem?_eq_some_iff.mp ht).1; omega)⟩
      have hi : i < 64 := by have := (List.getElem?_eq_some_iff.mp hc).1; omega
      have hT := sB _ _ (tA i t c ht hc)
      refine ⟨t, _, rfl, .inl (.inl hT), rfl, _, _, rfl, _, _, rfl, rfl, ?_⟩
      -- hand
      repeat walk_at "s"
      refine ⟨c, i, rfl, by omega, by omega, ?_⟩
      intro a hx hy na hx0 hy0 hy1
      generalize hg : upd HB a _ = H3
      have s3 : Same HB H3 := hg ▸ same_new na
      have h3 : HandAt H3 a := ⟨hx, hy, by rw [← hg]; exact upd_same, hx0, hy0, hy1⟩
      clear hg
      have S3 : Same H H3 := ((S9.trans sA).trans sB).trans s3
      -- row
      repeat walk_at "s"
      intro p4 np4
      generalize hg4 : upd H3 p4 _ = H4
      have s4 : Same H3 H4 := hg4 ▸ same_new np4
      have e4 := (congrFun hg4 p4).symm.trans upd_same
      clear hg4
      have n4 : p4 ≠ a := HandAt.ne (by walk_at "hand") np4
      repeat walk_at "s"
      refine ⟨a, _, rfl, (by walk_at "hand"), (by walk_at "pos"), (by walk_at "pos"), ?_⟩
      intro r5 H5 ra5 rb5 h5 k5
      have x5 : Ext a H4 H5 := drawn h5 k5
      clear k5
      obtain ⟨m, hm, lm⟩ : ∃ m : Nat, atI [V.int 4, V.int 12] r5 = some (.int (m : Int)) ∧ m ≤ 12 := by
        obtain ⟨x, g1, g2⟩ := at_draw (xs := [V.int 4, V.int 12]) ra5 rb5
        simp only [List.mem_cons, List.not_mem_nil, or_false] at g2
        rcases g2 with rfl | rfl
        · exact ⟨4, g1, by decide⟩
        · exact ⟨12, g1, by decide⟩
      refine ⟨_, _, _, _, rfl, rfl, (by walk_at "sq"), hm, ?_⟩
      repeat walk_at "s"
      refine ⟨a, 0, m, rfl, (by walk_at "hand"), Nat.zero_le _, by omega, ?_⟩
      intro p6 rs H6 x6 np6 e6 _ l6 f6
      have n6 : p6 ≠ a := HandAt.ne (by walk_at "hand") np6
      have X6 : Ext a H3 H6 := ((Ext.same s4).trans x5).trans x6
      have h6 := X6.hand h3
      have fine : ∀ {rs : List Int}, Fine rs → ∀ x ∈ rs.map V.int, Rq.Num x ∧ Rq.Bnd 10000000000000000000000000000000000000000 x := fun {rs} fr x hx => by
        obtain ⟨m, hm, rfl⟩ := List.mem_map.mp hx
        have := fr.2 m hm
        exact ⟨.inl ⟨m, rfl⟩, by show _ ≤ m; omega, by show m ≤ _; omega⟩
      have N6 : Rq.Ns a 10000000000000000000000000000000000000000 H6 p6 (rs.map V.int) := ⟨e6, n6, fine f6⟩
      -- the great one, or one of great numbers
      refine ⟨fun σ' H' => ∃ p xs v7 v8, Ext a H3 H' ∧ Rq.Ns a 10000000000000000000000000000000000000000 H' p xs ∧ xs.length ≤ 298 ∧ σ' = [some (.ref sc), v1, some (.int i), v3, some (.int c), some (.ref a), some (.ref p), v7, v8, v9, v10, v11, v12], ?_, ?_⟩
      · refine Rq.if_once (fun H' => H' = H6) (fun H' => H' = H6) (fun KK kt kf => ?_) (fun Hc e => ?_) (fun Hc e => ?_)
        · repeat walk_at "s"
          refine ⟨rfl, _, rfl, ?_⟩
          refine ite2 (fun z => ?_) (fun z => ?_)
          · repeat walk_at "s"
            refine ⟨sc, ns, rfl, (((Ext.same s3).trans X6).made na).seq (((S9.trans sA).trans sB).seq hS), fun b => ?_⟩
            repeat walk_at "s"
            cases b with
            | true => exact kt H6 rfl
            | false => exact kf H6 rfl
          · exact kf H6 rfl
        · have e := e.symm
          subst e
          repeat walk_at "s"
          intro p8 np8
          generalize hg8 : upd H6 p8 _ = H8
          have s8 : Same H6 H8 := hg8 ▸ same_new np8
          have e8 := (congrFun hg8 p8).symm.trans upd_same
          clear hg8
          repeat walk_at "s"
          intro p9 np9
          generalize hg9 : upd H8 p9 _ = H9
          have s9 : Same H8 H9 := hg9 ▸ same_new np9
          have e9 := (congrFun hg9 p9).symm.trans upd_same
          clear hg9
          repeat walk_at "s"
          intro p10 np10
          generalize hg10 : upd H9 p10 _ = H10
          have s10 : Same H9 H10 := hg10 ▸ same_new np10
          have e10 := (congrFun hg10 p10).symm.trans upd_same
          clear hg10
          have n10 : p10 ≠ a := HandAt.ne (by walk_at "hand") np10
          repeat walk_at "s"
          have h10 : HandAt H10 a := ((h6.same s8).same s9).same s10
          refine ⟨a, _, rfl, (by walk_at "hand"), (by walk_at "pos"), (by walk_at "pos"), ?_⟩
          intro r11 H11 ra11 rb11 h11 k11
          have x11 : Ext a H10 H11 := drawn h11 k11
          clear k11
          have tupk : ∀ {b : Addr} {vs : List V}, H10 b = some (.tup vs) → H11 b = some (.tup vs) := fun {b vs} hb => x11.keep _ _ hb fun z => by
            obtain ⟨u, w, e0, _⟩ := h10
            rw [z, e0] at hb
            cases hb
          have X11 : Ext a H6 H11 := (Ext.same ((s8.trans s9).trans s10)).trans x11
          obtain ⟨pt, lo, hi', hv, et, hlo⟩ : ∃ (pt : Addr) (lo hi' : Nat), atI [V.ref p8, V.ref p9] r11 = some (.ref pt) ∧ H11 pt = some (.tup [.int (lo : Int), .int (hi' : Int)]) ∧ lo ≤ hi' ∧ hi' ≤ 298 := by
            by_cases z : r11 = 0
            · rw [z]
              exact ⟨p8, 240, 298, at0, tupk (s10 _ _ (s9 _ _ e8)), by decide, by decide⟩
            · obtain rfl : r11 = 1 := by omega
              exact ⟨p9, 13, 239, at1, tupk (s10 _ _ e9), by decide, by decide⟩
          refine ⟨_, _, _, _, rfl, rfl, SqL.new (x11.keep _ _ e10 n10), hv, ?_⟩
          repeat walk_at "s"
          refine ⟨a, lo, hi', rfl, x11.hand h10, hlo.1, by omega, ?_⟩
          intro p12 rs2 H12 x12 np12 e12 _ l12 f12
          have h11 := x11.hand h10
          exact ⟨p12, rs2.map V.int, _, _, X6.trans (X11.trans x12), ⟨e12, HandAt.ne h11 np12, fine f12⟩, by rw [List.length_map]; omega, rfl⟩
        · have e := e.symm
          subst e
          repeat walk_at "s"
          refine ⟨a, _, rfl, (by walk_at "hand"), (by walk_at "pos"), (by walk_at "pos"), ?_⟩
          intro r8 H8 ra8 rb8 h8 k8
          have x8 : Ext a H6 H8 := drawn h8 k8
          clear k8
          have N8 := N6.ext x8
          repeat walk_at "s"
          refine ⟨rfl, _, rfl, ?_⟩
          refine ite2 (fun z => ?_) (fun z => ?_)
          · repeat walk_at "s"
            refine ⟨⟨_, SqL.new N8.at_⟩, ?_⟩
            intro D nD
            have t24 : (10 : Int) ^ Int.toNat 24 = 1000000000000000000000000 := by decide
            refine lc_list (K := K) (a := p6) (xs := rs.map V.int) (fun j H' => Same H8 H' ∧ H' D = some (.lst (((rs.take j).map fun n => n * 1000000000000000000000000 + n).map V.int))) ⟨same_new nD, upd_same⟩ (fun j Hj _ w => w.1.seq (SqL.new N8.at_)) (fun j x Hj hj w => ?_) (fun H9 w => ?_)
            · obtain ⟨w1, w2⟩ := w
              obtain ⟨y, hy, rfl⟩ := int_at hj
              have jl := (List.getElem?_eq_some_iff.mp hy).1
              have fy := f6.2 y (List.mem_of_getElem? hy)
              refine ⟨rfl, ?_⟩
              repeat walk_at "s"
              dsimp only
              rw [t24]
              refine ⟨_, w2, smallLt (by rw [List.length_map, List.length_map, List.length_take]; omega), same_app nD w1, ?_⟩
              rw [upd_same, take_snoc hy, List.map_append, List.map_append]
              rfl
            obtain ⟨w1, w2⟩ := w
            rw [List.length_map, take_all] at w2
            refine ⟨D, _, _, _, X6.trans (x8.trans (.same w1)), ⟨w2, HandAt.ne (x8.hand h6) nD, fun x hx => ?_⟩, by rw [List.length_map, List.length_map]; omega, rfl⟩
            rw [List.map_map] at hx
            obtain ⟨m, hm, rfl⟩ := List.mem_map.mp hx
            have := f6.2 m hm
            exact ⟨.inl ⟨_, rfl⟩, by show _ ≤ m * 1000000000000000000000000 + m; omega, by show m * 1000000000000000000000000 + m ≤ _; omega⟩
          · exact ⟨p6, _, _, _, X6.trans x8, N8, by rw [List.length_map]; omega, rfl⟩
      clear hm e4 np4 np6
      rintro σ' H7 ⟨p, xs, v7, v8, X7, N7, l7, rfl⟩
      have h7 := X7.hand h3
      repeat walk_at "s"
      refine ⟨a, p, xs, _, rfl, h7, N7, by omega, by decide, by decide, fun v H8 x8 th8 li8 => ?_⟩
      repeat walk_at "s"
      have h8 := x8.hand h7
      have N8 := N7.ext x8
      -- once
      refine ⟨fun σ' H' => ∃ (po : Addr) (xo : List V), Ext a H8 H' ∧ Rq.Ns a 10000000000000000000000000000000000000001 H' po xo ∧ xo.length ≤ 299 ∧ σ' = [some (.ref sc), v1, some (.int i), v3, some (.int c), some (.ref a), some (.ref p), v7, v8, some v, some (.ref po), v11, v12], ?_, ?_⟩
      · obtain ⟨d8, t8⟩ := th8
        have inf8 := (t8 H8 .refl).2
        repeat walk_at "s"
        refine ⟨fun p' xs' g1 g2 => by have := (li8 p' xs' g1 g2).2.1; omega, fun b H9 wb s9 => ?_⟩
        repeat walk_at "s"
        cases b with
        | true =>
          obtain ⟨p', xs', rfl, g2, g3⟩ := wb rfl
          obtain ⟨l1, l2, l3⟩ := li8 p' xs' rfl g2
          repeat walk_at "s"
          exact ⟨p', xs', .same s9, ⟨s9 _ _ g2, l1, fun x hx => ⟨g3 x hx, l3 x hx (g3 x hx)⟩⟩, by omega, rfl⟩
        | false => exact ⟨p, xs, .same s9, (N8.ext (.same s9)).mono (by decide), by omega, rfl⟩
      rintro σ' H9 ⟨po, xo, x9, No, lo, rfl⟩
      have h9 := x9.hand h8
      have X9 : Ext a H3 H9 := X7.trans (x8.trans x9)
      have N9 := N8.ext x9
      have th9 := th8.ext x9
      repeat walk_at "s"
      refine ⟨a, po, xo, _, rfl, h9, No, by omega, by decide, by decide, fun u H10 x10 th10 _ => ?_⟩
      have h10 := x10.hand h9
      have N10 := N9.ext x10
      repeat walk_at "s"
      refine ⟨a, p, xs, _, rfl, h10, N10, by omega, by decide, by decide, fun u2 H11 x11 th11 _ => ?_⟩
      repeat walk_at "s"
      have h11 := x11.hand h10
      intro p12 np12
      generalize hg12 : upd H11 p12 _ = H12
      have s12 : Same H11 H12 := hg12 ▸ same_new np12
      have e12 := (congrFun hg12 p12).symm.trans upd_same
      clear hg12
      have n12 : p12 ≠ a := HandAt.ne (by walk_at "hand") np12
      have thR : Rq.Th K a H12 (.ref p) := Rq.ns_th ((N10.ext x11).ext (.same s12)) (by decide) (by omega)
      have all : ∀ x ∈ [V.ref p, v, u, u2], Rq.Th K a H12 x := fun x hx => by
        simp only [List.mem_cons, List.not_mem_nil, or_false] at hx
        rcases hx with rfl | rfl | rfl | rfl
        · exact thR
        · exact th9.ext (x10.trans (x11.trans (.same s12)))
        · exact th10.ext (x11.trans (.same s12))
        · exact th11.ext (.same s12)
      refine ⟨p12, rfl, ⟨_, SqL.new e12⟩, ?_⟩
      have X12 : Ext a H3 H12 := X9.trans (x10.trans (x11.trans (.same s12)))
      refine for_list (K := K) (a := p12) (xs := [V.ref p, v, u, u2]) (fun i2 σ H' => Same H12 H' ∧ ∃ w3 w11 w12, σ = [some (.ref sc), v1, some (.int i), w3, some (.int c), some (.ref a), some (.ref p), v7, v8, some v, some (.ref po), w11, w12]) ⟨Same.refl _, _, _, _, rfl⟩ (fun i2 σ Hi _ w => w.1.seq (SqL.new e12)) (fun i2 x σ Hi hx w => ?_) (fun σ Hi w => ?_)
      · obtain ⟨si, w3, w11, w12, rfl⟩ := w
        obtain ⟨d, td⟩ := all x (List.mem_of_getElem? hx)
        obtain ⟨dt, inf⟩ := td Hi (.same si)
        repeat walk_at "s"
        refine ⟨x, d, rfl, dt, ?_⟩
        repeat walk_at "s"
        -- is_row, and what is due
        have tail : ∀ (b : Bool) (H' : Hp), (b = true ↔ ∃ (p : Addr) (xs : List V), x = .ref p ∧ Hi p = some (.lst xs) ∧ IsRow xs) → Same Hi H' → True := fun _ _ _ _ => trivial
        rcases inf.two with ⟨p', zs, rfl, g1, g2⟩ | ⟨T, hT, ty, nl⟩
        · refine .inl ⟨p', zs, rfl, SqL.new g1, g2, fun b H' ib s' => ?_⟩
          repeat walk_at "s"
          refine ⟨_, _, _, _, true, rfl, .ty "bool", .base (.bl b), kit_ty (by decide +kernel), ?_⟩
          repeat walk_at "s"
          obtain ⟨dt2, inf2⟩ := td H' (.same (si.trans s'))
          refine ⟨inf2, fun b2 ib2 => ?_⟩
          obtain rfl : b2 = b := by
            have h1 : (b2 = true) ↔ (b = true) := ⟨fun h => by
              obtain ⟨p2, xs2, k1, k2, k3⟩ := ib2.mp h
              cases k1
              rw [s' _ _ g1] at k2
              cases k2
              exact ib.mpr k3, fun h => ib2.mpr ⟨p', zs, rfl, s' _ _ g1, ib.mp h⟩⟩
            cases b <;> cases b2 <;> simp at h1 <;> rfl
          refine ne_same rfl ?_
          repeat walk_at "s"
          refine ⟨.ref p', d, rfl, dt2, ?_⟩
          repeat walk_at "s"
          refine ne_same rfl ?_
          repeat walk_at "s"
          first | exact ⟨si.trans s', _, _, _, rfl⟩ | exact ⟨_, _, _, rfl⟩
        · refine .inr ⟨T, hT, ty, ?_⟩
          repeat walk_at "s"
          refine ⟨_, _, _, _, true, rfl, .ty "bool", .base (.bl false), kit_ty (by decide +kernel), ?_⟩
          repeat walk_at "s"
          intro b2 ib2
          obtain rfl : b2 = false := by
            cases b2 with
            | false => rfl
            | true =>
              obtain ⟨p2, xs2, k1, k2, k3⟩ := ib2.mp rfl
              exact absurd k2 (nl _ _ k1)
          refine ne_same rfl ?_
          repeat walk_at "s"
          refine ⟨x, d, rfl, dt, ?_⟩
          repeat walk_at "s"
          refine ne_same rfl ?_
          repeat walk_at "s"
          first | exact ⟨si, _, _, _, rfl⟩ | exact ⟨_, _, _, rfl⟩
      · obtain ⟨si, w3, w11, w12, rfl⟩ := w
        exact ⟨sB.trans (((Ext.same s3).trans X12).made na |>.trans si), _, _, _, _, _, _, _, _, _, _, _, _, rfl⟩
    · obtain ⟨sB, v1, v2, v3, v4, v5, v6, v7, v8, v9, v10, v11, v12, rfl⟩ := w
      repeat walk_at "s"
      have knI : ∀ (H' : Hp) (zs : List Int), ∀ y ∈ zs.map V.int, Kn K H' y := fun H' zs y hy => by
        obtain ⟨z, _, rfl⟩ := List.mem_map.mp hy
        exact .inl ⟨z, rfl⟩
      have yes : ∀ {b : Bool} {xs : List V}, (b = true ↔ IsRow xs) → IsRow xs → b = true := fun h1 h2 => h1.mpr h2
      have noo : ∀ {b : Bool} {xs : List V}, (b = true ↔ IsRow xs) → ¬ IsRow xs → b = false := fun {b xs} h1 h2 => by
        cases b with
        | false => rfl
        | true => exact absurd (h1.mp rfl) h2
      have upd_ : ∀ (m n : Nat) (x y : Int), 0 < n → y < x → ¬ IsRow ((List.replicate n x ++ [y]).map V.int) := fun m n x y hn hxy h => by
        have h1 := (IsRow.map _).mp h
        have h2 := (List.pairwise_append.mp h1).2.2 x (List.mem_replicate.mpr ⟨by omega, rfl⟩) y (List.mem_singleton.mpr rfl)
        omega
      refine ⟨RgOk.of_le (by omega) (by omega) (by omega) (by omega), ?_⟩
      intro p13 np13
      generalize hg13 : upd HB p13 _ = H13
      have s13 : Same HB H13 := hg13 ▸ same_new np13
      have e13 := (congrFun hg13 p13).symm.trans upd_same
      clear hg13
      rw [show (2000 : Int) = ((2000 : Nat) : Int) from rfl, rgV_ints] at e13
      repeat walk_at "s"
      refine .inl ⟨p13, _, rfl, SqL.new e13, knI _ _, fun b H14 ib s14 => ?_⟩
      obtain rfl := yes ib ((IsRow.map _).mpr (by
        rw [List.pairwise_map]
        exact List.pairwise_lt_range.imp fun h => by omega))
      repeat walk_at "s"
      intro p15 np15
      generalize hg15 : upd H14 p15 _ = H15
      have s15 : Same H14 H15 := hg15 ▸ same_new np15
      have e15 := (congrFun hg15 p15).symm.trans upd_same
      clear hg15
      repeat walk_at "s"
      refine ⟨p15, _, _, rfl, rfl, e15, by decide, by decide, small (by decide), ?_⟩
      intro p16 np16
      generalize hg16 : upd H15 p16 _ = H16
      have s16 : Same H15 H16 := hg16 ▸ same_new np16
      have e16 := (congrFun hg16 p16).symm.trans upd_same
      clear hg16
      rw [rep_one, rep_int] at e16
      repeat walk_at "s"
      intro p17 np17
      generalize hg17 : upd H16 p17 _ = H17
      have s17 : Same H16 H17 := hg17 ▸ same_new np17
      have e17 := (congrFun hg17 p17).symm.trans upd_same
      clear hg17
      refine ⟨p16, p17, _, _, rfl, rfl, s17 _ _ e16, e17, small (by rw [List.length_map, List.length_replicate]; decide), ?_⟩
      intro p18 np18
      generalize hg18 : upd H17 p18 _ = H18
      have s18 : Same H17 H18 := hg18 ▸ same_new np18
      have e18 := (congrFun hg18 p18).symm.trans upd_same
      clear hg18
      have e18 : H18 p18 = some (.lst ((List.replicate (1999 : Int).toNat 0 ++ [-1]).map V.int)) := by rw [e18, List.map_append]; rfl
      repeat walk_at "s"
      refine .inl ⟨p18, _, rfl, SqL.new e18, knI _ _, fun b H19 ib s19 => ?_⟩
      obtain rfl := noo ib (upd_ 0 _ _ _ (by decide) (by decide))
      repeat walk_at "s"
      intro p20 np20
      generalize hg20 : upd H19 p20 _ = H20
      have s20 : Same H19 H20 := hg20 ▸ same_new np20
      have e20 := (congrFun hg20 p20).symm.trans upd_same
      clear hg20
      repeat walk_at "s"
      refine .inl ⟨p20, [], rfl, SqL.new e20, (fun _ h => nomatch h), fun b H21 ib s21 => ?_⟩
      obtain rfl := yes ib ⟨[], rfl, List.Pairwise.nil⟩
      repeat walk_at "s"
      intro p22 np22
      generalize hg22 : upd H21 p22 _ = H22
      have s22 : Same H21 H22 := hg22 ▸ same_new np22
      have e22 := (congrFun hg22 p22).symm.trans upd_same
      clear hg22
      repeat walk_at "s"
      refine ⟨p22, _, _, rfl, rfl, e22, by decide, by decide, small (by decide), ?_⟩
      intro p23 np23
      generalize hg23 : upd H22 p23 _ = H23
      have s23 : Same H22 H23 := hg23 ▸ same_new np23
      have e23 := (congrFun hg23 p23).symm.trans upd_same
      clear hg23
      rw [rep_one, rep_int] at e23
      repeat walk_at "s"
      refine .inl ⟨p23, _, rfl, SqL.new e23, knI _ _, fun b H24 ib s24 => ?_⟩
      obtain rfl := yes ib ((IsRow.map _).mpr (List.pairwise_replicate.mpr (.inr (Int.le_refl _))))
      repeat walk_at "s"
      intro p25 np25
      generalize hg25 : upd H24 p25 _ = H25
      have s25 : Same H24 H25 := hg25 ▸ same_new np25
      have e25 := (congrFun hg25 p25).symm.trans upd_same
      clear hg25
      repeat walk_at "s"
      refine ⟨p25, _, _, rfl, rfl, e25, by decide, by decide, small (by decide), ?_⟩
      intro p26 np26
      generalize hg26 : upd H25 p26 _ = H26
      have s26 : Same H25 H26 := hg26 ▸ same_new np26
      have e26 := (congrFun hg26 p26).symm.trans upd_same
      clear hg26
      rw [rep_one, rep_int] at e26
      repeat walk_at "s"
      intro p27 np27
      generalize hg27 : upd H26 p27 _ = H27
      have s27 : Same H26 H27 := hg27 ▸ same_new np27
      have e27 := (congrFun hg27 p27).symm.trans upd_same
      clear hg27
      refine ⟨p26, p27, _, _, rfl, rfl, s27 _ _ e26, e27, small (by rw [List.length_map, List.length_replicate]; decide), ?_⟩
      intro p28 np28
      generalize hg28 : upd H27 p28 _ = H28
      have s28 : Same H27 H28 := hg28 ▸ same_new np28
      have e28 := (congrFun hg28 p28).symm.trans upd_same
      clear hg28
      have e28 : H28 p28 = some (.lst ((List.replicate (299 : Int).toNat (5 : Int) ++ [(4 : Int)]).map V.int)) := by rw [e28, List.map_append]; rfl
      repeat walk_at "s"
      refine .inl ⟨p28, _, rfl, SqL.new e28, knI _ _, fun b H29 ib s29 => ?_⟩
      obtain rfl := noo ib (upd_ 0 _ _ _ (by decide) (by decide))
      repeat walk_at "s"
      exact q H29

end
theorem all_mk {l : PySem.W.OpenLaw} {w : World} {K : PySem.W.Frag} {h : Heap} {mg : Str → Option Value} {fa f0 f1 f2 f3 f4 f5 f6 f7 f8 f9 f10 f11 : Addr} (X : K.In h) (G : h.Ns mainGlobals mg) (hfa : mg "law" = some (.ref fa))
    {od0 an0 od1 an1 od2 an2 od3 an3 od4 an4 od5 an5 od6 an6 od7 an7 od8 an8 od9 an9 od10 an10 od11 an11 : Option Addr} {sl0 sl1 sl2 sl3 sl4 sl5 sl6 sl7 sl8 sl9 sl10 sl11 : Array (Option Value)} {oc0 kV0 dc0 pm0 ct0 cd0 oc1 kV1 dc1 pm1 ct1 cd1 oc2 kV2 dc2 pm2 ct2 cd2 oc3 kV3 dc3 pm3 ct3 cd3 oc4 kV4 dc4 pm4 ct4 cd4 oc5 kV5 dc5 pm5 ct5 cd5 oc6 kV6 dc6 pm6 ct6 cd6 oc7 kV7 dc7 pm7 ct7 cd7 oc8 kV8 dc8 pm8 ct8 cd8 oc9 kV9 dc9 pm9 ct9 cd9 oc10 kV10 dc10 pm10 ct10 cd10 oc11 kV11 dc11 pm11 ct11 cd11 : Value}
    (a0 : PySem.W.nsIn K mainGlobals "_law_hand" = some (some (.ref f0))) (l0 : K.lookup f0 = some ⟨oc0, od0, .func (PySem.W.fnOf "_law_hand" "_law_hand" (defArgs slaw_hand) (defBody slaw_hand) (defScope slaw_hand) .none kV0 dc0 pm0 an0 cd0 ct0), sl0⟩) (c0 : PySem.W.codeIn K cd0 "_law_hand" = true) (k0 : PySem.W.keepIn K (.ref f0) = true)
    (a1 : PySem.W.nsIn K mainGlobals "_law_draw" = some (some (.ref f1))) (l1 : K.lookup f1 = some ⟨oc1, od1, .func (PySem.W.fnOf "_law_draw" "_law_draw" (defArgs slaw_draw) (defBody slaw_draw) (defScope slaw_draw) .none kV1 dc1 pm1 an1 cd1 ct1), sl1⟩) (c1 : PySem.W.codeIn K cd1 "_law_draw" = true) (k1 : PySem.W.keepIn K (.ref f1) = true)
    (a2 : PySem.W.nsIn K mainGlobals "_law_cells" = some (some (.ref f2))) (l2 : K.lookup f2 = some ⟨oc2, od2, .func (PySem.W.fnOf "_law_cells" "_law_cells" (defArgs slaw_cells) (defBody slaw_cells) (defScope slaw_cells) .none kV2 dc2 pm2 an2 cd2 ct2), sl2⟩) (c2 : PySem.W.codeIn K cd2 "_law_cells" = true) (k2 : PySem.W.keepIn K (.ref f2) = true)
    (a3 : PySem.W.nsIn K mainGlobals "_law_great" = some (some (.ref f3))) (l3 : K.lookup f3 = some ⟨oc3, od3, .func (PySem.W.fnOf "_law_great" "_law_great" (defArgs slaw_great) (defBody slaw_great) (defScope slaw_great) .none kV3 dc3 pm3 an3 cd3 ct3), sl3⟩) (c3 : PySem.W.codeIn K cd3 "_law_great" = true) (k3 : PySem.W.keepIn K (.ref f3) = true)
    (a4 : PySem.W.nsIn K mainGlobals "_law_row" = some (some (.ref f4))) (l4 : K.lookup f4 = some ⟨oc4, od4, .func (PySem.W.fnOf "_law_row" "_law_row" (defArgs slaw_row) (defBody slaw_row) (defScope slaw_row) .none kV4 dc4 pm4 an4 cd4 ct4), sl4⟩) (c4 : PySem.W.codeIn K cd4 "_law_row" = true) (k4 : PySem.W.keepIn K (.ref f4) = true)
    (a5 : PySem.W.nsIn K mainGlobals "is_whole" = some (some (.ref f5))) (l5 : K.lookup f5 = some ⟨oc5, od5, .func (PySem.W.fnOf "is_whole" "is_whole" (defArgs sis_whole) (defBody sis_whole) (defScope sis_whole) .none kV5 dc5 pm5 an5 cd5 ct5), sl5⟩) (c5 : PySem.W.codeIn K cd5 "is_whole" = true) (k5 : PySem.W.keepIn K (.ref f5) = true)
    (a6 : PySem.W.nsIn K mainGlobals "is_row" = some (some (.ref f6))) (l6 : K.lookup f6 = some ⟨oc6, od6, .func (PySem.W.fnOf "is_row" "is_row" (defArgs sis_row) (defBody sis_row) (defScope sis_row) .none kV6 dc6 pm6 an6 cd6 ct6), sl6⟩) (c6 : PySem.W.codeIn K cd6 "is_row" = true) (k6 : PySem.W.keepIn K (.ref f6) = true)
    (a7 : PySem.W.nsIn K mainGlobals "_law_odd" = some (some (.ref f7))) (l7 : K.lookup f7 = some ⟨oc7, od7, .func (PySem.W.fnOf "_law_odd" "_law_odd" (defArgs slaw_odd) (defBody slaw_odd) (defScope slaw_odd) .none kV7 dc7 pm7 an7 cd7 ct7), sl7⟩) (c7 : PySem.W.codeIn K cd7 "_law_odd" = true) (k7 : PySem.W.keepIn K (.ref f7) = true)
    (a8 : PySem.W.nsIn K mainGlobals "_law_spoilt" = some (some (.ref f8))) (l8 : K.lookup f8 = some ⟨oc8, od8, .func (PySem.W.fnOf "_law_spoilt" "_law_spoilt" (defArgs slaw_spoilt) (defBody slaw_spoilt) (defScope slaw_spoilt) .none kV8 dc8 pm8 an8 cd8 ct8), sl8⟩) (c8 : PySem.W.codeIn K cd8 "_law_spoilt" = true) (k8 : PySem.W.keepIn K (.ref f8) = true)
    (a9 : PySem.W.nsIn K mainGlobals "_law_is" = some (some (.ref f9))) (l9 : K.lookup f9 = some ⟨oc9, od9, .func (PySem.W.fnOf "_law_is" "_law_is" (defArgs slaw_is) (defBody slaw_is) (defScope slaw_is) .none kV9 dc9 pm9 an9 cd9 ct9), sl9⟩) (c9 : PySem.W.codeIn K cd9 "_law_is" = true) (k9 : PySem.W.keepIn K (.ref f9) = true)
    (a10 : PySem.W.nsIn K mainGlobals "_law_whole_numbers" = some (some (.ref f10))) (l10 : K.lookup f10 = some ⟨oc10, od10, .func (PySem.W.fnOf "_law_whole_numbers" "_law_whole_numbers" (defArgs slaw_whole_numbers) (defBody slaw_whole_numbers) (defScope slaw_whole_numbers) .none kV10 dc10 pm10 an10 cd10 ct10), sl10⟩) (c10 : PySem.W.codeIn K cd10 "_law_whole_numbers" = true) (k10 : PySem.W.keepIn K (.ref f10) = true)
    (a11 : PySem.W.nsIn K mainGlobals "law" = some (some (.ref f11))) (l11 : K.lookup f11 = some ⟨oc11, od11, .func (PySem.W.fnOf "law" "law" (defArgs slaw) (defBody slaw) (defScope slaw) .none kV11 dc11 pm11 an11 cd11 ct11), sl11⟩) (c11 : PySem.W.codeIn K cd11 "law" = true) (k11 : PySem.W.keepIn K (.ref f11) = true)
    (zlen : PySem.W.nsIn K mainGlobals "len" = some none)
    (zlist : PySem.W.nsIn K mainGlobals "list" = some none)
    (zenumerate : PySem.W.nsIn K mainGlobals "enumerate" = some none)
    (zint : PySem.W.nsIn K mainGlobals "int" = some none)
    (zbool : PySem.W.nsIn K mainGlobals "bool" = some none)
    (zsum : PySem.W.nsIn K mainGlobals "sum" = some none)
    (zsorted : PySem.W.nsIn K mainGlobals "sorted" = some none)
    (zmin : PySem.W.nsIn K mainGlobals "min" = some none)
    (zmax : PySem.W.nsIn K mainGlobals "max" = some none)
    (zrange : PySem.W.nsIn K mainGlobals "range" = some none)
    (zisinstance : PySem.W.nsIn K mainGlobals "isinstance" = some none)
    (zrepr : PySem.W.nsIn K mainGlobals "repr" = some none)
    (ztuple : PySem.W.nsIn K mainGlobals "tuple" = some none)
    (zdict : PySem.W.nsIn K mainGlobals "dict" = some none)
    (zabs : PySem.W.nsIn K mainGlobals "abs" = some none)
    (zstr : PySem.W.nsIn K mainGlobals "str" = some none)
    : ∃ fd : FuncData, (∀ (s : Shared) (v : Value), BindsTo s fd ⟨[v], []⟩ [("script", v)]) ∧ ∀ base : Heap, K.In base → base.Ns mainGlobals mg → Gd.FnG l.prog w K mg base 4 fa fd ["script"] (spLaw K) := by
  have e := hfa.symm.trans (PySem.W.mg_of X G a11)
  cases e
  have B : Bt mg := ⟨PySem.W.mg_none_of X G zlen, PySem.W.mg_none_of X G zlist, PySem.W.mg_none_of X G zenumerate, PySem.W.mg_none_of X G zint, PySem.W.mg_none_of X G zbool, PySem.W.mg_none_of X G zsum, PySem.W.mg_none_of X G zsorted, PySem.W.mg_none_of X G zmin, PySem.W.mg_none_of X G zmax, PySem.W.mg_none_of X G zrange, PySem.W.mg_none_of X G zisinstance, PySem.W.mg_none_of X G zrepr, PySem.W.mg_none_of X G ztuple, PySem.W.mg_none_of X G zdict, PySem.W.mg_none_of X G zabs, PySem.W.mg_none_of X G zstr⟩
  have F0 := fun_mk (st := slaw_hand) l0 c0 k0
  have b0 := F0.binds (ps := ["cell", "k"]) fun _ _ _ _ _ _ us hl => match us, hl with | [_, _], _ => rfl
  have F1 := fun_mk (st := slaw_draw) l1 c1 k1
  have b1 := F1.binds (ps := ["hand", "limit"]) fun _ _ _ _ _ _ us hl => match us, hl with | [_, _], _ => rfl
  have F2 := fun_mk (st := slaw_cells) l2 c2 k2
  have b2 := F2.binds (ps := ["script", "many"]) fun _ _ _ _ _ _ us hl => match us, hl with | [_, _], _ => rfl
  have F3 := fun_mk (st := slaw_great) l3 c3 k3
  have b3 := F3.binds (ps := ["script"]) fun _ _ _ _ _ _ us hl => match us, hl with | [_], _ => rfl
  have F4 := fun_mk (st := slaw_row) l4 c4 k4
  have b4 := F4.binds (ps := ["hand", "least", "most"]) fun _ _ _ _ _ _ us hl => match us, hl with | [_, _, _], _ => rfl
  have F5 := fun_mk (st := sis_whole) l5 c5 k5
  have b5 := F5.binds (ps := ["thing"]) fun _ _ _ _ _ _ us hl => match us, hl with | [_], _ => rfl
  have F6 := fun_mk (st := sis_row) l6 c6 k6
  have b6 := F6.binds (ps := ["thing"]) fun _ _ _ _ _ _ us hl => match us, hl with | [_], _ => rfl
  have F7 := fun_mk (st := slaw_odd) l7 c7 k7
  have b7 := F7.binds (ps := ["hand", "row", "at"]) fun _ _ _ _ _ _ us hl => match us, hl with | [_, _, _], _ => rfl
  have F8 := fun_mk (st := slaw_spoilt) l8 c8 k8
  have b8 := F8.binds (ps := ["hand", "row"]) fun _ _ _ _ _ _ us hl => match us, hl with | [_, _], _ => rfl
  have F9 := fun_mk (st := slaw_is) l9 c9 k9
  have b9 := F9.binds (ps := ["thing"]) fun _ _ _ _ _ _ us hl => match us, hl with | [_], _ => rfl
  have F10 := fun_mk (st := slaw_whole_numbers) l10 c10 k10
  have b10 := F10.binds (ps := ["thing"]) fun _ _ _ _ _ _ us hl => match us, hl with | [_], _ => rfl
  have F11 := fun_mk (st := slaw) l11 c11 k11
  have b11 := F11.binds (ps := ["script"]) fun _ _ _ _ _ _ us hl => match us, hl with | [_], _ => rfl
  refine ⟨PySem.W.fnOf "law" "law" (defArgs slaw) (defBody slaw) (defScope slaw) .none kV11 dc11 pm11 an11 cd11 ct11, fun s v => .of_eq rfl, fun base _ _ => ?_⟩
  have g0 : Cal l.prog w K mg base 1 "_law_hand" ["cell", "k"] spHand := ⟨_, _, ok_hand F0, PySem.W.mg_of X G a0, k0, b0⟩
  have g1 : Cal l.prog w K mg base 1 "_law_draw" ["hand", "limit"] spDraw := ⟨_, _, ok_draw F1, PySem.W.mg_of X G a1, k1, b1⟩
  have g2 : Cal l.prog w K mg base 1 "_law_cells" ["script", "many"] (spCells K) := ⟨_, _, ok_cells B F2, PySem.W.mg_of X G a2, k2, b2⟩
  have g3 : Cal l.prog w K mg base 1 "_law_great" ["script"] (spGreat K) := ⟨_, _, ok_great B F3, PySem.W.mg_of X G a3, k3, b3⟩
  have g4 : Cal l.prog w K mg base 2 "_law_row" ["hand", "least", "most"] spRow := ⟨_, _, ok_row B F4 g1, PySem.W.mg_of X G a4, k4, b4⟩
  have g5 : Cal l.prog w K mg base 1 "is_whole" ["thing"] (spIsWhole K) := ⟨_, _, ok_is_whole B F5, PySem.W.mg_of X G a5, k5, b5⟩
  have g6 : Cal l.prog w K mg base 2 "is_row" ["thing"] (spIsRow K) := ⟨_, _, ok_is_row B F6 g5, PySem.W.mg_of X G a6, k6, b6⟩
  have g7 : Cal l.prog w K mg base 2 "_law_odd" ["hand", "row", "at"] (Rq.spOdd01 K) := ⟨_, _, ok_odd01 B F7 g1, PySem.W.mg_of X G a7, k7, b7⟩
  have g8 : Cal l.prog w K mg base 3 "_law_spoilt" ["hand", "row"] (Rq.spSpoilt01 K) := ⟨_, _, ok_spoilt01 B F8 g1 g7, PySem.W.mg_of X G a8, k8, b8⟩
  have g9 : Cal l.prog w K mg base 1 "_law_is" ["thing"] (Rq.spIs01 K) := ⟨_, _, ok_is01 B F9, PySem.W.mg_of X G a9, k9, b9⟩
  have g10 : Cal l.prog w K mg base 1 "_law_whole_numbers" ["thing"] (Rq.spWholes01 K) := ⟨_, _, ok_wholes01 B F10, PySem.W.mg_of X G a10, k10, b10⟩
  exact ok_law1 B F11 g6 g0 g1 g2 g3 g4 g8 g9 g10
end Sp
open PySem PySem.W PyProof.Rows
set_option maxRecDepth 100000 in
set_option maxHeartbeats 0 in
theorem PySem.Challenge.cw_sumplace_k01_what_is_a_row_holds : PySem.Challenge.rw_sumplace_k01_what_is_a_row.Holds := by
  w_on; o_law; k_head; (case hw => w_witness2)
  k_fill
  refine Gd.walkG (l := PySem.Challenge.rw_sumplace_k01_what_is_a_row) (n := 63) (k := 4) (x := "script") (sp := Sp.spLaw) rfl (by decide) rfl ⟨rfl, by decide, by decide⟩ (fun w h Y => PySem.W.kIn_of Y) ?F (fun _ _ a ns hl hS => ⟨a, ns, rfl, hS, hl, fun _ => rfl⟩)
  case F =>
    intro w mg fa h KX G hmg
    refine' Sp.all_mk KX G hmg ?a0 ?l0 ?c0 ?k0 ?a1 ?l1 ?c1 ?k1 ?a2 ?l2 ?c2 ?k2 ?a3 ?l3 ?c3 ?k3 ?a4 ?l4 ?c4 ?k4 ?a5 ?l5 ?c5 ?k5 ?a6 ?l6 ?c6 ?k6 ?a7 ?l7 ?c7 ?k7 ?a8 ?l8 ?c8 ?k8 ?a9 ?l9 ?c9 ?k9 ?a10 ?l10 ?c10 ?k10 ?a11 ?l11 ?c11 ?k11 ?zlen ?zlist ?zenumerate ?zint ?zbool ?zsum ?zsorted ?zmin ?zmax ?zrange ?zisinstance ?zrepr ?ztuple ?zdict ?zabs ?zstr
    (case a0 => k_is)
    (case l0 => k_is)
    (case c0 => k_is)
    (case k0 => k_is)
    (case a1 => k_is)
    (case l1 => k_is)
    (case c1 => k_is)
    (case k1 => k_is)
    (case a2 => k_is)
    (case l2 => k_is)
    (case c2 => k_is)
    (case k2 => k_is)
    (case a3 => k_is)
    (case l3 => k_is)
    (case c3 => k_is)
    (case k3 => k_is)
    (case a4 => k_is)
    (case l4 => k_is)
    (case c4 => k_is)
    (case k4 => k_is)
    (case a5 => k_is)
    (case l5 => k_is)
    (case c5 => k_is)
    (case k5 => k_is)
    (case a6 => k_is)
    (case l6 => k_is)
    (case c6 => k_is)
    (case k6 => k_is)
    (case a7 => k_is)
    (case l7 => k_is)
    (case c7 => k_is)
    (case k7 => k_is)
    (case a8 => k_is)
    (case l8 => k_is)
    (case c8 => k_is)
    (case k8 => k_is)
    (case a9 => k_is)
    (case l9 => k_is)
    (case c9 => k_is)
    (case k9 => k_is)
    (case a10 => k_is)
    (case l10 => k_is)
    (case c10 => k_is)
    (case k10 => k_is)
    (case a11 => k_is)
    (case l11 => k_is)
    (case c11 => k_is)
    (case k11 => k_is)
    (case zlen => k_is)
    (case zlist => k_is)
    (case zenumerate => k_is)
    (case zint => k_is)
    (case zbool => k_is)
    (case zsum => k_is)
    (case zsorted => k_is)
    (case zmin => k_is)
    (case zmax => k_is)
    (case zrange => k_is)
    (case zisinstance => k_is)
    (case zrepr => k_is)
    (case ztuple => k_is)
    (case zdict => k_is)
    (case zabs => k_is)
    (case zstr => k_is)
