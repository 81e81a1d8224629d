import PyProof.Rows.All
import Wide.All
import OpenK.AllK
import Wide.FinOn
import KE.KDictZip
import KE.KDictItemsList
import HandS.Base
import HandS.Call
import HandS.List
import HandS.Comp
import HandS.Ends
import HandS.Iter
import HandS.Words
import HandS.WordsList
import HandS.SortInts
import HandS.IsInst
import HandS.Wide
import HandS.Style
import HandS.SetFor
import HandS.Dict
import HandS.Evl
import HandS.WordsDict
import HandS.Nested
import HandS.EndTab
import HandS.Sort
import HandS.SortOrd
import HandS.SortRule
import HandS.Conv
import HandS.Walk
import HandS.Steps
import HandS.TryOnly
import HandS.ForExc
import HandS.ExcIs
import HandS.Zip
import PyProof.StrBlock2
import HandS.Text
import HandS.ForMost
import HandS.More
import HandS.Flow
import PySem.Challenge.RW_sumplace_k49_changes_refused
set_option Elab.async false
set_option linter.all false
set_option maxRecDepth 100000
set_option maxHeartbeats 4000000
/-! list(enumerate(xs)): the tuples stay held, each a new object. -/
namespace Enl
open PySem PySem.W PySem.Calls PyProof.Rows PyProof.V PySem.Spec

theorem no_len : typeLookup (.type "enumerate") "__len__" = pure none := am_miss_of_fast (by decide +kernel)
theorem no_hint : typeLookup (.type "enumerate") "__length_hint__" = pure none := am_miss_of_fast (by decide +kernel)

structure Got (its : Array Value) (lo : Addr) (h : Heap) (as : List Addr) : Prop where
  up : as.Pairwise (· < ·)
  ab : ∀ a ∈ as, lo < a
  prs : ∀ (j : Nat) (a : Addr), as[j]? = some a → ∃ (v : Value) (t : Tok), its[j]? = some v ∧ h.get? a = some { cls := .type "tuple", data := .seq #[.int j t, v] }

/-- where the enumerate stands ahead of turn i -/
def At (h : Heap) (e it l S : Addr) (i : Nat) (its : Array Value) : Prop :=
  h.IsListIter it l i ∧ h.IsList l its ∧ ((∃ old, IsEnum h e it i old) ∨ ∃ old T f oT, IsEnumHeld h e it i old T f ∧ h.get? T = some oT ∧ T ≠ e ∧ T ≠ it ∧ T ≠ S)
theorem At.up {h h' : Heap} {e it l S : Addr} {i : Nat} {its : Array Value} (a : At h e it l S i its) (n1 : e ≠ S) (n2 : it ≠ S) (n3 : l ≠ S) (k : ∀ b o, b ≠ S → h.get? b = some o → h'.get? b = some o) : At h' e it l S i its := by
  obtain ⟨a1, a2, a3⟩ := a
  refine ⟨a1.at fun o x => k _ o n2 x, a2.at fun o x => k _ o n3 x, ?_⟩
  rcases a3 with ⟨old, a3⟩ | ⟨old, T, f, oT, a3, a4, r1, r2, r3⟩
  · exact .inl ⟨old, k _ _ n1 a3⟩
  · exact .inr ⟨old, T, f, oT, k _ _ n1 a3, k _ _ r3 a4, r1, r2, r3⟩

section
variable {prog : Program} {w : World} {A : Around} {E : Value → Shared → Prop} {s : Shared}
theorem next_item {e it l S : Addr} {i : Nat} {its : Array Value} {x : Value} {Q : Option Value → Shared → Prop} (st : At s.heap e it l S i its) (hx : its[i]? = some x) (hei : e ≠ it) (hle : l ≠ e) (hli : l ≠ it) (hS : S < s.heap.objs.size)
    (hQ : ∀ h', At h' e it l S (i + 1) its → h'.get? s.heap.objs.size = some { cls := .type "tuple", data := .seq #[.int i s.toks, x] } → h'.objs.size = s.heap.objs.size + 1 →
      (∀ b o, b ≠ e → b ≠ it → s.heap.get? b = some o → h'.get? b = some o) → Q (some (.ref s.heap.objs.size)) { s with heap := h', toks := s.toks + 1 }) : wpAny (model prog w) A (pyNext (.ref e)) Q E s := by
  obtain ⟨hit, hl, he⟩ := st
  have ec : ((i + 1 : Nat) : Int) = (i : Int) + 1 := by omega
  have nit : s.heap.objs.size ≠ it := let ⟨_, x, _⟩ := hit; Nat.ne_of_gt (Heap.lt_size x)
  rcases he with ⟨old, he⟩ | ⟨old, T, f, oT, he, hT, r1, r2, r3⟩
  · refine wpAny_pyNext_enum_item he hit hl hx hei fun h' ho hit' hT hz hk => ?_
    refine hQ h' ⟨hit', hl.at fun o y => hk l o hle hli y, .inr ⟨_, s.heap.objs.size, false, _, (by rw [ec]; exact ho), hT, Nat.ne_of_gt (Heap.lt_size he), nit, Nat.ne_of_gt hS⟩⟩ hT hz hk
  · refine wpAny_pyNext_enum_item_held he hT r1 r2 hit hl hx hei fun h' ho hit' hT' hz hk => ?_
    refine hQ h' ⟨hit', hl.at fun o y => hk l o hle hli y, .inr ⟨old, T, true, oT, (by rw [ec]; exact ho), hk _ _ r1 r2 hT, r1, r2, r3⟩⟩ hT' hz hk
theorem next_end {e it l S : Addr} {its : Array Value} {Q : Option Value → Shared → Prop} (hh : A.handled = none) (st : At s.heap e it l S its.size its)
    (hQ : ∀ h', Heap.ExtBut it s.heap h' → Q none { s with heap := h' }) : wpAny (model prog w) A (pyNext (.ref e)) Q E s := by
  obtain ⟨hit, hl, he⟩ := st
  have hx : its[its.size]? = none := Array.getElem?_eq_none (Nat.le_refl _)
  rcases he with ⟨old, he⟩ | ⟨old, T, f, oT, he, hT, r1, r2, r3⟩
  · exact wpAny_pyNext_enum_end hh he hit hl hx fun h' hk => hQ h' hk
  · exact wpAny_pyNext_enum_end_held hh he hit hl hx fun h' hk => hQ h' hk
end

section
variable {prog : Program} {w : World} {A : Around} {s : Shared} {R : Result → Shared → Prop} {its : Array Value}
theorem turns {S e it l : Addr} (hh : A.handled = none) (hSe : S ≠ e) (hSi : S ≠ it) (hSl : S ≠ l) (hei : e ≠ it) (hle : l ≠ e) (hli : l ≠ it) (hn : its.size ≤ sizeLine) (res : Value) {h₁ : Heap} {lo : Addr} (hlS : S ≤ lo) (hle' : e ≤ lo) (hli' : it ≤ lo)
    (hR : ∀ h' tk acc c as, (∀ b o, b ≠ S → b ≠ e → b ≠ it → h₁.get? b = some o → h'.get? b = some o) → h'.get? S = some { cls := .type "list", dict := none, data := .seq acc c, slots := #[] } → as.length = its.size → Got its lo h' as →
      acc.toList = as.map Value.ref → R (.ok (.ret res)) { s with heap := h', toks := tk }) :
    ∀ (k i : Nat) (h : Heap) (tk c : Nat) (acc : Array Value) (as : List Addr), its.size - i = k → i ≤ its.size → At h e it l S i its → (∀ b o, b ≠ S → b ≠ e → b ≠ it → h₁.get? b = some o → h.get? b = some o) →
      h.get? S = some { cls := .type "list", dict := none, data := .seq acc c, slots := #[] } → acc.toList = as.map Value.ref → as.length = i → Got its lo h as → lo < h.objs.size → (∀ a ∈ as, a < h.objs.size) →
      codeAny (model prog w) A (.builtin "list.extend.loop" ⟨[.ref S, .ref e, res], []⟩) R { s with heap := h, toks := tk } := by
  intro k
  induction k with
  | zero =>
    intro i h tk c acc as hk hi hst hkeep hS hacc hal hG hlo hlt
    obtain rfl : i = its.size := by omega
    refine codeAny_builtin PySem.F.entry_extend_loop ?_; rw [Around.under_plainId PySem.F.plain_extend_loop _]
    show wpAny _ A.in1 (pyNext (.ref e) >>= _) _ _ _
    refine wpAny_bind (next_end (s := { s with heap := h, toks := tk }) (A := A.in1) hh hst fun h' he => ?_)
    refine wpAny_pure (hR h' tk acc c as (fun b o h1 h2 h3 y => he b o h3 (hkeep b o h1 h2 h3 y)) (he S _ hSi hS) hal ⟨hG.up, hG.ab, fun j a hj => ?_⟩ hacc)
    obtain ⟨v, t, e1, e2⟩ := hG.prs j a hj
    exact ⟨v, t, e1, he a _ (Nat.ne_of_gt (Nat.lt_of_le_of_lt hli' (hG.ab a (List.mem_of_getElem? hj)))) e2⟩
  | succ k ih =>
    intro i h tk c acc as hk hi hst hkeep hS hacc hal hG hlo hlt
    have hi' : i < its.size := by omega
    have hsz : acc.size = i := by rw [← Array.length_toList, hacc, List.length_map, hal]
    have hSz : S < h.objs.size := Heap.lt_size hS
    refine codeAny_builtin PySem.F.entry_extend_loop ?_; rw [Around.under_plainId PySem.F.plain_extend_loop _]
    show wpAny _ A.in1 (pyNext (.ref e) >>= _) _ _ _
    refine wpAny_bind (next_item (s := { s with heap := h, toks := tk }) hst (Array.getElem?_eq_getElem hi') hei hle hli hSz fun h' hst' ht hz hkp => ?_)
    dsimp only at ht hz hkp ⊢
    have hS' := hkp S _ hSe hSi hS
    have up : ∀ b o, b ≠ S → h'.get? b = some o → (h'.update S (Obj.mapSeq (·.push (Value.ref h.objs.size)))).get? b = some o := fun b o hb y => (Heap.get?_update_other _ _ (Ne.symm hb)).trans y
    show wpAny _ A.in1 (updateSeq S (·.push (Value.ref h.objs.size)) >>= _) _ _ _
    refine wpAny_bind ?_
    refine wpAny_updateSeq hS' rfl (wpAny_pure ⟨plainId_quiet PySem.F.plain_extend_loop _, ?_⟩) (by rw [hsz]; omega) (by show (acc.push (Value.ref h.objs.size)).size ≤ sizeLine + 1; rw [Array.size_push, hsz]; omega)
    have hT := up _ _ (Nat.ne_of_gt hSz) ht
    have hbig : h.objs.size < (h'.update S (Obj.mapSeq (·.push (Value.ref h.objs.size)))).objs.size := Heap.lt_size hT
    refine ih (i + 1) _ (tk + 1) _ (acc.push (Value.ref h.objs.size)) (as ++ [h.objs.size]) (by omega) hi' (hst'.up (Ne.symm hSe) (Ne.symm hSi) (Ne.symm hSl) up) (fun b o h1 h2 h3 y => up b o h1 (hkp b o h2 h3 (hkeep b o h1 h2 h3 y))) (Heap.get?_update_self _ hS' rfl)
      (by rw [Array.toList_push, hacc, List.map_append]; rfl) (by rw [List.length_append, hal]; rfl) ⟨?_, ?_, ?_⟩ (Nat.lt_trans hlo hbig) ?_
    · refine List.pairwise_append.mpr ⟨hG.up, List.pairwise_singleton _ _, fun a ha b hb => ?_⟩
      rw [List.mem_singleton.mp hb]
      exact hlt a ha
    · intro a ha
      rcases List.mem_append.mp ha with ha | ha
      · exact hG.ab a ha
      · rw [List.mem_singleton.mp ha]
        exact hlo
    · intro j a hj
      by_cases hjl : j < as.length
      · rw [List.getElem?_append_left hjl] at hj
        obtain ⟨v, t, e1, e2⟩ := hG.prs j a hj
        have ga := hG.ab a (List.mem_of_getElem? hj)
        exact ⟨v, t, e1, up a _ (Nat.ne_of_gt (Nat.lt_of_le_of_lt hlS ga)) (hkp a _ (Nat.ne_of_gt (Nat.lt_of_le_of_lt hle' ga)) (Nat.ne_of_gt (Nat.lt_of_le_of_lt hli' ga)) e2)⟩
      · have hjb : j < (as ++ [h.objs.size]).length := (List.getElem?_eq_some_iff.mp hj).1
        rw [List.length_append, List.length_singleton] at hjb
        obtain rfl : j = i := by omega
        rw [List.getElem?_append_right (by omega), show j - as.length = 0 from by omega] at hj
        obtain rfl : h.objs.size = a := Option.some.inj hj
        exact ⟨its[j], tk, Array.getElem?_eq_getElem hi', hT⟩
    · intro a ha
      rcases List.mem_append.mp ha with ha | ha
      · exact Nat.lt_trans (hlt a ha) hbig
      · rw [List.mem_singleton.mp ha]
        exact hbig
end
section
variable {prog : Program} {w : World} {A : Around} {E : Value → Shared → Prop} {s : Shared} {its : Array Value} {e it l : Addr}
theorem hint_none (he : s.TypeIs (.ref e) "enumerate") {Q : Bool → Shared → Prop} (h : Q true s) : wpAny (model prog w) A (Builtin.List.listLengthHint (.ref e)) Q E s := by
  unfold Builtin.List.listLengthHint
  refine wpAny_bind (wpAny_specialOf he no_len ?_)
  show wpAny _ A (specialOf (Value.ref e) (Str.ofString "__length_hint__") >>= _) _ _ _
  refine wpAny_bind (wpAny_specialOf he no_hint ?_)
  exact wpAny_pure h
/-- list(e), e an enumerate over a list that stands at its begin -/
theorem call_list {Q : Value → Shared → Prop} (hh : A.handled = none) (he : IsEnum s.heap e it 0 .none) (hit : s.heap.IsListIter it l 0) (hl : s.heap.IsList l its) (hei : e ≠ it) (hle : l ≠ e) (hli : l ≠ it) (hn : its.size ≤ sizeLine)
    (hQ : ∀ h' tk acc c as, (∀ b o, b ≠ e → b ≠ it → s.heap.get? b = some o → h'.get? b = some o) → h'.get? s.heap.objs.size = some { cls := .type "list", dict := none, data := .seq acc c, slots := #[] } → as.length = its.size → Got its s.heap.objs.size h' as →
      acc.toList = as.map Value.ref → Q (.ref s.heap.objs.size) { s with heap := h', toks := tk }) :
    wpAny (model prog w) A (call (.type "list") [.ref e]) Q E s := by
  refine callType_codes (Q₁ := fun obj s₁ => obj = .ref s.heap.objs.size ∧ s₁ = { s with heap := s.heap.push { cls := .type "list", data := .seq #[] } }) PySem.F.called_list (PySem.F.typeCall_list_1 _) PySem.F.entry_list_init (code_list_new _ ⟨rfl, rfl⟩) fun obj s₁ h₁ => ?_
  obtain ⟨rfl, rfl⟩ := h₁
  have hS : (s.heap.push { cls := .type "list", data := .seq #[] }).get? s.heap.objs.size = some { cls := .type "list", data := .seq #[] } := Heap.get?_push_size _ rfl
  have le : e < s.heap.objs.size := Heap.lt_size he
  have li : it < s.heap.objs.size := let ⟨_, x, _⟩ := hit; Heap.lt_size x
  have ll : l < s.heap.objs.size := let ⟨_, x, _⟩ := hl; Heap.lt_size x
  generalize hg : s.heap.push { cls := .type "list", data := .seq #[] } = h0 at hS
  have k0 : ∀ b o, s.heap.get? b = some o → h0.get? b = some o := fun b o x => by rw [← hg]; exact Heap.get?_push_of_some _ x
  have z0 : h0.objs.size = s.heap.objs.size + 1 := by rw [← hg, Heap.size_push]
  generalize hp : s.heap.objs.size = S at hS le li ll z0 hQ
  have a0 : At h0 e it l S 0 its := ⟨hit.at fun o x => k0 _ o x, hl.at fun o x => k0 _ o x, .inl ⟨.none, k0 _ _ he⟩⟩
  refine ⟨⟨_, hS, rfl⟩, PySem.F.args_list_init_2 _ _, ?_⟩
  show wpAny _ _ (do let old ← Builtin.List.listItems (.ref S); Builtin.List.listUpdate (.ref S) (fun _ => #[]); letGo old.toList.reverse; Builtin.List.listExtendWith (.ref S) (.ref e) .none) _ _ _
  refine wpAny_bind ?_
  unfold Builtin.List.listItems
  refine wpAny_bind (wpAny_seqItems hS rfl (wpAny_pure ?_))
  show wpAny _ _ (updateSeq S (fun _ => #[]) >>= fun _ => letGo (#[] : Array Value).toList.reverse >>= fun _ => Builtin.List.listExtendWith (.ref S) (.ref e) .none) _ _ _
  refine wpAny_bind (wpAny_updateSeq hS rfl ?_)
  have hS2 := Heap.get?_update_self (Obj.mapSeq (fun _ => (#[] : Array Value))) hS rfl
  have k2 : ∀ b o, b ≠ S → h0.get? b = some o → (h0.update S (Obj.mapSeq (fun _ => (#[] : Array Value)))).get? b = some o := fun b o hb x => (Heap.get?_update_other _ _ (Ne.symm hb)).trans x
  have a2 := a0.up (Nat.ne_of_lt le) (Nat.ne_of_lt li) (Nat.ne_of_lt ll) k2
  generalize h0.update S (Obj.mapSeq (fun _ => (#[] : Array Value))) = h2 at hS2 k2 a2
  refine wpAny_bind (wpAny_letGo ?_)
  have T2 : Shared.TypeIs { s with heap := h2 } (.ref e) "enumerate" := by
    rcases a2.2.2 with ⟨old, x⟩ | ⟨old, T, f, oT, x, _⟩
    · exact ⟨_, x, rfl⟩
    · exact ⟨_, x, rfl⟩
  unfold Builtin.List.listExtendWith
  refine wpAny_bind (wpAny_typeOf (T := "enumerate") T2 ?_)
  have g1 : Builtin.List.listSameRef (.ref S) (.ref e) = false := by simp [Builtin.List.listSameRef, Nat.ne_of_gt le]
  have g2 : (Value.type "enumerate" == Value.type "list") = false := by decide
  have g3 : (Value.type "enumerate" == Value.type "tuple") = false := by decide
  simp only [g1, g2, g3, Bool.or_false, Bool.false_eq_true, if_false]
  have e2 : ∃ old, IsEnum h2 e it 0 old := ⟨.none, k2 _ _ (Nat.ne_of_lt le) (k0 _ _ he)⟩
  obtain ⟨old2, e2⟩ := e2
  refine wpAny_bind (wpAny_pyIter_enum (s := { s with heap := h2 }) e2 ?_)
  refine wpAny_bind (wpAny_holding (hint_none T2 ?_))
  have key : ∀ (h : Heap) (tk c : Nat), (∀ b o, b ≠ S → h2.get? b = some o → h.get? b = some o) → h.get? S = some { cls := .type "list", data := .seq #[] c } →
      codeAny (model prog w) A.in1 (.builtin "list.extend.loop" ⟨[.ref S, .ref e, .none], []⟩) (wants (fun r s2 => r = Value.none ∧ Q (Value.ref S) s2) E) { s with heap := h, toks := tk } := by
    intro h tk c kh hSh
    refine turns (A := A.in1) (s := s) (h₁ := s.heap) (lo := S) hh (Nat.ne_of_gt le) (Nat.ne_of_gt li) (Nat.ne_of_gt ll) hei hle hli hn .none (Nat.le_refl _) (Nat.le_of_lt le) (Nat.le_of_lt li)
      (fun h' tk' acc c' as k3 k4 k5 k6 k7 => ⟨rfl, ?_⟩) its.size 0 h tk c #[] [] (Nat.sub_zero _) (Nat.zero_le _) (a2.up (Nat.ne_of_lt le) (Nat.ne_of_lt li) (Nat.ne_of_lt ll) kh)
      (fun b o h1 _ _ x => kh b o h1 (k2 b o h1 (k0 b o x))) hSh rfl rfl ⟨List.Pairwise.nil, (fun _ ha => nomatch ha), (fun j a hj => by simp at hj)⟩ ?_ (fun _ ha => nomatch ha)
    · exact hQ h' tk' acc c' as (fun b o h1 h2 x => k3 b o (by rw [← hp]; exact Nat.ne_of_lt (Heap.lt_size x)) h1 h2 x) k4 k5 k6 k7
    · exact Heap.lt_size hSh
  refine wpAny_ite_split (fun _ => ?_) (fun _ => wpAny_pure ⟨plainId_quiet PySem.F.plain_extend_loop _, key h2 _ _ (fun b o _ x => x) hS2⟩)
  refine wpAny_bind (wpAny_rule ?_)
  refine wpAny_bind ?_
  show wpAny _ _ (updateSeq S (·.push .none) >>= fun _ => updateSeq S (·.pop)) _ _ _
  refine wpAny_bind (wpAny_updateSeq hS2 rfl ?_)
  have hS3 := Heap.get?_update_self (Obj.mapSeq (·.push Value.none)) hS2 rfl
  refine wpAny_updateSeq (hz := by seq_fits) hS3 rfl ?_
  have hS4 := Heap.get?_update_self (Obj.mapSeq (·.pop)) hS3 rfl
  refine wpAny_pure ⟨plainId_quiet PySem.F.plain_extend_loop _, key _ _ _ (fun b o hb x => ?_) hS4⟩
  exact (Heap.get?_update_other _ _ (Ne.symm hb)).trans ((Heap.get?_update_other _ _ (Ne.symm hb)).trans x)
end
end Enl

namespace Enl
open PySem PySem.W PyProof.Rows L2
section
variable {X : Cx} {pins : List (Addr × Obj)} {σ : L2.St} {H H' : Hp} {s : Shared} {h' : Heap} {tk : Nat}
/-- many new objects tracked at once -/
theorem lay_many (I : Inv X pins σ H s) (hk : ∀ b o, s.heap.get? b = some o → h'.get? b = some o) (up : ∀ b u, H b = some u → H' b = some u) (off : ∀ b, b < s.heap.objs.size → H b = none → H' b = none)
    (new : ∀ b u, H' b = some u → H b = some u ∨ ObjOk X.prog X.w H' h' b u) : Inv X pins σ H' { s with heap := h', toks := tk } := by
  refine I.call' (ch := []) rfl ⟨fun b o q _ _ _ => hk b o q, fun b o q _ _ _ => ⟨o.slots, hk b o q⟩, fun b o q n _ => off b (Heap.lt_size q) n, fun b o q _ => ⟨o, hk b o q⟩, fun b xs q => up b _ q, fun b o u q => up b _ q, fun b ps q => ⟨#[], by rw [up b _ q]; simp⟩⟩ (fun b u q => ?_) I.bare (fun b z => by simp at z)
  rcases new b u q with q1 | q1
  · exact (I.hok b u q1).stay (fun d v _ y => hk d v y) (fun d y => up d _ y) (fun d xs y => up d _ y)
  · exact q1
end
/-- the pairs tracked at their addresses, numbered from n -/
def putE : Hp → Nat → List Addr → List V → Hp
  | H, n, a :: as, x :: xs => putE (upd H a (.tup [.int (n : Int), x])) (n + 1) as xs
  | H, _, _, _ => H
theorem putE_off {b : Addr} : ∀ (as : List Addr) (xs : List V) (n : Nat) (H : Hp), b ∉ as → putE H n as xs b = H b
  | [], _, _, _, _ => rfl
  | _ :: _, [], _, _, _ => rfl
  | a :: as, x :: xs, n, H, h => by
    show putE (upd H a (.tup [.int (n : Int), x])) (n + 1) as xs b = H b
    rw [putE_off as xs (n + 1) _ (fun z => h (List.mem_cons_of_mem _ z)), upd_ne (fun z => h (by rw [z]; exact List.mem_cons_self))]
theorem putE_at : ∀ (as : List Addr) (xs : List V) (n : Nat) (H : Hp), as.Nodup → ∀ (j : Nat) (a : Addr) (x : V), as[j]? = some a → xs[j]? = some x → putE H n as xs a = some (.tup [.int ((n + j : Nat) : Int), x])
  | [], _, _, _, _, j, a, x, h, _ => by simp at h
  | _ :: _, [], _, _, _, j, a, x, _, h => by simp at h
  | b :: as, y :: xs, n, H, nd, 0, a, x, h1, h2 => by
    obtain rfl : b = a := Option.some.inj h1
    obtain rfl : y = x := Option.some.inj h2
    show putE (upd H b (.tup [.int (n : Int), y])) (n + 1) as xs b = _
    rw [putE_off as xs (n + 1) _ (List.nodup_cons.mp nd).1, upd_same]
    rfl
  | b :: as, y :: xs, n, H, nd, j + 1, a, x, h1, h2 => by
    show putE (upd H b (.tup [.int (n : Int), y])) (n + 1) as xs a = _
    rw [putE_at as xs (n + 1) _ (List.nodup_cons.mp nd).2 j a x h1 h2]
    rw [show n + 1 + j = n + (j + 1) from by omega]
theorem vals_at : ∀ {xs : List V} {us : List Value}, Vals xs us → ∀ {i : Nat} {u : Value}, us[i]? = some u → ∃ x, xs[i]? = some x ∧ RelV x u
  | _, _, .nil, i, u, h => by simp at h
  | _, _, .cons r t, 0, u, h => by
    obtain rfl := Option.some.inj h
    exact ⟨_, rfl, r⟩
  | _, _, .cons r t, i + 1, u, h => vals_at t (i := i) (u := u) h
theorem refs_vals : ∀ as : List Addr, Vals (as.map V.ref) (as.map Value.ref)
  | [] => .nil
  | _ :: as => .cons rfl (refs_vals as)
/-- list(enumerate(xs)): a new list of new pairs -/
def rEnumL (K : PySem.W.Frag) : V → Hp → VK → Prop := fun x H Q => ∃ (a : Addr) (xs : List V), x = .ref a ∧ SqL K H a xs ∧ xs.length + 1 ≤ sizeLine ∧
  ∀ (H' : Hp) (p : Addr) (ts : List Addr), Same H H' → H p = none → (∀ t ∈ ts, H t = none) → H' p = some (.lst (ts.map V.ref)) → ts.length = xs.length →
    (∀ (j : Nat) (t : Addr) (y : V), ts[j]? = some t → xs[j]? = some y → H' t = some (.tup [.int (j : Int), y])) → Q (.ref p) H'
def tEnumL (K : PySem.W.Frag) (te : TE) : TE := fun σ H Q => te σ H fun x H1 => rEnumL K x H1 Q
section
variable {X : Cx} {e : Expr} {te : TE} {p p2 pos pos2 : Pos}
theorem pe_listEnum (hm : X.mg "list" = none) (hm2 : X.mg "enumerate" = none) (he : PE X e te) (hc : X.calm = true := by rfl) (hg : Gl X "list" := by rfl) (hg2 : Gl X "enumerate" := by rfl)
    (hs2 : starEach [e] X.env = [(false, eval e X.env)] := by rfl)
    (hs : starEach [.Call (.Name "enumerate" p2) [e] [] pos2] X.env = (false, eval (.Call (.Name "enumerate" p2) [e] [] pos2) X.env) :: starEach [] X.env := by rfl) :
    PE X (.Call (.Name "list" p) [.Call (.Name "enumerate" p2) [e] [] pos2] [] pos) (tEnumL X.K te) := by
  refine ⟨fun pins s σ H Q I hq => ?_⟩
  refine wpAny_Call_Name_kw (ld_blt I hg hm (by decide +kernel : bootBuiltins "list" = some (.type "list")) ?_)
  refine PyProof.Rows.callWith_type1 ?_ hs rfl
  rw [hs]
  show wpAny _ _ (spliced ((false, eval (.Call (.Name "enumerate" p2) [e] [] pos2) X.env) :: backTo pos (starEach [] X.env))) _ _ s
  refine Calls.spliced_cons ?_
  refine Call_ (ld_blt I hg2 hm2 boot_enumerate (PyProof.Rows.callWith_type1 ?_ hs2 rfl))
  rw [hs2]
  show wpAny _ _ (spliced ((false, eval e X.env) :: backTo pos2 (starEach [] X.env))) _ _ s
  refine Calls.spliced_cons (thn (he.run pins s σ H _ I hq) fun v s1 ⟨x, H1, I1, r1, a, xs, ex, hq1, hz1, q⟩ => ?_)
  subst ex
  obtain rfl : v = Value.ref a := r1
  refine Calls.spliced_nil ?_
  obtain ⟨its, rv, pl, hz⟩ := I1.list hq1
  refine call_enumerate_list pl.isList fun h' he' hit hsz hk => ?_
  refine Calls.spliced_nil ?_
  have la : a < s1.heap.objs.size := let ⟨_, z, _⟩ := pl.isList; Heap.lt_size z
  have hlen : its.length = xs.length := rv.length.symm
  refine Enl.call_list (s := { s1 with heap := h' }) (I1.ok.hd hc) he' hit (pl.isList.at fun o z => hk _ o z) (Nat.succ_ne_self _) (Nat.ne_of_lt (Nat.lt_succ_of_lt la)) (Nat.ne_of_lt la) (by rw [List.size_toArray, hlen]; exact hz) fun h2 tk acc c as k1 k2 k3 k4 k5 => ?_
  dsimp only at k1 k2 k3 k4 k5 ⊢
  have keep : ∀ b o, s1.heap.get? b = some o → h2.get? b = some o := fun b o z => k1 b o (Nat.ne_of_lt (Nat.lt_succ_of_lt (Heap.lt_size z))) (Nat.ne_of_lt (Heap.lt_size z)) (hk b o z)
  have big : s1.heap.objs.size ≤ h'.objs.size := by rw [hsz]; omega
  have nd : as.Nodup := List.Pairwise.imp (fun {a b} (z : a < b) => Nat.ne_of_lt z) k4.up
  have nS : h'.objs.size ∉ as := fun z => Nat.lt_irrefl _ (k4.ab _ z)
  have fr : ∀ b, s1.heap.objs.size ≤ b → H1 b = none := fun b z => I1.hok.fresh z
  have frA : ∀ t ∈ as, H1 t = none := fun t z => fr t (Nat.le_trans big (Nat.le_of_lt (k4.ab t z)))
  have lenA : as.length = xs.length := by rw [k3, List.size_toArray, hlen]
  generalize hH2 : putE (upd H1 h'.objs.size (.lst (as.map V.ref))) 0 as xs = H2
  have eS : H2 h'.objs.size = some (.lst (as.map V.ref)) := by rw [← hH2, putE_off as xs 0 _ nS, upd_same]
  have eT : ∀ (j : Nat) (t : Addr) (y : V), as[j]? = some t → xs[j]? = some y → H2 t = some (.tup [.int (j : Int), y]) := fun j t y z1 z2 => by
    have z3 := putE_at as xs 0 (upd H1 h'.objs.size (.lst (as.map V.ref))) nd j t y z1 z2
    rw [Nat.zero_add] at z3
    rw [← hH2]
    exact z3
  have eO : ∀ b, b ≠ h'.objs.size → b ∉ as → H2 b = H1 b := fun b z1 z2 => by rw [← hH2, putE_off as xs 0 _ z2, upd_ne z1]
  have up : ∀ b u, H1 b = some u → H2 b = some u := fun b u z => by
    rw [eO b (fun y => by rw [y, fr _ big] at z; cases z) (fun y => by rw [frA b y] at z; cases z)]
    exact z
  have J : Inv X pins σ H2 { s1 with heap := h2, toks := tk } := by
    refine lay_many I1 keep up (fun b z n => ?_) fun b u z => ?_
    · rw [eO b (fun y => absurd z (Nat.not_lt.mpr (by rw [y]; exact big))) (fun y => absurd z (Nat.not_lt.mpr (Nat.le_trans big (Nat.le_of_lt (k4.ab b y)))))]
      exact n
    · by_cases hb : b ∈ as
      · obtain ⟨j, hj⟩ := List.mem_iff_getElem?.mp hb
        obtain ⟨v, t, w1, w2⟩ := k4.prs j b hj
        rw [List.getElem?_toArray] at w1
        obtain ⟨x, w3, w4⟩ := vals_at rv w1
        have w5 := eT j b x hj w3
        rw [w5] at z
        cases z
        exact .inr ⟨by show 2 ≤ sizeLine; decide, [.int j t, v], .cons ⟨t, rfl⟩ (.cons w4 .nil), ⟨_, w2, rfl, _, rfl⟩⟩
      · by_cases hb2 : b = h'.objs.size
        · subst hb2
          rw [eS] at z
          cases z
          refine .inr ⟨by rw [List.length_map, lenA]; omega, acc.toList, c, by rw [k5]; exact refs_vals as, ?_⟩
          rw [Array.toArray_toList]
          exact k2
        · rw [eO b hb2 hb] at z
          exact .inl z
  exact ⟨.ref _, H2, J, rfl, q H2 _ as up (fr _ big) frA eS lenA eT⟩
end
end Enl

namespace Sp
open PySem L2
/-! ### a def of the text that keeps its promise, by its name -/
structure Cal (P : Program) (w : World) (K : PySem.W.Frag) (mg : Str → Option Value) (base : Heap) (k : Nat) (x : Str) (ps : List Str) (sp : Sp) : Prop where
  ex : ∃ (f : Addr) (fd : FuncData), FnOk P w K mg base CX0 k f fd ps sp ∧ mg x = some (.ref f) ∧ PySem.W.keepIn K (.ref f) = true ∧ Binds K fd ps []
theorem pe_own {X : Cx} {k : Nat} {x : Str} {ps : List Str} {sp : Sp} {e : Expr} {es : List Expr} {t : TA} {p pos : Pos} (c : Cal X.prog X.w X.K X.mg X.base k x ps sp) (hr : Room k X.A) (hg : Gl X x) (ha : PA X (e :: es) t)
    (hdb : (x == ("__debug__" : Str)) = false := by decide) (he : starEach (e :: es) X.env = (false, eval e X.env) :: starEach es X.env := by rfl) (hpl : (backTo pos (starEach es X.env)).any (·.1) = false := by rfl) :
    PE X (.Call (.Name x p) (e :: es) [] pos) (tCall sp [] E0 t) := by
  obtain ⟨f, fd, F, m, kp, b⟩ := c.ex
  exact pe_call F hr hg m kp b .nil pass0 ha hdb he hpl
theorem Cal.imp {P : Program} {w : World} {K : PySem.W.Frag} {mg : Str → Option Value} {base : Heap} {k : Nat} {x : Str} {ps : List Str} {sp sp' : L2.Sp} (c : Cal P w K mg base k x ps sp) (h : ∀ vs H Q E, sp' vs H Q E → sp vs H Q E) : Cal P w K mg base k x ps sp' := by
  obtain ⟨f, fd, F, m, kp, b⟩ := c.ex
  exact ⟨f, fd, F.imp h, m, kp, b⟩
/-- the built-ins' names are not the module's -/
structure Bt (mg : Str → Option Value) : Prop where
  len_ : mg "len" = none
  list_ : mg "list" = none
  enumerate_ : mg "enumerate" = none
  int_ : mg "int" = none
  bool_ : mg "bool" = none
  sum_ : mg "sum" = none
  sorted_ : mg "sorted" = none
  min_ : mg "min" = none
  max_ : mg "max" = none
  range_ : mg "range" = none
  isinstance_ : mg "isinstance" = none
  repr_ : mg "repr" = none
  tuple_ : mg "tuple" = none
  dict_ : mg "dict" = none
  abs_ : mg "abs" = none
  str_ : mg "str" = none
/-! ### heaps: all stays but the hand at a -/
/-- the hand: two whole numbers -/
def HandAt (H : Hp) (a : Addr) : Prop := ∃ x y : Int, H a = some (.lst [.int x, .int y]) ∧ 0 ≤ x ∧ 0 ≤ y ∧ y < 2147483587
structure Ext (a : Addr) (H H' : Hp) : Prop where
  keep : ∀ b o, H b = some o → b ≠ a → H' b = some o
  hand : HandAt H a → HandAt H' a
theorem Ext.refl {a : Addr} {H : Hp} : Ext a H H := ⟨fun _ _ h _ => h, fun h => h⟩
theorem Ext.trans {a : Addr} {H H1 H2 : Hp} (e : Ext a H H1) (f : Ext a H1 H2) : Ext a H H2 := ⟨fun b o h n => f.keep b o (e.keep b o h n) n, fun h => f.hand (e.hand h)⟩
theorem HandAt.same {a : Addr} {H H' : Hp} (s : Same H H') (h : HandAt H a) : HandAt H' a := by
  obtain ⟨x, y, e, r⟩ := h
  exact ⟨x, y, s _ _ e, r⟩
theorem Ext.same {a : Addr} {H H' : Hp} (s : Same H H') : Ext a H H' := ⟨fun b o h _ => s b o h, fun h => h.same s⟩
theorem same_new {H : Hp} {p : Addr} {o : HO} (h : H p = none) : Same H (upd H p o) := fun b x e => by
  rw [upd_ne (ne_of_none e h)]
  exact e
theorem Ext.new {a : Addr} {H : Hp} {p : Addr} {o : HO} (h : H p = none) : Ext a H (upd H p o) := .same (same_new h)
theorem HandAt.ne {a p : Addr} {H : Hp} (h : HandAt H a) (n : H p = none) : p ≠ a := by
  obtain ⟨x, y, e, r⟩ := h
  exact fun z => by rw [z, e] at n; cases n
theorem Ext.made {a : Addr} {H H' : Hp} (e : Ext a H H') (n : H a = none) : Same H H' := fun b o h => e.keep b o h (fun z => by rw [z, n] at h; cases h)
theorem Ext.free {a b : Addr} {H H' : Hp} (e : Ext a H H') (n : b ≠ a) (h : H' b = none) : H b = none := by
  cases q : H b with
  | none => rfl
  | some o => rw [e.keep b o q n] at h; cases h
/-- a list of whole numbers that stands still -/
def Nums (H : Hp) (a p : Addr) (ns : List Int) : Prop := H p = some (.lst (ns.map V.int)) ∧ p ≠ a
theorem Nums.up {H H' : Hp} {a p : Addr} {ns : List Int} (n : Nums H a p ns) (e : Ext a H H') : Nums H' a p ns := ⟨e.keep _ _ n.1 n.2, n.2⟩
theorem Nums.sq {K : PySem.W.Frag} {H : Hp} {a p : Addr} {ns : List Int} (n : Nums H a p ns) : SqL K H p (ns.map V.int) := .inl (.inl n.1)
theorem seqExt {K : PySem.W.Frag} {H H' : Hp} {a p : Addr} {xs : List V} (e : Ext a H H') (n : p ≠ a) (h : SqL K H p xs) : SqL K H' p xs := by
  rcases h with (h | ⟨o, h⟩) | h
  · exact .inl (.inl (e.keep _ _ h n))
  · exact .inl (.inr ⟨o, e.keep _ _ h n⟩)
  · exact .inr h
/-! ### numbers -/
theorem wide30 {n : Int} (h0 : 0 < n) (h : n < 2 ^ 62) : CDivW (0 : Int) n := wide_div (b := 62) h0 (by omega) (by decide) (by decide)
theorem divW {i n : Int} (h0 : 0 < n) (h : n < 2 ^ 62) : CDivW i n := wide_div (b := 62) h0 (by omega) (by decide) (by decide)
theorem mulW {i j : Int} (h1 : -(2 ^ 200) < i) (h2 : i < 2 ^ 200) (h3 : -(2 ^ 200) < j) (h4 : j < 2 ^ 200) : CMulW i j := wide_mul (a := 200) (b := 200) (by omega) (by omega) (by decide) (by decide) (by decide)
theorem small {n : Nat} (h : n ≤ 100000) : n ≤ sizeLine := Nat.le_trans h (by decide)
theorem smallLt {n : Nat} (h : n ≤ 100000) : n < sizeLine := Nat.lt_of_le_of_lt h (by decide)
theorem at0 {α : Type} {x : α} {r : List α} : atI (x :: r) 0 = some x := atI_nat (j := 0) rfl
theorem at1 {α : Type} {x y : α} {r : List α} : atI (x :: y :: r) 1 = some y := atI_nat (j := 1) rfl
/-! ### the promises of the law's own small defs -/
def spHand : L2.Sp := fun vs H Q _ => ∃ c k : Int, vs = [.int c, .int k] ∧ 0 ≤ k ∧ k ≤ 1000 ∧ ∀ p x y, H p = none → 0 ≤ x → 0 ≤ y → y < 2147483587 → Q (.ref p) (upd H p (.lst [.int x, .int y]))
def spDraw : L2.Sp := fun vs H Q _ => ∃ (a : Addr) (n : Int), vs = [.ref a, .int n] ∧ HandAt H a ∧ 0 < n ∧ n < 2 ^ 62 ∧ ∀ r H', 0 ≤ r → r < n → HandAt H' a → (∀ b, b ≠ a → H' b = H b) → Q (.int r) H'
theorem drawn {a : Addr} {H H' : Hp} (h : HandAt H' a) (k : ∀ b, b ≠ a → H' b = H b) : Ext a H H' := ⟨fun b o e n => by rw [k b n]; exact e, fun _ => h⟩
end Sp

namespace Sp
open PySem L2
/-! ### lists of whole numbers as data -/
abbrev di (ns : List Int) : PyData := .list (ns.map PyData.int)
theorem dpAll_ints {K : PySem.W.Frag} {H : Hp} : ∀ ns : List Int, DpAll K H (ns.map V.int) (ns.map PyData.int)
  | [] => .nil
  | n :: ns => .cons (.int n) (dpAll_ints ns)
theorem dp_ints {K : PySem.W.Frag} {H : Hp} {p : Addr} {ns : List Int} (h : SqL K H p (ns.map V.int)) : Dp K H (.ref p) (di ns) := .lst h (dpAll_ints ns)
theorem lay_ints : ∀ ns : List Int, PyData.canLayAll0 (ns.map PyData.int) = true
  | [] => by rw [List.map_nil, PyData.canLayAll0]
  | n :: ns => by rw [List.map_cons, PyData.canLayAll0, lay_ints ns, PyData.canLay0]; rfl
theorem dep_ints : ∀ ns : List Int, PyData.depthAll (ns.map PyData.int) = 0
  | [] => by rw [List.map_nil, PyData.depthAll]
  | n :: ns => by rw [List.map_cons, PyData.depthAll, dep_ints ns, PyData.depth]; rfl
theorem shaped_ints (ns : List Int) : SeqAt.shaped (di ns) = true := by
  unfold SeqAt.shaped
  rw [PyData.canLay0, lay_ints, PyData.depth, dep_ints]
  rfl
theorem eqvAll_ints : ∀ ns ms : List Int, PyData.eqvAll (ns.map PyData.int) (ms.map PyData.int) = decide (ns = ms)
  | [], [] => by rw [List.map_nil, PyData.eqvAll]; rfl
  | [], _ :: _ => by rw [List.map_nil, List.map_cons, PyData.eqvAll]; rfl
  | _ :: _, [] => by rw [List.map_nil, List.map_cons, PyData.eqvAll]; rfl
  | n :: ns, m :: ms => by
    rw [List.map_cons, List.map_cons, PyData.eqvAll, eqvAll_ints ns ms, PyData.eqv]
    by_cases h : n = m
    · by_cases h2 : ns = ms
      · subst h; subst h2; simp
      · simp [h, h2]
    · simp [h]
theorem eqv_ints (ns ms : List Int) : PyData.eqv (di ns) (di ms) = decide (ns = ms) := by rw [PyData.eqv, eqvAll_ints]
theorem eqvAll_same {xs : List PyData} (h : ∀ x ∈ xs, PyData.eqv x x = true) : PyData.eqvAll xs xs = true := by
  induction xs with
  | nil => rw [PyData.eqvAll]
  | cons x xs ih => rw [PyData.eqvAll, h x List.mem_cons_self, ih fun y hy => h y (List.mem_cons_of_mem _ hy)]; rfl
theorem SqL.new {K : PySem.W.Frag} {H : Hp} {p : Addr} {xs : List V} (h : H p = some (.lst xs)) : SqL K H p xs := .inl (.inl h)
theorem rep_one {x : V} (k : Nat) : (List.replicate k [x]).flatten = List.replicate k x := by
  induction k with
  | zero => rfl
  | succ k ih => rw [List.replicate_succ, List.flatten_cons, ih]; rfl
theorem rep_int (x : Int) (k : Nat) : List.replicate k (V.int x) = (List.replicate k x).map V.int := by rw [List.map_replicate]
theorem cut_len (xs : List V) (lo hi : Option Int) : (cutV xs lo hi).length ≤ xs.length := cutV_length xs lo hi
theorem cut_map {ns : List Int} (lo hi : Option Int) : ∃ ms : List Int, cutV (ns.map V.int) lo hi = ms.map V.int ∧ ms.length ≤ ns.length ∧ ∀ m ∈ ms, m ∈ ns := by
  refine ⟨(ns.drop (HT.sIx ns.length 0 lo)).take (HT.sIx ns.length ns.length hi - HT.sIx ns.length 0 lo), ?_, ?_, ?_⟩
  · unfold cutV
    rw [List.length_map, List.map_take, List.map_drop]
  · exact Nat.le_trans (List.length_take_le' _ _) (by rw [List.length_drop]; omega)
  · intro m hm
    exact List.mem_of_mem_drop (List.mem_of_mem_take hm)
theorem int_at {ns : List Int} {i : Nat} {x : V} (h : (ns.map V.int)[i]? = some x) : ∃ n, ns[i]? = some n ∧ x = .int n := by
  rw [List.getElem?_map] at h
  cases e : ns[i]? with
  | none => rw [e] at h; cases h
  | some n => rw [e] at h; exact ⟨n, rfl, (Option.some.inj h).symm⟩
theorem ref_at {ts : List Addr} {i : Nat} {x : V} (h : (ts.map V.ref)[i]? = some x) : ∃ t, ts[i]? = some t ∧ x = .ref t := by
  rw [List.getElem?_map] at h
  cases e : ts[i]? with
  | none => rw [e] at h; cases h
  | some n => rw [e] at h; exact ⟨n, rfl, (Option.some.inj h).symm⟩
theorem int_mem {ns : List Int} {i : Nat} {n : Int} (h : ns[i]? = some n) : n ∈ ns := List.mem_of_getElem? h
/-- the item at a place of a written list, the place drawn -/
theorem at_draw {α : Type} {xs : List α} {r : Int} (h0 : 0 ≤ r) (h1 : r < xs.length) : ∃ x, atI xs r = some x ∧ x ∈ xs := by
  obtain ⟨j, rfl⟩ : ∃ j : Nat, r = (j : Int) := ⟨r.toNat, by omega⟩
  have hj : j < xs.length := by omega
  exact ⟨xs[j], atI_nat (List.getElem?_eq_getElem hj), List.getElem_mem hj⟩
/-! ### the promises -/
def spCells (K : PySem.W.Frag) : L2.Sp := fun vs H Q _ => ∃ (s : Addr) (m : Nat) (ns : List Int), vs = [.ref s, .int m] ∧ SqL K H s (ns.map V.int) ∧ ns.length ≤ 63 ∧ m ≤ 63 ∧
  ∀ (H' : Hp) (p : Addr) (ts : List Addr) (cs : List Int), Same H H' → H p = none → H' p = some (.lst (ts.map V.ref)) → ts.length = cs.length → cs.length ≤ 64 →
    (∀ (j : Nat) (t : Addr) (c : Int), ts[j]? = some t → cs[j]? = some c → H' t = some (.tup [.int (j : Int), .int c])) → Q (.ref p) H'
def spGreat (K : PySem.W.Frag) : L2.Sp := fun vs H Q _ => ∃ (s : Addr) (ns : List Int), vs = [.ref s] ∧ SqL K H s (ns.map V.int) ∧ ∀ b, Q (.bl b) H
/-- sorted, none beyond 10 ** 15 -/
def Fine (ns : List Int) : Prop := ns.Pairwise (· ≤ ·) ∧ ∀ n ∈ ns, -1000000000000000 ≤ n ∧ n ≤ 1000000000000000
def spRow : L2.Sp := fun vs H Q _ => ∃ (a : Addr) (lo hi : Nat), vs = [.ref a, .int (lo : Int), .int (hi : Int)] ∧ HandAt H a ∧ lo ≤ hi ∧ hi ≤ 300 ∧
  ∀ (p : Addr) (ns : List Int) (H' : Hp), Ext a H H' → H p = none → H' p = some (.lst (ns.map V.int)) → lo ≤ ns.length → ns.length ≤ hi → Fine ns → Q (.ref p) H'
def spWhole : L2.Sp := fun vs H Q _ => ∃ x y : Int, vs = [.int x, .int y] ∧ Q (.bl (decide (x = y))) H
end Sp
namespace Sp
open PySem L2
/-! ### the numbers of a row below one -/
def cntB (ns : List Int) (n : Int) : Nat := ns.countP fun x => decide (x < n)
def spBelow (K : PySem.W.Frag) : L2.Sp := fun vs H Q _ => ∃ (p : Addr) (ns : List Int) (n : Int), vs = [.ref p, .int n] ∧ SqL K H p (ns.map V.int) ∧ ns.Pairwise (· ≤ ·) ∧ Q (.int (cntB ns n : Nat)) H
theorem cntB_le (ns : List Int) (n : Int) : cntB ns n ≤ ns.length := List.countP_le_length
/-- what stands ahead of the count is below, what stands behind is not -/
theorem cntB_lt : ∀ {ns : List Int} {n : Int}, ns.Pairwise (· ≤ ·) → ∀ {i : Nat} {x : Int}, ns[i]? = some x → (x < n ↔ i < cntB ns n)
  | [], n, _, i, x, h => by simp at h
  | y :: ns, n, hp, i, x, h => by
    have hp' := List.pairwise_cons.mp hp
    unfold cntB
    rw [List.countP_cons]
    by_cases hy : y < n
    · rw [if_pos (decide_eq_true hy)]
      cases i with
      | zero =>
        have e : y = x := Option.some.inj h
        subst e
        exact ⟨fun _ => Nat.succ_pos _, fun _ => hy⟩
      | succ i =>
        have ih := cntB_lt (n := n) hp'.2 (i := i) (x := x) h
        unfold cntB at ih
        rw [ih]
        omega
    · have z : List.countP (fun x => decide (x < n)) ns = 0 := by
        rw [List.countP_eq_zero]
        intro a ha hn
        have h1 := hp'.1 a ha
        have h2 := of_decide_eq_true hn
        omega
      rw [if_neg (by simpa using hy), z]
      cases i with
      | zero =>
        have e : y = x := Option.some.inj h
        subst e
        exact ⟨fun h => absurd h hy, fun h => absurd h (Nat.lt_irrefl _)⟩
      | succ i =>
        have h1 := hp'.1 x (List.mem_of_getElem? h)
        constructor
        · intro h2; omega
        · intro h2; omega
end Sp
namespace Sp
open PySem L2
def spTo (K : PySem.W.Frag) : L2.Sp := fun vs H Q _ => ∃ (p : Addr) (ns : List Int) (n : Int), vs = [.ref p, .int n] ∧ SqL K H p (ns.map V.int) ∧ ns.Pairwise (· ≤ ·) ∧ Q (.int (cntB ns (n + 1) : Nat)) H
end Sp
namespace Sp
open PySem L2
/-- by one step -/
def stepped (b s : Int) (m : Nat) : List Int := (List.range m).map fun (k : Nat) => b + s * (k : Int)
theorem stepped_succ (b s : Int) (m : Nat) : stepped b s (m + 1) = stepped b s m ++ [b + s * (m : Int)] := by
  unfold stepped
  rw [List.range_succ, List.map_append, List.map_singleton]
theorem stepped_len (b s : Int) (m : Nat) : (stepped b s m).length = m := by unfold stepped; rw [List.length_map, List.length_range]
theorem stepped_mem {b s x : Int} {m : Nat} (h : x ∈ stepped b s m) : ∃ k : Nat, k < m ∧ x = b + s * (k : Int) := by
  unfold stepped at h
  obtain ⟨k, hk, rfl⟩ := List.mem_map.mp h
  exact ⟨k, List.mem_range.mp hk, rfl⟩
theorem stepped_sorted {b s : Int} (hs : 0 ≤ s) : ∀ m : Nat, (stepped b s m).Pairwise (· ≤ ·)
  | 0 => List.Pairwise.nil
  | m + 1 => by
    rw [stepped_succ]
    refine List.pairwise_append.mpr ⟨stepped_sorted hs m, List.pairwise_singleton _ _, fun x hx y hy => ?_⟩
    obtain ⟨k, hk, rfl⟩ := stepped_mem hx
    rw [List.mem_singleton.mp hy]
    have h1 : (k : Int) ≤ (m : Int) := by omega
    have h2 := Int.mul_le_mul_of_nonneg_left h1 hs
    omega
theorem perm_fine {ns ms : List Int} (hp : ms.Perm ns) (hs : ms.Pairwise (· ≤ ·)) (hb : ∀ n ∈ ns, -1000000000000000 ≤ n ∧ n ≤ 1000000000000000) : Fine ms := ⟨hs, fun n hn => hb n (hp.mem_iff.mp hn)⟩
end Sp
namespace Sp
open PySem L2
theorem fil_take {α : Type} {xs : List α} {f : α → Bool} {i : Nat} {x : α} (h : xs[i]? = some x) : (xs.take (i + 1)).filter f = (xs.take i).filter f ++ (if f x = true then [x] else []) := by
  rw [List.take_add_one, h, List.filter_append]
  cases e : f x with
  | true => simp [e]
  | false => simp [e]
theorem take_all {α : Type} (xs : List α) : xs.take xs.length = xs := List.take_length
theorem fil_len (ns : List Int) (n : Int) : (ns.filter fun x => decide (x < n)).length = cntB ns n := List.countP_eq_length_filter.symm
theorem fil_len_le (ns : List Int) (n : Int) : (ns.filter fun x => decide (x ≤ n)).length = cntB ns (n + 1) := by
  unfold cntB
  rw [List.countP_eq_length_filter]
  congr 1
  refine List.filter_congr fun x _ => ?_
  by_cases h : x ≤ n
  · rw [decide_eq_true h, decide_eq_true (show x < n + 1 by omega)]
  · rw [decide_eq_false h, decide_eq_false (show ¬ x < n + 1 by omega)]
def spRight3 (K : PySem.W.Frag) : L2.Sp := fun vs H Q _ => ∃ (p : Addr) (ns : List Int) (n : Int), vs = [.ref p, .int n] ∧ SqL K H p (ns.map V.int) ∧ ns.Pairwise (· ≤ ·) ∧ ns.length ≤ 1000 ∧ ∀ H', Same H H' → Q (.bl true) H'
end Sp
namespace Sp
open PySem L2
/-- a turn of [x for x in ns if f x]: kept or left out -/
theorem fil_yes {H0 H : Hp} {D : Addr} {ns : List Int} {f : Int → Bool} {i : Nat} {y : Int} (nD : H0 D = none) (w1 : Same H0 H) (w2 : H D = some (.lst (((ns.take i).filter f).map V.int))) (hy : ns[i]? = some y) (hl : ns.length ≤ 1000) (h : f y = true) :
    ∃ acc, H D = some (.lst acc) ∧ acc.length < sizeLine ∧ Same H0 (upd H D (.lst (acc ++ [V.int y]))) ∧ (upd H D (.lst (acc ++ [V.int y]))) D = some (.lst (((ns.take (i + 1)).filter f).map V.int)) := by
  refine ⟨_, w2, smallLt ?_, fun c o hc => ?_, ?_⟩
  · have h1 : ((ns.take i).filter f).length ≤ (ns.take i).length := List.length_filter_le _ _
    have h2 : (ns.take i).length ≤ ns.length := List.length_take_le' _ _
    rw [List.length_map]
    omega
  · rw [upd_ne (ne_of_none hc nD)]
    exact w1 c o hc
  · rw [upd_same, fil_take hy, if_pos h, List.map_append]
    rfl
theorem fil_no {H : Hp} {D : Addr} {ns : List Int} {f : Int → Bool} {i : Nat} {y : Int} (w2 : H D = some (.lst (((ns.take i).filter f).map V.int))) (hy : ns[i]? = some y) (h : ¬ f y = true) : H D = some (.lst (((ns.take (i + 1)).filter f).map V.int)) := by
  rw [fil_take hy, if_neg h, List.append_nil]
  exact w2
end Sp
namespace Sp
open PySem L2
def spLaw (K : PySem.W.Frag) : L2.Sp := fun vs H Q _ => ∃ (a : Addr) (ns : List Int), vs = [.ref a] ∧ SqL K H a (ns.map V.int) ∧ ns.length ≤ 63 ∧ ∀ H', Q (.bl true) H'
/-- a row of the law: sorted, small, no hand -/
structure RowAt (H : Hp) (a p : Addr) (ns : List Int) : Prop where
  at_ : H p = some (.lst (ns.map V.int))
  ne : p ≠ a
  fine : Fine ns
  len : ns.length ≤ 300
theorem RowAt.up {H H' : Hp} {a p : Addr} {ns : List Int} (r : RowAt H a p ns) (e : Ext a H H') : RowAt H' a p ns := ⟨e.keep _ _ r.at_ r.ne, r.ne, r.fine, r.len⟩
theorem RowAt.sq {K : PySem.W.Frag} {H : Hp} {a p : Addr} {ns : List Int} (r : RowAt H a p ns) : SqL K H p (ns.map V.int) := SqL.new r.at_
end Sp
namespace Sp
open PySem L2
theorem RowAt.hne {H : Hp} {a p : Addr} {ns : List Int} (r : RowAt H a p ns) : p ≠ a := r.ne
/-- one more item at a comprehension's list, the hand apart -/
theorem ext_app {a D : Addr} {H0 H : Hp} {xs : List V} (nD : H0 D = none) (nDa : D ≠ a) (e : Ext a H0 H) : Ext a H0 (upd H D (.lst xs)) := ⟨fun c o hc hca => by
    rw [upd_ne (ne_of_none hc nD)]
    exact e.keep c o hc hca, fun hh => by
    obtain ⟨u, v, e1, r⟩ := e.hand hh
    exact ⟨u, v, by rw [upd_ne nDa.symm]; exact e1, r⟩⟩
theorem same_app {D : Addr} {H0 H : Hp} {xs : List V} (nD : H0 D = none) (e : Same H0 H) : Same H0 (upd H D (.lst xs)) := fun c o hc => by
    rw [upd_ne (ne_of_none hc nD)]
    exact e c o hc
theorem map_app1 {xs : List Int} {y : Int} : xs.map V.int ++ [V.int y] = (xs ++ [y]).map V.int := by rw [List.map_append]; rfl
end Sp

namespace Rv
open PySem PySem.W PyProof.Rows L2
section
variable {prog : Program} {w : World} {A : Around} {E : Value → Shared → Prop} {s : Shared}
/-- (u, v)[::-1], raw -/
theorem get_rev2 {t sl : Addr} {u v vs : Value} {Q : Value → Shared → Prop} (ht : IsTup s.heap t #[u, v]) (hs : s.heap.IsSliceOf sl .none .none vs) (ps : IsPart vs (some (-1)))
    (h : Q (.ref s.heap.objs.size) { s with heap := s.heap.push { cls := .type "tuple", data := .seq #[v, u] } }) : wpAny (model prog w) A (getItem (.ref t) (.ref sl)) Q E s := by
  obtain ⟨os, hos, hcs, hds⟩ := id hs
  have hTs : s.TypeIs (.ref sl) "slice" := ⟨os, hos, hcs⟩
  unfold getItem
  try with_reducible refine wpAny_holding ?_
  first | refine wpAny_bind (wpAny_pure ?_) | skip
  refine wpAny_bind (wpAny_sequenceKey ht.typeIs (by decide) ?_)
  refine wpAny_bind (wpAny_callSpecial?_slot (name := Str.ofString "__getitem__") ht.typeIs PyProof.Rows.slot_tuple_getitem (wpAny_call_entry PyProof.Rows.slot_tuple_getitem ht.typeIs entry_tuple_getitem ?_ (args_tuple_getitem _ _)))
  show wpAny _ _ (Builtin.Tuple.tupleItemsOf (.ref t) >>= _) _ _ s
  refine wpAny_bind (tupleItemsOf_ ht ?_)
  refine wpAny_bind (wpAny_typeOf hTs ?_)
  rw [if_pos (by decide)]
  refine wpAny_bind ?_
  unfold Builtin.Slice.sliceApplied Builtin.Slice.sliceFields
  refine wpAny_bind (wpAny_bind (wpAny_field hos hds (x := Value.none) rfl (wpAny_bind (wpAny_field hos hds (x := Value.none) rfl (wpAny_bind (wpAny_field hos hds (x := vs) rfl (wpAny_pure ?_)))))))
  refine wpAny_bind (HT.slicePart_ ps ?_)
  show wpAny _ _ (if ((-1 : Int) == 0) = true then _ else _) _ _ s
  rw [if_neg (by decide)]
  refine wpAny_bind (slicePart_none (wpAny_bind (slicePart_none (wpAny_bind (wpAny_pure ?_)))))
  show wpAny _ _ (match Builtin.Slice.sliceAdjust none none (-1) (2 : Int) with | (lo, hi) => pure (lo, (-1 : Int), Builtin.Slice.slicePlaces lo hi (-1))) _ _ s
  have e1 : Builtin.Slice.sliceAdjust none none (-1) (2 : Int) = (1, -1) := by decide +kernel
  have e2 : Builtin.Slice.slicePlaces (1 : Int) (-1) (-1) = 2 := by decide +kernel
  rw [e1]
  show wpAny _ _ (pure ((1 : Int), (-1 : Int), Builtin.Slice.slicePlaces (1 : Int) (-1) (-1))) _ _ s
  rw [e2]
  refine wpAny_pure ?_
  show wpAny _ _ (if ((1 : Int) == 0 && (-1 : Int) == 1 && (2 : Nat) == #[u, v].size) = true then _ else _) _ _ s
  rw [if_neg (by rw [show ((1 : Int) == 0) = false from rfl]; exact Bool.false_ne_true)]
  have e3 : ((List.range 2).filterMap fun (k : Nat) => #[u, v][((1 : Int) + (k : Int) * (-1)).toNat]?).toArray = #[v, u] := rfl
  rw [e3]
  have htake : sizeOk (.seq #[v, u]) := by show 2 ≤ sizeLine; decide
  first
    | exact wpAny_bind (m := Builtin.Tuple.tupleExact _) (wpAny_newObj_type (wpAny_pure ⟨_, rfl, wpAny_pure h⟩) htake)
    | exact wpAny_bind (m := Builtin.Tuple.tupleExact _) (wpAny_newObj_type (wpAny_bind (wpAny_pure (wpAny_pure ⟨_, rfl, wpAny_pure h⟩))) htake)
    | exact wpAny_bind (wpAny_bind (m := Builtin.Tuple.tupleExact _) (wpAny_newObj_type (wpAny_pure (wpAny_pure ⟨_, rfl, wpAny_pure h⟩)) htake))
end
/-- t[::-1], t a pair -/
def tRev2 (K : PySem.W.Frag) (te : TE) : TE := fun σ H Q => te σ H fun x H1 => ∃ a u v, x = .ref a ∧ SqT K H1 a [u, v] ∧ ∀ p, H1 p = none → Q (.ref p) (upd H1 p (.tup [v, u]))
theorem pe_rev2 {X : Cx} {e : Expr} {te : TE} {k : Nat} {p1 p2 p3 pos : Pos} (he : PE X e te) : PE X (.Subscript e (.Slice none none (some (.UnaryOp .USub (.Constant (.int 1) k p1) p2)) p3) pos) (tRev2 X.K te) := by
  refine ⟨fun pins s σ H Q I h => ?_⟩
  refine Subscript_ (thn (he.run pins s σ H _ I h) fun v s1 ⟨x, H1, I1, r1, q1⟩ => ?_)
  obtain ⟨a, u, w', rfl, hx, q⟩ := q1
  cases r1
  have hst : PO X (some (.UnaryOp .USub (.Constant (.int 1) k p1) p2)) (tPart (tUn (rU fun i => .int (-i)) (tC (.int 1)))) := po_some (pe_un un_neg pe_int)
  refine wpAny_Slice (thn (po_none.run pins s1 σ H1 (fun o H2 => o = none ∧ H2 = H1) I1 ⟨rfl, rfl⟩) fun vl s2 ⟨l, H2, I2, pl, el, e2⟩ => ?_)
  subst el e2
  refine thn (po_none.run pins s2 σ H2 (fun o H3 => o = none ∧ H3 = H2) I2 ⟨rfl, rfl⟩) fun vu s3 ⟨u3, H3, I3, pu, eu, e3⟩ => ?_
  subst eu e3
  refine thn (hst.run pins s3 σ H3 (fun o H4 => o = some (-1) ∧ H4 = H3) I3 ⟨1, rfl, -1, rfl, rfl, rfl⟩) fun vs s4 ⟨o, H4, I4, ps, eo, e4⟩ => ?_
  subst eo e4
  cases pl
  cases pu
  have I5 : Inv X pins σ H4 { s4 with heap := s4.heap.push { cls := .type "slice", data := .fields #[Value.none, Value.none, vs] } } := I4.kept (t' := s4.toks) fun b ob q => Heap.get?_push_of_some _ q
  obtain ⟨its, r, ht, hz⟩ := I5.tuple hx
  cases r with
  | cons ra rr =>
    cases rr with
    | cons rb rc =>
      cases rc
      show wpAny (model X.prog X.w) X.A (subscriptTail e (.Slice none none (some (.UnaryOp .USub (.Constant (.int 1) k p1) p2)) p3) (.ref a) (.ref s4.heap.objs.size)) (EP X pins σ Q) X.xe { s4 with heap := s4.heap.push { cls := .type "slice", data := .fields #[Value.none, Value.none, vs] } }
      refine tail_any (ops := [.ref a, .ref s4.heap.objs.size]) ht.typeIs (PyProof.Rows.slot_tuple_getitem.lookup) ?_ (by with_unfolding_all rfl)
      refine get_rev2 ht (Heap.IsSliceOf.new _ Value.none Value.none vs) ps ?_
      exact ⟨.ref _, _, I5.laid (t' := s4.toks) (o := .tup [w', u]) (fun b ob q => Heap.get?_push_of_some _ q) (Nat.le_refl _) ⟨by show 2 ≤ sizeLine; decide, _, .cons rb (.cons ra .nil), IsTup.new _ _⟩, rfl, q _ (I5.hok.fresh (Nat.le_refl _))⟩
end Rv

namespace Sp
open PySem L2
/-! ### sums below -/
def cntS (ns ms : List Int) (n : Int) : Nat := (ns.map fun x => cntB ms (n - x)).sum
theorem cntB_mono {ms : List Int} {n m : Int} (h : n ≤ m) : cntB ms n ≤ cntB ms m := by
  unfold cntB
  refine List.countP_mono_left fun x _ hx => ?_
  have := of_decide_eq_true hx
  exact decide_eq_true (by omega)
theorem cntS_nil (ms : List Int) (n : Int) : cntS [] ms n = 0 := rfl
theorem cntS_snoc (ns ms : List Int) (x n : Int) : cntS (ns ++ [x]) ms n = cntS ns ms n + cntB ms (n - x) := by
  unfold cntS
  rw [List.map_append, List.sum_append]
  rfl
theorem take_snoc {α : Type} {xs : List α} {i : Nat} {x : α} (h : xs[i]? = some x) : xs.take (i + 1) = xs.take i ++ [x] := by rw [List.take_add_one, h]; rfl
theorem sorted_le {ns : List Int} (hp : ns.Pairwise (· ≤ ·)) {i j : Nat} {x y : Int} (hx : ns[i]? = some x) (hy : ns[j]? = some y) (h : i ≤ j) : x ≤ y := by
  obtain ⟨h1, e1⟩ := List.getElem?_eq_some_iff.mp hx
  obtain ⟨h2, e2⟩ := List.getElem?_eq_some_iff.mp hy
  rcases Nat.lt_or_eq_of_le h with h | h
  · have := (List.pairwise_iff_getElem.mp hp) i j h1 h2 h
    rw [e1, e2] at this
    exact this
  · subst h
    rw [hx] at hy
    rw [Option.some.inj hy]
    exact Int.le_refl _
theorem cnt_sum (ms : List Int) (x n : Int) : (ms.filter fun y => decide (x + y < n)).length = cntB ms (n - x) := by
  unfold cntB
  rw [List.countP_eq_length_filter]
  congr 1
  refine List.filter_congr fun y _ => ?_
  by_cases h : x + y < n
  · rw [decide_eq_true h, decide_eq_true (show y < n - x by omega)]
  · rw [decide_eq_false h, decide_eq_false (show ¬ y < n - x by omega)]
theorem cnt_sum_le (ms : List Int) (x n : Int) : (ms.filter fun y => decide (x + y ≤ n)).length = cntB ms (n + 1 - x) := by
  unfold cntB
  rw [List.countP_eq_length_filter]
  congr 1
  refine List.filter_congr fun y _ => ?_
  by_cases h : x + y ≤ n
  · rw [decide_eq_true h, decide_eq_true (show y < n + 1 - x by omega)]
  · rw [decide_eq_false h, decide_eq_false (show ¬ y < n + 1 - x by omega)]
def spSums (K : PySem.W.Frag) : L2.Sp := fun vs H Q _ => ∃ (p q : Addr) (ns ms : List Int) (n : Int), vs = [.ref p, .ref q, .int n] ∧ SqL K H p (ns.map V.int) ∧ SqL K H q (ms.map V.int) ∧ ns.Pairwise (· ≤ ·) ∧ ms.Pairwise (· ≤ ·) ∧ Q (.int (cntS ns ms n : Nat)) H
def spSumsTo (K : PySem.W.Frag) : L2.Sp := fun vs H Q _ => ∃ (p q : Addr) (ns ms : List Int) (n : Int), vs = [.ref p, .ref q, .int n] ∧ SqL K H p (ns.map V.int) ∧ SqL K H q (ms.map V.int) ∧ ns.Pairwise (· ≤ ·) ∧ ms.Pairwise (· ≤ ·) ∧ Q (.int (cntS ns ms (n + 1) : Nat)) H
/-- the law's own count, pair by pair -/
def spDue (K : PySem.W.Frag) (d : Int) : L2.Sp := fun vs H Q _ => ∃ (p q : Addr) (ns ms : List Int) (n : Int), vs = [.ref p, .ref q, .int n] ∧ SqL K H p (ns.map V.int) ∧ SqL K H q (ms.map V.int) ∧ ms.length ≤ 1000 ∧ ∀ H', Same H H' → Q (.int (cntS ns ms (n + d) : Nat)) H'
/-- two rows in a pair -/
def spTwo : L2.Sp := fun vs H Q _ => ∃ (a : Addr) (b : Bool), vs = [.ref a, .bl b] ∧ HandAt H a ∧
  ∀ (t p q : Addr) (ns ms : List Int) (H' : Hp), Ext a H H' → H' t = some (.tup [.ref p, .ref q]) → t ≠ a → RowAt H' a p ns → RowAt H' a q ms → Q (.ref t) H'
def Mid (zs : List Int) : Prop := ∀ z ∈ zs, -(2 ^ 150) < z ∧ z < 2 ^ 150
def spAsked : L2.Sp := fun vs H Q _ => ∃ (a p q : Addr) (ns ms : List Int), vs = [.ref a, .ref p, .ref q] ∧ HandAt H a ∧ RowAt H a p ns ∧ RowAt H a q ms ∧
  ∀ (r : Addr) (zs : List Int) (H' : Hp), Ext a H H' → H r = none → H' r = some (.lst (zs.map V.int)) → zs.length ≤ 9 → Mid zs → Q (.ref r) H'
end Sp
namespace Sp
open PySem L2
theorem at_map {ns : List Int} {r x : Int} (h : atI ns r = some x) : atI (ns.map V.int) r = some (.int x) := by
  unfold atI at h ⊢
  rw [List.length_map]
  cases e : ixN ns.length r with
  | none => rw [e] at h; cases h
  | some j =>
    rw [e] at h
    show (ns.map V.int)[j]? = _
    rw [List.getElem?_map, show ns[j]? = some x from h]
    rfl
end Sp
namespace Sp
open PySem L2
theorem shaped_two (ns ms : List Int) : SeqAt.shaped (.list [di ns, di ms]) = true := by
  unfold SeqAt.shaped
  simp only [PyData.canLay0, PyData.canLayAll0, lay_ints, PyData.depth, PyData.depthAll, dep_ints]
  rfl
theorem eqv_two (ns ms : List Int) : PyData.eqv (.list [di ns, di ms]) (.list [di ns, di ms]) = true := by
  rw [PyData.eqv]
  refine eqvAll_same fun x hx => ?_
  simp only [List.mem_cons, List.not_mem_nil, or_false] at hx
  rcases hx with rfl | rfl
  · rw [eqv_ints]; exact decide_eq_true rfl
  · rw [eqv_ints]; exact decide_eq_true rfl
theorem dp_two {K : PySem.W.Frag} {H : Hp} {l p q : Addr} {ns ms : List Int} (h : H l = some (.lst [.ref p, .ref q])) (hp : SqL K H p (ns.map V.int)) (hq : SqL K H q (ms.map V.int)) : Dp K H (.ref l) (.list [di ns, di ms]) :=
  .lst (SqL.new h) (.cons (dp_ints hp) (.cons (dp_ints hq) .nil))
end Sp

namespace Sp
open PySem L2
/-- a loop over enumerate(list), the list standing still -/
theorem for_enum {K : PySem.W.Frag} {a : Addr} {xs : List V} {g : TG} {tb : TS} {D : Ends} {σ : L2.St} {H : Hp} (Pv : Nat → L2.St → Hp → Prop) (h0 : Pv 0 σ H) (hl : ∀ i σ H, i ≤ xs.length → Pv i σ H → SqL K H a xs)
    (hs : ∀ i x σ H T, xs[i]? = some x → Pv i σ H → H T = none → g (.ref T) σ (upd H T (.tup [.int (i : Nat), x])) fun σ2 H2 => tb { D with nx := Pv (i + 1), ct := Pv (i + 1), bk := D.nx } σ2 H2) (hd : ∀ σ H, Pv xs.length σ H → D.nx σ H) :
    ∃ W : Nat → Nat → L2.St → Hp → Prop, (∃ m, W 0 m σ H) ∧ ∀ i m σ H, W i m σ H →
      ((Ite K a).stop i H ∧ D.nx σ H) ∨ ((Ite K a).go i H ∧ ∃ N : L2.St → Hp → Prop, (∀ σ' H', N σ' H' → ∃ m', m' < m ∧ W (i + 1) m' σ' H') ∧ ∀ x H', (Ite K a).yld i H x H' → g x σ H' fun σ2 H2 => tb { D with nx := N, ct := N, bk := D.nx } σ2 H2) := by
  refine ⟨fun i m σ H => m = xs.length - i ∧ i ≤ xs.length ∧ Pv i σ H, ⟨xs.length, by simp, Nat.zero_le _, h0⟩, fun i m σ H w => ?_⟩
  obtain ⟨rfl, hi, p⟩ := w
  have q := hl i σ H hi p
  by_cases hlt : i < xs.length
  · refine .inr ⟨⟨xs, xs[i], q, List.getElem?_eq_getElem hlt⟩, Pv (i + 1), fun σ' H' p' => ⟨xs.length - (i + 1), by omega, rfl, hlt, p'⟩, fun x H' y => ?_⟩
    obtain ⟨T, z, rfl, nT, rfl, f⟩ := y
    exact hs i z σ H T (f xs q) p nT
  · obtain rfl : i = xs.length := by omega
    exact .inl ⟨⟨xs, q, Nat.le_refl _⟩, hd σ H p⟩
/-! ### is_row, of anything -/
abbrev kinds : List String := ["bool", "str", "NoneType", "list", "tuple", "dict"]
def NoInt (K : PySem.W.Frag) (H : Hp) (x : V) : Prop := ∃ T, T ∈ kinds ∧ TyX K H x (.type T)
def Kn (K : PySem.W.Frag) (H : Hp) (x : V) : Prop := (∃ n, x = .int n) ∨ NoInt K H x
theorem TyX.up {K : PySem.W.Frag} {H H' : Hp} {x : V} {t : Value} (s : Same H H') (h : TyX K H x t) : TyX K H' x t := by
  cases h with
  | base b =>
    cases b with
    | non => exact .base .non
    | bl y => exact .base (.bl y)
    | int i => exact .base (.int i)
    | str y => exact .base (.str y)
    | flt y => exact .base (.flt y)
    | lst e => exact .base (.lst (s _ _ e))
    | frz e => exact .base (.frz (s _ _ e))
    | tup e => exact .base (.tup (s _ _ e))
    | dK e => exact .base (.dK (s _ _ e))
    | dT e => exact .base (.dT (s _ _ e))
    | ins e c1 c2 c3 c4 c5 => exact .base (.ins (s _ _ e) c1 c2 c3 c4 c5)
  | byt b => exact .byt b
  | set e => exact .set (s _ _ e)
  | kList e c => exact .kList e c
  | kTuple e c => exact .kTuple e c
  | kDict e c => exact .kDict e c
  | fTuple e => exact .fTuple (s _ _ e)
  | fDict e => exact .fDict (s _ _ e)
theorem NoInt.up {K : PySem.W.Frag} {H H' : Hp} {x : V} (s : Same H H') (h : NoInt K H x) : NoInt K H' x := let ⟨T, m, t⟩ := h; ⟨T, m, TyX.up s t⟩
theorem Kn.up {K : PySem.W.Frag} {H H' : Hp} {x : V} (s : Same H H') (h : Kn K H x) : Kn K H' x := h.imp id fun z => z.up s
theorem NoInt.ne {K : PySem.W.Frag} {H : Hp} {x : V} (h : NoInt K H x) (n : Int) : x ≠ .int n := by
  rintro rfl
  obtain ⟨T, m, t⟩ := h
  cases t with
  | base b =>
    cases b
    simp at m
def IsRow (xs : List V) : Prop := ∃ ns : List Int, xs = ns.map V.int ∧ ns.Pairwise (· ≤ ·)
def spIsWhole (K : PySem.W.Frag) : L2.Sp := fun vs H Q _ => ∃ x : V, vs = [x] ∧ (((∃ n, x = .int n) ∧ Q (.bl true) H) ∨ (NoInt K H x ∧ Q (.bl false) H))
def spIsRow (K : PySem.W.Frag) : L2.Sp := fun vs H Q _ => ∃ x : V, vs = [x] ∧ ((∃ (p : Addr) (xs : List V), x = .ref p ∧ SqL K H p xs ∧ (∀ y ∈ xs, Kn K H y) ∧ ∀ (b : Bool) (H' : Hp), (b = true ↔ IsRow xs) → Same H H' → Q (.bl b) H') ∨
  (∃ T, T ∈ ["int", "bool", "str", "NoneType", "tuple", "dict"] ∧ TyX K H x (.type T) ∧ Q (.bl false) H))
theorem IsRow.map (ns : List Int) : IsRow (ns.map V.int) ↔ ns.Pairwise (· ≤ ·) := by
  constructor
  · rintro ⟨ms, e, h⟩
    have e2 : ns = ms := by
      have := congrArg (List.map fun v => match v with | V.int i => i | _ => 0) e
      rw [List.map_map, List.map_map] at this
      have f : ((fun v => match v with | V.int i => i | _ => (0 : Int)) ∘ V.int) = id := rfl
      rw [f, List.map_id, List.map_id] at this
      exact this
    rw [e2]
    exact h
  · exact fun h => ⟨ns, rfl, h⟩
theorem tyList {K : PySem.W.Frag} {H : Hp} {p : Addr} {xs : List V} (h : SqL K H p xs) : TyX K H (.ref p) (.type "list") := by
  rcases h with (h | ⟨o, h⟩) | ⟨o, its, n, hk, hc, _⟩
  · exact .base (.lst h)
  · exact .base (.frz h)
  · exact .kList hk hc
end Sp
namespace Sp
open PySem L2
/-! ### joined, turned, counted -/
theorem sorted_one {ns ms : List Int} (hp : ns.Perm ms) (h1 : ns.Pairwise (· ≤ ·)) (h2 : ms.Pairwise (· ≤ ·)) : ns = ms := hp.eq_of_pairwise (fun a b _ _ x y => Int.le_antisymm x y) h1 h2
def spJoined : L2.Sp := fun vs H Q _ => ∃ (p q : Addr) (ns ms : List Int), vs = [.ref p, .ref q] ∧ H p = some (.lst (ns.map V.int)) ∧ H q = some (.lst (ms.map V.int)) ∧ ns.length + ms.length ≤ 10000 ∧
  ∀ (r : Addr) (js : List Int) (H' : Hp), Same H H' → H r = none → H' r = some (.lst (js.map V.int)) → js.Perm (ns ++ ms) → js.Pairwise (· ≤ ·) → Q (.ref r) H'
def turned (ns : List Int) : List Int := ns.reverse.map fun x => 0 - x
def spTurned (K : PySem.W.Frag) : L2.Sp := fun vs H Q _ => ∃ (p : Addr) (ns : List Int), vs = [.ref p] ∧ SqL K H p (ns.map V.int) ∧ ns.length ≤ 10000 ∧ ∀ (r : Addr) (H' : Hp), Same H H' → H r = none → H' r = some (.lst ((turned ns).map V.int)) → Q (.ref r) H'
theorem cntB_perm {ns ms : List Int} (h : ns.Perm ms) (n : Int) : cntB ns n = cntB ms n := h.countP_eq _
theorem cntB_append (ns ms : List Int) (n : Int) : cntB (ns ++ ms) n = cntB ns n + cntB ms n := List.countP_append
theorem cntB_next : ∀ (ns : List Int) (n : Int), cntB ns (n + 1) = cntB ns n + ns.count n
  | [], n => rfl
  | x :: ns, n => by
    have ih := cntB_next ns n
    unfold cntB at ih ⊢
    rw [List.countP_cons, List.countP_cons, List.count_cons, ih]
    by_cases h : x < n
    · rw [if_pos (decide_eq_true (show x < n + 1 by omega)), if_pos (decide_eq_true h), if_neg (by simp; omega)]
      omega
    · by_cases h2 : x = n
      · rw [if_pos (decide_eq_true (show x < n + 1 by omega)), if_neg (by simpa using h), if_pos (by simp [h2])]
        omega
      · rw [if_neg (by simp; omega), if_neg (by simpa using h), if_neg (by simpa using h2)]
        omega
theorem cntB_turned (ns : List Int) (n : Int) : cntB (turned ns) (0 - n) + cntB ns (n + 1) = ns.length := by
  have key : ∀ l : List Int, cntB (l.map fun x => 0 - x) (0 - n) + cntB l (n + 1) = l.length := by
    intro l
    induction l with
    | nil => rfl
    | cons x l ih =>
      unfold cntB at ih ⊢
      rw [List.map_cons, List.countP_cons, List.countP_cons, List.length_cons]
      by_cases h : x < n + 1
      · rw [if_pos (decide_eq_true h), if_neg (by simp; omega)]
        omega
      · rw [if_pos (decide_eq_true (show 0 - x < 0 - n by omega)), if_neg (by simp; omega)]
        omega
  have h1 := key ns.reverse
  have h2 : cntB ns.reverse (n + 1) = cntB ns (n + 1) := cntB_perm (List.reverse_perm ns) _
  rw [h2, List.length_reverse] at h1
  exact h1
theorem turned_sorted {ns : List Int} (h : ns.Pairwise (· ≤ ·)) : (turned ns).Pairwise (· ≤ ·) := by
  unfold turned
  rw [List.pairwise_map, List.pairwise_reverse]
  exact h.imp fun h => by omega
def spCounts (K : PySem.W.Frag) : L2.Sp := fun vs H Q _ => ∃ (p q b : Addr) (ns ms js : List Int) (n : Int), vs = [.ref p, .ref q, .ref b, .int n] ∧ SqL K H p (ns.map V.int) ∧ SqL K H q (ms.map V.int) ∧ SqL K H b (js.map V.int) ∧
  ns.Pairwise (· ≤ ·) ∧ ms.Pairwise (· ≤ ·) ∧ js.Pairwise (· ≤ ·) ∧ js.Perm (ns ++ ms) ∧ ns.length ≤ 10000 ∧ ∀ H', Same H H' → Q (.bl true) H'
end Sp
namespace Sp
open PySem L2
theorem ne_same {x : V} {H : Hp} {Q : VK} (hs : scal x x = true) (q : Q (.bl false) H) : rNe x x H Q := ⟨hs, by rw [decide_eq_true rfl]; exact q⟩
theorem eq_same {x : V} {H : Hp} {Q : VK} (hs : scal x x = true) (q : Q (.bl true) H) : rEq x x H Q := ⟨hs, by rw [decide_eq_true rfl]; exact q⟩
end Sp
namespace Sp
open PySem L2
theorem map_cnt_sorted {js zs : List Int} (h : zs.Pairwise (· ≤ ·)) : (zs.map fun z => ((cntB js z : Nat) : Int)).Pairwise (· ≤ ·) := by
  rw [List.pairwise_map]
  exact h.imp fun h => Int.ofNat_le.mpr (cntB_mono h)
/-- a turn of [f x for x in ns] -/
theorem map_turn {H0 H : Hp} {D : Addr} {ns : List Int} {f : Int → Int} {i : Nat} {y : Int} (nD : H0 D = none) (w1 : Same H0 H) (w2 : H D = some (.lst (((ns.take i).map f).map V.int))) (hy : ns[i]? = some y) (hl : ns.length ≤ 10000) :
    ∃ acc, H D = some (.lst acc) ∧ acc.length < sizeLine ∧ Same H0 (upd H D (.lst (acc ++ [V.int (f y)]))) ∧ (upd H D (.lst (acc ++ [V.int (f y)]))) D = some (.lst (((ns.take (i + 1)).map f).map V.int)) := by
  refine ⟨_, w2, smallLt ?_, same_app nD w1, ?_⟩
  · have := List.length_take_le' i ns
    rw [List.length_map, List.length_map]
    omega
  · rw [upd_same, take_snoc hy, map_app1, List.map_append, List.map_append, List.map_append]
    rfl
end Sp

namespace Sp
open PySem L2
/-- the scope of a comprehension that the j-th statement of a def stores -/
def compScopeAt (s : Stmt) (j : Nat) : Scope := match (defBody s).getD j (.Pass ⟨0, 0, 0, 0⟩) with
  | .Assign _ (.ListComp _ _ sc _) _ => sc
  | _ => { kind := .function, names := [], isGenerator := false, isCoroutine := false }
/-! ### sums, otherwise -/
theorem cntB_cons (y : Int) (ms : List Int) (n : Int) : cntB (y :: ms) n = cntB ms n + (if y < n then 1 else 0) := by
  unfold cntB
  rw [List.countP_cons]
  by_cases h : y < n
  · rw [if_pos (decide_eq_true h), if_pos h]
  · rw [if_neg (by simpa using h), if_neg h]
theorem cntS_cons (x : Int) (ns ms : List Int) (n : Int) : cntS (x :: ns) ms n = cntB ms (n - x) + cntS ns ms n := by
  unfold cntS
  rw [List.map_cons, List.sum_cons]
theorem cntS_cons_r : ∀ (ns : List Int) (y : Int) (ms : List Int) (n : Int), cntS ns (y :: ms) n = cntB ns (n - y) + cntS ns ms n
  | [], y, ms, n => rfl
  | x :: ns, y, ms, n => by
    rw [cntS_cons, cntS_cons, cntS_cons_r ns y ms n, cntB_cons, cntB_cons]
    have : (y < n - x) ↔ (x < n - y) := by omega
    by_cases h : y < n - x
    · rw [if_pos h, if_pos (this.mp h)]
      omega
    · rw [if_neg h, if_neg (fun k => h (this.mpr k))]
      omega
theorem cntS_nil_r : ∀ (ns : List Int) (n : Int), cntS ns [] n = 0
  | [], n => rfl
  | x :: ns, n => by rw [cntS_cons, cntS_nil_r ns n]; rfl
theorem cntS_comm : ∀ (ns ms : List Int) (n : Int), cntS ms ns n = cntS ns ms n
  | [], ms, n => by rw [cntS_nil_r]; rfl
  | x :: ns, ms, n => by rw [cntS_cons_r, cntS_cons, cntS_comm ns ms n]
theorem cntS_append (ns ks ms : List Int) (n : Int) : cntS (ns ++ ks) ms n = cntS ns ms n + cntS ks ms n := by
  unfold cntS
  rw [List.map_append, List.sum_append]
theorem cntS_perm {ns ks : List Int} (h : ns.Perm ks) (ms : List Int) (n : Int) : cntS ns ms n = cntS ks ms n := (h.map _).sum_nat
theorem cntS_shift : ∀ (ns ms : List Int) (n b : Int), cntS (ns.map fun x => x + b) ms (n + b) = cntS ns ms n
  | [], ms, n, b => rfl
  | x :: ns, ms, n, b => by
    rw [List.map_cons, cntS_cons, cntS_cons, cntS_shift ns ms n b]
    rw [show n + b - (x + b) = n - x from by omega]
theorem cntB_three : ∀ (ms : List Int) (n : Int), cntB (ms.map fun x => x * 3) (n * 3) = cntB ms n
  | [], n => rfl
  | y :: ms, n => by
    rw [List.map_cons, cntB_cons, cntB_cons, cntB_three ms n]
    by_cases h : y < n
    · rw [if_pos h, if_pos (by omega)]
    · rw [if_neg h, if_neg (by omega)]
theorem cntS_three : ∀ (ns ms : List Int) (n : Int), cntS (ns.map fun x => x * 3) (ms.map fun x => x * 3) (n * 3) = cntS ns ms n
  | [], ms, n => rfl
  | x :: ns, ms, n => by
    rw [List.map_cons, cntS_cons, cntS_cons, cntS_three ns ms n]
    rw [show n * 3 - x * 3 = (n - x) * 3 from by omega, cntB_three]
theorem cntS_turned (ns ms : List Int) (n : Int) : cntS (turned ns) (turned ms) (0 - n + 1) + cntS ns ms n = ns.length * ms.length := by
  have key : ∀ l : List Int, cntS (l.map fun x => 0 - x) (turned ms) (0 - n + 1) + cntS l ms n = l.length * ms.length := by
    intro l
    induction l with
    | nil => rw [List.length_nil, Nat.zero_mul]; rfl
    | cons x l ih =>
      rw [List.map_cons, cntS_cons, cntS_cons, List.length_cons, Nat.add_mul, Nat.one_mul]
      have h := cntB_turned ms (n - x - 1)
      rw [show n - x - 1 + 1 = n - x from by omega] at h
      rw [show 0 - n + 1 - (0 - x) = 0 - (n - x - 1) from by omega]
      omega
  have h1 := key ns.reverse
  rw [List.length_reverse, cntS_perm (List.reverse_perm ns)] at h1
  exact h1
theorem cntB_all : ∀ {ms : List Int} {n : Int}, (∀ y ∈ ms, y < n) → cntB ms n = ms.length
  | [], n, _ => rfl
  | y :: ms, n, h => by
    rw [cntB_cons, cntB_all fun z hz => h z (List.mem_cons_of_mem _ hz), if_pos (h y List.mem_cons_self), List.length_cons]
theorem cntS_all : ∀ {ns ms : List Int} {n : Int}, (∀ x ∈ ns, ∀ y ∈ ms, x + y < n) → cntS ns ms n = ns.length * ms.length
  | [], ms, n, _ => by rw [List.length_nil, Nat.zero_mul]; rfl
  | x :: ns, ms, n, h => by
    rw [cntS_cons, cntS_all (fun z hz => h z (List.mem_cons_of_mem _ hz)), cntB_all (fun y hy => (by have := h x List.mem_cons_self y hy; omega)), List.length_cons, Nat.add_mul, Nat.one_mul, Nat.add_comm]
theorem cntS_mono {ns ms : List Int} {n m : Int} (h : n ≤ m) : cntS ns ms n ≤ cntS ns ms m := by
  induction ns with
  | nil => exact Nat.le_refl _
  | cons x ns ih =>
    rw [cntS_cons, cntS_cons]
    exact Nat.add_le_add (cntB_mono (by omega)) ih
theorem cntS_one (b : Int) (ms : List Int) (n : Int) : cntS [b] ms n = cntB ms (n - b) := by rw [cntS_cons]; rfl
theorem map_cntS_sorted {ns ms zs : List Int} (h : zs.Pairwise (· ≤ ·)) : (zs.map fun z => ((cntS ns ms z : Nat) : Int)).Pairwise (· ≤ ·) := by
  rw [List.pairwise_map]
  exact h.imp fun h => Int.ofNat_le.mpr (cntS_mono h)
theorem div_fine {ns : List Int} (h : Fine ns) : Fine (ns.map fun x => x / 4) := by
  refine ⟨?_, fun z hz => ?_⟩
  · rw [List.pairwise_map]
    exact h.1.imp fun h => Int.ediv_le_ediv (by decide) h
  · obtain ⟨x, hx, rfl⟩ := List.mem_map.mp hz
    have := h.2 x hx
    omega
theorem shift_sorted {ns : List Int} (b : Int) (h : ns.Pairwise (· ≤ ·)) : (ns.map fun x => x + b).Pairwise (· ≤ ·) := by
  rw [List.pairwise_map]
  exact h.imp fun h => by omega
theorem three_sorted {ns : List Int} (h : ns.Pairwise (· ≤ ·)) : (ns.map fun x => x * 3).Pairwise (· ≤ ·) := by
  rw [List.pairwise_map]
  exact h.imp fun h => by omega
def spRight7 (K : PySem.W.Frag) : L2.Sp := fun vs H Q _ => ∃ (p q t : Addr) (ns ms ks : List Int) (n b : Int), vs = [.ref p, .ref q, .ref t, .int n, .int b] ∧ H p = some (.lst (ns.map V.int)) ∧ H q = some (.lst (ms.map V.int)) ∧ H t = some (.lst (ks.map V.int)) ∧
  Fine ns ∧ Fine ms ∧ Fine ks ∧ ns.length ≤ 300 ∧ ms.length ≤ 300 ∧ ks.length ≤ 300 ∧ -(2 ^ 160) < n ∧ n < 2 ^ 160 ∧ ∀ H', Same H H' → Q (.bl true) H'
end Sp
namespace Sp
open PySem L2
/-- within a comprehension: the written part by its own name -/
theorem pi_listK {X : Cx} {K : PySem.W.Frag} {tg l : Expr} {tl : TE} (hK : X.K = K) (hl : PE X l tl) : PI X tg l (iList K tl) := hK ▸ pi_list hl
end Sp
namespace Sp
open PySem L2
theorem mid_div {zs : List Int} (h : Mid zs) : Mid (zs.map fun x => x / 4) := fun z hz => by
  obtain ⟨x, hx, rfl⟩ := List.mem_map.mp hz
  have := h x hx
  omega
end Sp

/-! defs that ask repr of a list: they are called where no repr is under way. -/
namespace Gd
open PySem PySem.Spec PyProof.Rows L2 Sp
/-- a def that keeps its promise wherever no repr is under way -/
structure FnG (P : Program) (w : World) (K : PySem.W.Frag) (mg : Str → Option Value) (base : Heap) (k : Nat) (f : Addr) (fd : FuncData) (ps : List Str) (sp : L2.Sp) : Prop where
  many : ∀ vs H Q E, sp vs H Q E → vs.length = ps.length
  goes : ∀ (B : Around) (fs : List Env) (z : Shared) (H : Hp) (ws : Args) (us : List Value) (vs : List V) (Q : VK) (E : XK), B.guards = some [] → Room k B →
    Env0 P w K mg base B fs z H → BindsTo z fd ws (ps.zip us) → Vals vs us → sp vs H Q E → codeAny (model P w) B (.call (.ref f) ws) (CR CX0 fs P w H z Q E) z
/-- such a def of the text by its name -/
structure CalG (P : Program) (w : World) (K : PySem.W.Frag) (mg : Str → Option Value) (base : Heap) (k : Nat) (x : Str) (ps : List Str) (sp : L2.Sp) : Prop where
  ex : ∃ (f : Addr) (fd : FuncData), FnG P w K mg base k f fd ps sp ∧ mg x = some (.ref f) ∧ PySem.W.keepIn K (.ref f) = true ∧ Binds K fd ps []
section
variable {P : Program} {w : World} {K : PySem.W.Frag} {mg : Str → Option Value} {base : Heap}
theorem okG {x qual : Str} {st : Stmt} {f : Addr} {fd : FuncData} {N ps : List Str} {k : Nat} {sp : L2.Sp} (F : Fun K x qual st f fd) (S : FnScope N ps (defScope st)) (many : ∀ vs H Q E, sp vs H Q E → vs.length = ps.length)
    (go : ∀ (c : Value) (B : Around) (fs : List Env) (z : Shared) (H : Hp) (vs : List V) (Q : VK) (E : XK), B.guards = some [] → Room k (B.deeper (envOfC qual (defScope st) z.heap.objs.size f c)) → sp vs H Q E →
      ∃ t, PSs (cxOf CX0 P w K mg base N qual (defScope st) f c B fs z H E).nox (defBody st) t ∧ t { nx := fun _ H2 => Q .non H2, rt := Q } (start N vs) H) : FnG P w K mg base (k + 1) f fd ps sp := by
  obtain ⟨oc, od, kV, doc, pm, an, c, ct, osl, rfl, lk, hc⟩ := F.ex
  refine ⟨many, fun B fs z H ws us vs Q E hg hr e0 hb r hsp => ?_⟩
  have kin : K.In z.heap := e0.mod.kin.keeps fun b o e => (e0.bs b o e).1
  have nl : z.heap.NoLimit := e0.mod.nolimit.keeps fun b o e => (e0.bs b o e).1
  have kinds : ∀ y ∈ ps.zip us, (defScope st).names.lookup y.1 = some .local ∨ ((defScope st).names.lookup y.1 = some .cell ∧ ((cellsFrom (z.heap.objs.size + 1) (defScope st).names []).lookup y.1).isSome = true) := by
    intro y hy
    rcases S.par y.1 (List.of_mem_zip hy).1 with q | q
    · exact .inl q
    · exact .inr ⟨q, PySem.W.cellsFrom_some _ _ _ (.inl q)⟩
  refine codeAny_call_function hr.depth (kin _ _ lk) rfl S.co S.gen rfl (PySem.W.codeRec_of kin hc) (hb _ _ _ _ (wpAny_newFunctionEnv_cells S.kind kinds fun env he z1 y => ?_))
  subst he
  obtain ⟨t, ht, hq⟩ := go c B fs z H vs Q E hg (hr.deeper _) hsp
  have I := inv_start (E := E) (CX := CX0) S hr.hd e0 (many _ _ _ _ hsp) r y
  refine ⟨nl.keeps y.toInCall.keep, codeAny_func (wpAny_mono (ht.nox.run [] z1 (start N vs) H _ I hq) (fun fl z2 hz => ?_) fun _ _ hz => hz)⟩
  cases fl with
  | next =>
    obtain ⟨σ2, H2, J, q⟩ := hz
    exact ⟨.non, H2, J.os, J.bare, J.base, J.hok, rfl, q⟩
  | ret u =>
    obtain ⟨v, σ2, H2, J, rv, q⟩ := hz
    exact ⟨v, H2, J.os, J.bare, J.base, J.hok, rv, q⟩
  | brk => exact hz.choose_spec.choose_spec.2.elim
  | cont => exact hz.choose_spec.choose_spec.2.elim
end
section
variable {X : Cx} {k : Nat} {x : Str} {ps : List Str} {sp : L2.Sp} {e : Expr} {es : List Expr} {t : TA} {p pos : Pos}
theorem pe_ownG (c : CalG X.prog X.w X.K X.mg X.base k x ps sp) (hu : X.A.guards = some []) (hr : Room k X.A) (hg : Gl X x) (ha : PA X (e :: es) t) (hdb : (x == ("__debug__" : Str)) = false := by decide)
    (he : starEach (e :: es) X.env = (false, eval e X.env) :: starEach es X.env := by rfl) (hpl : (backTo pos (starEach es X.env)).any (·.1) = false := by rfl) : PE X (.Call (.Name x p) (e :: es) [] pos) (tCall sp [] E0 t) := by
  obtain ⟨f, fd, F, m, kp, b⟩ := c.ex
  refine ⟨fun pins z σ H Q I h => ?_⟩
  refine wpAny_Call_Name_kw (ld_glob I hg m (PySem.W.callWith_K (h₀ := X.base) I.ok.mod.kin kp (thn (ha.run pos pins z σ H _ I h) fun us z1 ⟨vs, H1, J, r, q⟩ => ⟨J.kIn, ?_⟩) he hpl) hdb)
  have q0 : sp vs H1 Q E0 := by
    have q1 : sp (vs ++ []) H1 Q E0 := q
    rwa [List.append_nil] at q1
  have eq : us ++ [] = us := List.append_nil us
  have hb := b z1 us J.kIn (by rw [eq, ← r.length]; exact F.many _ _ _ _ q0)
  rw [eq] at hb
  refine wpAny_call (codeAny_mono (F.goes X.A X.stack z1 H1 ⟨us, []⟩ us vs Q E0 hu hr J.env0 hb r q0) fun res z2 hz => ?_)
  cases res with
  | error ex => exact pass0 pins σ H1 z1 ex z2 J hz
  | ok fl =>
    cases fl with
    | ret u => exact J.after hz
    | next => exact hz.elim
    | brk => exact hz.elim
    | cont => exact hz.elim
/-- repr of a list or a tuple of data -/
def rRepr (K : PySem.W.Frag) : List V → Hp → VK → Prop := fun xs H Q => ∃ (a : Addr) (d : PyData), xs = [.ref a] ∧ Dp K H (.ref a) d ∧ d.showable = true ∧ d.hasDict = false ∧ d.shown.length ≤ sizeLine ∧ d.depth ≤ 60 ∧ Q (.str d.shown) H
theorem call_repr (hu : X.A.guards = some []) (hr : Room k X.A) : CallR X (.builtin "repr") (rRepr X.K) := by
  intro pins z σ H xs us Q I r h
  obtain ⟨a, d, rfl, hd, h1, h2, h3, h4, q⟩ := h
  cases r with
  | cons ra rr =>
    cases rr
    obtain ⟨as, R⟩ := Dp.reads I d _ _ hd ra
    cases ra
    have := hr.units
    exact repr_of_reads' R h1 (PyData.noDict_hsm h2) hu (by omega) (fun _ _ e => e) (fun h' u tk hk => ⟨.str d.shown, H, I.kept (t' := tk) hk, ⟨u, rfl⟩, q⟩) h3
end
theorem show_ints : ∀ ns : List Int, (∀ n ∈ ns, n.natAbs.log2 < 60) → PyData.showableAll (ns.map PyData.int) = true ∧ PyData.leavesShortAll 61 (ns.map PyData.int) = true ∧ PyData.weightAll (ns.map PyData.int) ≤ 61 * ns.length
  | [], _ => ⟨rfl, rfl, Nat.zero_le _⟩
  | n :: ns, h => by
    obtain ⟨h1, h2, h3⟩ := show_ints ns fun m hm => h m (List.mem_cons_of_mem _ hm)
    have h0 := h n List.mem_cons_self
    refine ⟨?_, ?_, ?_⟩
    · rw [List.map_cons, PyData.showableAll, h1, PyData.showable, decide_eq_true (by omega)]
      rfl
    · rw [List.map_cons, PyData.leavesShortAll, h2, PyData.leavesShort]
      have e : (PyData.shown (.int n)).length ≤ 61 := by
        show (Str.ofString (toString n)).length ≤ 61
        rw [PySem.ofString_length]
        exact int_text_length_le (k := 60) (by decide) h0
      rw [decide_eq_true e]
      rfl
    · rw [List.map_cons, PyData.weightAll, PyData.weight, List.length_cons]
      split <;> omega
theorem log_small {n : Int} (h1 : -1000000000000000 ≤ n) (h2 : n ≤ 1000000000000000) : n.natAbs.log2 < 60 := by
  by_cases h0 : n.natAbs = 0
  · rw [h0]; decide
  · exact (Nat.log2_lt h0).mpr (by omega)
theorem shown_ints {ns : List Int} (hl : ns.length ≤ 1000) (h : ∀ n ∈ ns, n.natAbs.log2 < 60) : (di ns).showable = true ∧ (di ns).hasDict = false ∧ (di ns).shown.length ≤ sizeLine ∧ (di ns).depth ≤ 60 := by
  obtain ⟨h1, h2, h3⟩ := show_ints ns h
  refine ⟨?_, ?_, ?_, ?_⟩
  · rw [PyData.showable]; exact h1
  · exact PyData.hasDict_of_canLay _ (by rw [PyData.canLay0]; exact lay_ints ns)
  · have := PyData.shown_le 61 (by decide) (di ns) (by rw [PyData.leavesShort]; exact h2)
    rw [PyData.weight] at this
    have e : sizeLine = 16777216 := by decide
    omega
  · rw [PyData.depth, dep_ints]; decide
theorem repr_ints {K : PySem.W.Frag} {p : Addr} {ns : List Int} {H : Hp} {Q : VK} (h : SqL K H p (ns.map V.int)) (hl : ns.length ≤ 1000) (hb : ∀ n ∈ ns, n.natAbs.log2 < 60) (q : Q (.str (di ns).shown) H) : rRepr K [.ref p] H Q := by
  obtain ⟨h1, h2, h3, h4⟩ := shown_ints hl hb
  exact ⟨p, di ns, rfl, dp_ints h, h1, h2, h3, h4, q⟩
section
variable {P : Program} {w : World} {K : PySem.W.Frag} {mg mb : Str → Option Value} {k : Nat} {fa a : Addr} {fd : FuncData} {x : Str} {sp : L2.Sp} {z : Shared} {us : List Value} {ns : List Int}
/-- the outcome that a law wants of its call -/
def Held (z : Shared) : Result → Shared → Prop := fun r z2 => r = .ok (.ret (.bool true)) ∧ OldK z.heap z2.heap ∧ z2.os = z.os ∧ AllBare z2.gens
/-- from the heap in which u alone is tracked, at the script's place (or nothing) -/
theorem held_of {u : Option HO} (hu : ∀ v, u = some v → K.lookup a = none ∧ v = .frz { cls := .type "list", data := .seq us.toArray } (.lst (ns.map V.int)))
    (kin : K.In z.heap) (g : z.heap.Ns mainGlobals mg) (bn : z.heap.Ns builtinsNs mb) (bt : ∀ x : Str, x ≠ "__name__" → mb x = bootBuiltins x) (nl : z.heap.NoLimit) (gs : z.gens = #[])
    (at_ : z.heap.get? a = some { cls := .type "list", data := .seq us.toArray }) (rv : Vals (ns.map V.int) us) (len : ns.length ≤ sizeLine) (hr : Room k callerA)
    (F : ∀ base : Heap, K.In base → base.Ns mainGlobals mg → FnG P w K mg base k fa fd [x] sp) (bd : ∀ (s : Shared) (v : Value), BindsTo s fd ⟨[v], []⟩ [(x, v)])
    (hs : SqL K (fun b => if b = a then u else none) a (ns.map V.int)) (want : ∀ H : Hp, SqL K H a (ns.map V.int) → sp [.ref a] H (fun v _ => v = .bl true) fun _ _ _ => False) :
    codeAny (model P w) callerA (.call (.ref fa) ⟨[.ref a], []⟩) (Held z) z := by
  generalize hT : (fun b => if b = a then u else none : Hp) = T at hs
  have only : ∀ {b : Addr} {v : HO}, T b = some v → b = a ∧ u = some v := fun {b v} e => by
    rw [← hT] at e
    by_cases n : b = a
    · exact ⟨n, (if_pos n).symm.trans e⟩
    · exact absurd ((if_neg n).symm.trans e) (fun z => nomatch z)
  have off : ∀ {b : Addr} {o : Obj}, z.heap.get? b = some o → (∀ es, o.data ≠ .seq us.toArray es) → T b = none := fun {b o} e d => by
    cases q : T b with
    | none => rfl
    | some v =>
      obtain ⟨rfl, _⟩ := only q
      rw [at_] at e
      exact absurd (congrArg Obj.data (Option.some.inj e)).symm (d _)
  have names : ∀ {b : Addr} {m : Str → Option Value}, z.heap.Ns b m → (hidT z.heap T).Ns b m := fun {b m} n => by
    obtain ⟨o, es, ep, e, d, r⟩ := n
    exact ⟨o, es, ep, hidT_get e (off e fun es' q => by rw [d] at q; cases q), d, r⟩
  have kin2 : K.In (hidT z.heap T) := fun b o e => hidT_get (kin b o e) (by
    cases q : T b with
    | none => rfl
    | some v =>
      obtain ⟨rfl, q2⟩ := only q
      rw [(hu v q2).1] at e
      cases e)
  have ok : HOk P w T z.heap := fun b v e => by
    obtain ⟨rfl, q2⟩ := only e
    obtain ⟨_, rfl⟩ := hu v q2
    exact ⟨at_, by rw [List.length_map]; exact len, us, _, rv, at_⟩
  obtain ⟨mc, c1, c2⟩ := nl
  have e0 : Env0 P w K mg (hidT z.heap T) callerA [] z T := ⟨rfl, ⟨kin2, names g, ⟨mb, names bn, bt⟩, ⟨mc, names c1, c2⟩⟩, fun b o e => of_hidT e, Nat.le_of_eq (hidT_size _ _), trivial, (fun b hb => nomatch hb), ok, .of_eq gs⟩
  refine codeAny_mono ((F _ kin2 (names g)).goes callerA [] z T ⟨[.ref a], []⟩ [.ref a] [.ref a] _ _ rfl hr e0 (bd z (.ref a)) (.cons rfl .nil) (want T hs)) fun res z2 hz => ?_
  match res, hz with
  | .error e, hz => exact hz.elim
  | .ok .next, hz => exact hz.elim
  | .ok .brk, hz => exact hz.elim
  | .ok .cont, hz => exact hz.elim
  | .ok (.ret v), hz =>
    obtain ⟨y, T2, os, bare, un, ok2, ry, q⟩ := hz
    have q' : y = .bl true := q
    subst q'
    obtain rfl : v = Value.bool true := ry
    refine ⟨rfl, OldK.of_keep fun b o e => ?_, os, bare⟩
    cases q2 : T b with
    | none => exact un.keep b o e q2 (fun y => nomatch y) (fun y => nomatch y)
    | some v2 =>
      obtain ⟨rfl, q3⟩ := only q2
      obtain ⟨_, rfl⟩ := hu v2 q3
      rw [at_] at e
      cases e
      exact (ok2 b _ (un.frzs b _ _ q2)).1
end
/-- the head of a law whose def asks repr -/
theorem walkG {l : PySem.W.OpenLaw} {n k : Nat} {q : Program} {loose : List Str} {XP : (Str → Option Value) → Heap → Prop} {YP : World → Heap → Prop} {d : DefRec} {K : Params → PySem.W.Frag} {sp : PySem.W.Frag → L2.Sp} {x : Str} (most : l.most = some n) (le : n ≤ sizeLine)
    (nod : d.params.defaults = []) (hr : Room k callerA) (part : ∀ (w : World) (h : Heap), YP w h → (K w.params).In h)
    (F : ∀ (w : World) (mg : Str → Option Value) (fa : Addr) (h : Heap), (K w.params).In h → h.Ns mainGlobals mg → mg d.name = some (.ref fa) →
      ∃ fd : FuncData, (∀ (s : Shared) (v : Value), BindsTo s fd ⟨[v], []⟩ [(x, v)]) ∧ ∀ base : Heap, (K w.params).In base → base.Ns mainGlobals mg → FnG l.prog w (K w.params) mg base k fa fd [x] (sp (K w.params)))
    (want : ∀ (K : PySem.W.Frag) (H : Hp) (a : Addr) (ns : List Int), ns.length ≤ n → SqL K H a (ns.map V.int) → sp K [.ref a] H (fun v _ => v = .bl true) fun _ _ _ => False) :
    PySem.W.WalkO q loose XP YP l.row.toRowW d [] (fun f vs => PySem.call f vs) := by
  refine Att.attach_call most nod fun w s0 z mg mb fa o pm cd doc a us ns G Y ho hd hcd hmg at_ hi hl gs => ?_
  have kin := part w _ Y
  obtain ⟨fd, bd, FF⟩ := F w mg fa _ kin G.T.g hmg
  have rv := vals_ints hi
  have len : ns.length ≤ sizeLine := Nat.le_trans hl le
  cases hk : (K w.params).lookup a with
  | some o2 =>
    have e := kin a o2 hk
    rw [at_] at e
    cases e
    refine held_of (u := none) (fun _ e => nomatch e) kin G.T.g G.T.b G.T.builtins G.T.nolimit gs at_ rv len hr FF bd (.inr ⟨_, us.toArray, _, hk, rfl, rfl, rfl, ?_, by simpa using rv⟩) fun H h => want _ H a ns hl h
    rw [List.size_toArray, hi.length]
    exact len
  | none =>
    exact held_of (u := some (.frz { cls := .type "list", data := .seq us.toArray } (.lst (ns.map V.int)))) (fun v e => ⟨hk, (Option.some.inj e).symm⟩) kin G.T.g G.T.b G.T.builtins G.T.nolimit gs at_ rv len hr FF bd (.inl (.inr ⟨_, if_pos rfl⟩)) fun H h => want _ H a ns hl h
end Gd
namespace Sp
open PySem L2
/-! ### rows joined -/
def spDue2 (K : PySem.W.Frag) : L2.Sp := fun vs H Q _ => ∃ (p q : Addr) (ns ms : List Int), vs = [.ref p, .ref q] ∧ SqL K H p (ns.map V.int) ∧ SqL K H q (ms.map V.int) ∧ ns.length ≤ 1000 ∧ ms.length ≤ 1000 ∧ ns.Pairwise (· ≤ ·) ∧ ms.Pairwise (· ≤ ·) ∧
  ∀ (r : Addr) (js : List Int) (H' : Hp), Same H H' → H r = none → H' r = some (.lst (js.map V.int)) → js.Perm (ns ++ ms) → js.Pairwise (· ≤ ·) → Q (.ref r) H'
def spSame2 (K : PySem.W.Frag) : L2.Sp := fun vs H Q _ => ∃ (p q : Addr) (ns : List Int), vs = [.ref p, .ref q] ∧ SqL K H p (ns.map V.int) ∧ SqL K H q (ns.map V.int) ∧ ns.length ≤ 1000 ∧ (∀ n ∈ ns, n.natAbs.log2 < 60) ∧ Q (.bl true) H
/-- two lists that are emptied from behind into a third -/
structure Left (H0 H : Hp) (p q l f : Addr) (as bs fs : List Int) : Prop where
  same : Same H0 H
  hp : H p = some (.lst (as.map V.int))
  hq : H q = some (.lst (bs.map V.int))
  hl : H l = some (.lst [.ref p, .ref q])
  hf : H f = some (.lst (fs.map V.int))
structure Off4 (H0 : Hp) (p q l f : Addr) : Prop where
  np : H0 p = none
  nq : H0 q = none
  nf : H0 f = none
  pq : p ≠ q
  pl : p ≠ l
  pf : p ≠ f
  ql : q ≠ l
  qf : q ≠ f
  lf : l ≠ f
theorem Left.up {H0 H H' : Hp} {p q l f : Addr} {as bs fs : List Int} (a : Left H0 H p q l f as bs fs) (s : Same H H') : Left H0 H' p q l f as bs fs := ⟨a.same.trans s, s _ _ a.hp, s _ _ a.hq, s _ _ a.hl, s _ _ a.hf⟩
theorem same_set {H0 H : Hp} {p : Addr} {o : HO} (n : H0 p = none) (s : Same H0 H) : Same H0 (upd H p o) := fun c x e => by
  rw [upd_ne (ne_of_none e n)]
  exact s c x e
theorem Left.popP {H0 H : Hp} {p q l f : Addr} {as bs fs : List Int} (a : Left H0 H p q l f as bs fs) (d : Off4 H0 p q l f) : Left H0 (upd H p (.lst (as.map V.int).dropLast)) p q l f as.dropLast bs fs :=
  ⟨same_set d.np a.same, by rw [upd_same, List.map_dropLast], by rw [upd_ne d.pq.symm]; exact a.hq, by rw [upd_ne d.pl.symm]; exact a.hl, by rw [upd_ne d.pf.symm]; exact a.hf⟩
theorem Left.popQ {H0 H : Hp} {p q l f : Addr} {as bs fs : List Int} (a : Left H0 H p q l f as bs fs) (d : Off4 H0 p q l f) : Left H0 (upd H q (.lst (bs.map V.int).dropLast)) p q l f as bs.dropLast fs :=
  ⟨same_set d.nq a.same, by rw [upd_ne d.pq]; exact a.hp, by rw [upd_same, List.map_dropLast], by rw [upd_ne d.ql.symm]; exact a.hl, by rw [upd_ne d.qf.symm]; exact a.hf⟩
theorem Left.put {H0 H : Hp} {p q l f : Addr} {as bs fs : List Int} (a : Left H0 H p q l f as bs fs) (d : Off4 H0 p q l f) (y : Int) : Left H0 (upd H f (.lst (fs.map V.int ++ [V.int y]))) p q l f as bs (fs ++ [y]) :=
  ⟨same_set d.nf a.same, by rw [upd_ne d.pf]; exact a.hp, by rw [upd_ne d.qf]; exact a.hq, by rw [upd_ne d.lf]; exact a.hl, by rw [upd_same, map_app1]⟩
/-- what is emptied so far: sorted from behind, none of it lesser than what is left -/
structure Merge (ns ms as bs fs : List Int) : Prop where
  pm : (as ++ bs ++ fs).Perm (ns ++ ms)
  sa : as.Pairwise (· ≤ ·)
  sb : bs.Pairwise (· ≤ ·)
  sf : fs.Pairwise (fun x y => y ≤ x)
  la : ∀ x ∈ as, ∀ y ∈ fs, x ≤ y
  lb : ∀ x ∈ bs, ∀ y ∈ fs, x ≤ y
theorem snoc_of {as : List Int} {y : Int} (h : as[as.length - 1]? = some y) : as = as.dropLast ++ [y] := by
  have hl := (List.getElem?_eq_some_iff.mp h).1
  have hn : as ≠ [] := by intro z; rw [z] at hl; simp at hl
  have e := (List.getElem?_eq_some_iff.mp h).2
  rw [← List.getLast_eq_getElem hn] at e
  rw [← e]
  exact (List.dropLast_concat_getLast hn).symm
theorem below_last {as : List Int} {y : Int} (s : as.Pairwise (· ≤ ·)) (h : as[as.length - 1]? = some y) : ∀ x ∈ as, x ≤ y := by
  rw [snoc_of h] at s ⊢
  intro x hx
  rcases List.mem_append.mp hx with z | z
  · exact (List.pairwise_append.mp s).2.2 x z y (List.mem_singleton.mpr rfl)
  · rw [List.mem_singleton.mp z]
    exact Int.le_refl _
theorem Merge.popA {ns ms as bs fs : List Int} {y : Int} (m : Merge ns ms as bs fs) (h : as[as.length - 1]? = some y) (hb : ∀ x ∈ bs, x ≤ y) : Merge ns ms as.dropLast bs (fs ++ [y]) := by
  have e := snoc_of h
  have ya : y ∈ as := by rw [e]; simp
  have sub : ∀ x ∈ as.dropLast, x ∈ as := fun x hx => List.dropLast_subset as hx
  refine ⟨?_, m.sa.sublist (List.dropLast_sublist as), m.sb, List.pairwise_append.mpr ⟨m.sf, List.pairwise_singleton _ _, fun z hz w hw => ?_⟩, fun x hx z hz => ?_, fun x hx z hz => ?_⟩
  · refine List.Perm.trans ?_ m.pm
    refine (List.perm_iff_count).mpr fun z => ?_
    have c : List.count z as = List.count z as.dropLast + List.count z [y] := by rw [← List.count_append, ← e]
    simp only [List.count_append]
    omega
  · rw [List.mem_singleton.mp hw]; exact m.la y ya z hz
  · rcases List.mem_append.mp hz with k | k
    · exact m.la x (sub x hx) z k
    · rw [List.mem_singleton.mp k]; exact below_last m.sa h x (sub x hx)
  · rcases List.mem_append.mp hz with k | k
    · exact m.lb x hx z k
    · rw [List.mem_singleton.mp k]; exact hb x hx
theorem Merge.popB {ns ms as bs fs : List Int} {y : Int} (m : Merge ns ms as bs fs) (h : bs[bs.length - 1]? = some y) (ha : ∀ x ∈ as, x ≤ y) : Merge ns ms as bs.dropLast (fs ++ [y]) := by
  have e := snoc_of h
  have yb : y ∈ bs := by rw [e]; simp
  have sub : ∀ x ∈ bs.dropLast, x ∈ bs := fun x hx => List.dropLast_subset bs hx
  refine ⟨?_, m.sa, m.sb.sublist (List.dropLast_sublist bs), List.pairwise_append.mpr ⟨m.sf, List.pairwise_singleton _ _, fun z hz w hw => ?_⟩, fun x hx z hz => ?_, fun x hx z hz => ?_⟩
  · refine List.Perm.trans ?_ m.pm
    refine (List.perm_iff_count).mpr fun z => ?_
    have c : List.count z bs = List.count z bs.dropLast + List.count z [y] := by rw [← List.count_append, ← e]
    simp only [List.count_append]
    omega
  · rw [List.mem_singleton.mp hw]; exact m.lb y yb z hz
  · rcases List.mem_append.mp hz with k | k
    · exact m.la x hx z k
    · rw [List.mem_singleton.mp k]; exact ha x hx
  · rcases List.mem_append.mp hz with k | k
    · exact m.lb x (sub x hx) z k
    · rw [List.mem_singleton.mp k]; exact below_last m.sb h x (sub x hx)
theorem Merge.begin {ns ms : List Int} (h1 : ns.Pairwise (· ≤ ·)) (h2 : ms.Pairwise (· ≤ ·)) : Merge ns ms ns ms [] := ⟨by rw [List.append_nil], h1, h2, List.Pairwise.nil, (fun _ _ _ h => nomatch h), (fun _ _ _ h => nomatch h)⟩
theorem Merge.ends {ns ms fs : List Int} (m : Merge ns ms [] [] fs) : fs.reverse.Perm (ns ++ ms) ∧ fs.reverse.Pairwise (· ≤ ·) := ⟨(List.reverse_perm fs).trans m.pm, List.pairwise_reverse.mpr m.sf⟩
theorem last_at {as : List Int} (h : as ≠ []) : ∃ y, as[as.length - 1]? = some y := ⟨_, List.getElem?_eq_getElem (by have := List.length_pos_iff.mpr h; omega)⟩
theorem at_last {as : List Int} {y : Int} (h : as[as.length - 1]? = some y) : atI (as.map V.int) (-1) = some (.int y) := by
  have hl := (List.getElem?_eq_some_iff.mp h).1
  unfold atI
  rw [List.length_map]
  have e : ixN as.length (-1) = some (as.length - 1) := by
    unfold ixN
    rw [if_neg (by omega), if_pos (by omega)]
    congr 1
    omega
  rw [e]
  show (as.map V.int)[as.length - 1]? = _
  rw [List.getElem?_map, h]
  rfl
theorem map_last {as : List Int} {y : Int} (h : as[as.length - 1]? = some y) : (as.map V.int)[(as.map V.int).length - 1]? = some (.int y) := by
  rw [List.length_map, List.getElem?_map, h]
  rfl
/-- two rows in a pair, both new -/
def spTwo2 : L2.Sp := fun vs H Q _ => ∃ (a : Addr) (b : Bool), vs = [.ref a, .bl b] ∧ HandAt H a ∧
  ∀ (t p q : Addr) (ns ms : List Int) (H' : Hp), Ext a H H' → H' t = some (.tup [.ref p, .ref q]) → t ≠ a → RowAt H' a p ns → RowAt H' a q ms → H p = none → H q = none → Q (.ref t) H'
/-- all stays but what stands at l -/
def Kp (l : Addr) (H H' : Hp) : Prop := ∀ b o, H b = some o → b ≠ l → H' b = some o
theorem Kp.refl {l : Addr} {H : Hp} : Kp l H H := fun _ _ h _ => h
theorem Kp.trans {l : Addr} {H H1 H2 : Hp} (a : Kp l H H1) (b : Kp l H1 H2) : Kp l H H2 := fun c o h n => b c o (a c o h n) n
theorem Kp.same {l : Addr} {H H' : Hp} (s : Same H H') : Kp l H H' := fun c o h _ => s c o h
theorem Kp.set {l : Addr} {H : Hp} {o : HO} : Kp l H (upd H l o) := fun c x h n => by rw [upd_ne n]; exact h
theorem Kp.made {l : Addr} {H H1 H2 : Hp} (s : Same H H1) (k : Kp l H1 H2) (n : H l = none) : Same H H2 := fun c o h => k c o (s c o h) (ne_of_none h n)
/-- both lists of a pair of lists are alike -/
def Ent (H : Hp) (l e : Addr) : Prop := ∃ (u v : Addr) (js : List Int), e ≠ l ∧ u ≠ l ∧ v ≠ l ∧ H e = some (.lst [.ref u, .ref v]) ∧ H u = some (.lst (js.map V.int)) ∧ H v = some (.lst (js.map V.int)) ∧ js.length ≤ 1000 ∧ ∀ n ∈ js, n.natAbs.log2 < 60
theorem Ent.up {H H' : Hp} {l e : Addr} (k : Kp l H H') (x : Ent H l e) : Ent H' l e := by
  obtain ⟨u, v, js, n1, n2, n3, e1, e2, e3, r⟩ := x
  exact ⟨u, v, js, n1, n2, n3, k _ _ e1 n1, k _ _ e2 n2, k _ _ e3 n3, r⟩
/-- within a comprehension: the written part by its own name -/
theorem ix_listK {X : Cx} {K : PySem.W.Frag} (hK : X.K = K) : IxR X (rIxL K) := hK ▸ ix_list
end Sp

/-! a lambda of one name, handed to a def as its fourth argument. -/
namespace Lm
open PySem PySem.Spec PyProof.Rows L2 LamX NdefX
/-- a lambda's words, as a function of the layer; its body is told apart -/
abbrev lamF (qual : Str) (params : Arguments) (scope : Scope) (cl : List (Str × Addr)) (c : Addr) : NF := ⟨"<lambda>", qual, params, [], scope, cl, c⟩
section
variable {P : Program} {w : World} {K : PySem.W.Frag} {mg : Str → Option Value} {base : Heap} {N fr : List Str} {F : NF} {y : Str} {body : Expr} {f : Addr} {pm ctv u : Value} {A : Around} {outer : List Env} {s : Shared} {H : Hp} {ws : List (Option V)} {v : V} {tb : TE} {Q : VK} {k : Nat}
/-- it runs -/
theorem run_lam (S : NScope N [y] fr F.scope) (hb : bindArgs (PySem.W.kla_fn "<lambda>" F.qual F.params body F.scope F.cl pm (.ref F.c) ctv) ⟨[u], []⟩ = pure [(y, u)]) (room : Room (k + 1) A) (e0 : Env0 P w K mg base A outer s H)
    (at_ : s.heap.get? f = some (PySem.W.kla_obj "<lambda>" F.qual F.params body F.scope F.cl pm F.c ctv)) (cd : H F.c = some (CodeO F.c F.qual)) (C : CellsAt F.cl fr ws s.heap H) (rv : RelV v u)
    (go : Room k (A.deeper (envF F f s.heap.objs.size)) → PE (ncx L2.CX0 P w K mg base N F f A outer s H L2.E0) body tb) (q : tb (startF N [v] ws) H Q) :
    codeAny (model P w) A (.call (.ref f) ⟨[u], []⟩) (CR L2.CX0 outer P w H s Q L2.E0) s := by
  have nl : s.heap.NoLimit := e0.mod.nolimit.keeps fun b o e => (e0.bs b o e).1
  refine PySem.W.kla_callFunE room.depth at_ rfl S.co S.gen rfl (codeO_at e0.hok cd) ?_
  rw [hb]
  refine wpAny_pure (wpAny_newFunctionEnv (fun z hz => S.nocell z hz) (fun z hz => ?_) (fun h1 hn hs => ⟨nl.fresh _ hs, ?_⟩) S.kind)
  · obtain rfl : z = (y, u) := List.mem_singleton.mp hz
    exact S.par y (List.mem_singleton.mpr rfl)
  have keep : ∀ b o, s.heap.get? b = some o → h1.get? b = some o := fun b o e => hs.extBut b o (Nat.ne_of_lt (Heap.lt_size e)) (Heap.get?_push_of_some _ e)
  have J := inv_startN (E := L2.E0) (CX := L2.CX0) (f := f) (tk := s.toks + [(y, u)].length) S room.hd e0 (vs := [v]) (us := [u]) rfl (.cons rv .nil) C hn keep
  refine PySem.W.kla_codeExpr (wpAny_mono ((go (room.deeper _)).run [] _ _ H Q J q) (fun a z hz => ?_) fun _ _ hz => hz)
  obtain ⟨a', H2, J2, ra, q2⟩ := hz
  exact ⟨a', H2, J2.os, J2.bare, J2.base, J2.hok, ra, q2⟩
end
section
variable {X : Cx} {pins : List (Addr × Obj)} {σ : L2.St} {H : Hp} {s : Shared}
/-- what captured cells hold stays, whatever the running def's callers' frames are -/
theorem later {cl : List (Str × Addr)} {fr : List Str} {ws : List (Option V)} (C : CellsAt cl fr ws X.s_0.heap X.H_0) (hx : ∀ y c, cl.lookup y = some c → c ∉ X.ex) (I : Inv X pins σ H s) : CellsAt cl fr ws s.heap H := by
  have stay : ∀ y c, cl.lookup y = some c → ∀ v, X.s_0.heap.IsCell c v → s.heap.IsCell c v := fun y c e v z => by
    obtain ⟨o, ho, hd⟩ := z
    obtain ⟨sl, q⟩ := I.base.any ho (C.all y c e).1 (hx y c e)
    exact ⟨_, q, hd⟩
  refine ⟨C.len, fun y c e => ?_, C.inj, fun i y e => ?_⟩
  · obtain ⟨n, v, z⟩ := C.all y c e
    obtain ⟨o, ho, hd⟩ := id z
    exact ⟨I.base.free c o ho n (hx y c e), v, stay y c e v z⟩
  · obtain ⟨c, hc, hv⟩ := C.has i y e
    refine ⟨c, hc, fun v ev => ?_⟩
    obtain ⟨u, r, z⟩ := hv v ev
    exact ⟨u, r, stay y c hc _ z⟩
/-- a(e), in the def that got the lambda as its name a: Z is that def's context, entered at s -/
theorem pe_act {Ng N fr : List Str} {qg : Str} {sg : Scope} {g f : Addr} {cdg pm ctv : Value} {F : NF} {y a : Str} {body e : Expr} {ws : List (Option V)} {k i : Nat} {te tb : TE} {p1 p2 : Pos} (S : NScope N [y] fr F.scope)
    (hb : ∀ (pm ctv u : Value), bindArgs (PySem.W.kla_fn "<lambda>" F.qual F.params body F.scope F.cl pm (.ref F.c) ctv) ⟨[u], []⟩ = pure [(y, u)]) (at_ : s.heap.get? f = some (PySem.W.kla_obj "<lambda>" F.qual F.params body F.scope F.cl pm F.c ctv)) (off : H f = none) (nfr : f ∉ frs X.stack)
    (C : CellsAt F.cl fr ws s.heap H) (room : Room (k + 1) (X.A.deeper (envOfC qg sg s.heap.objs.size g cdg)))
    (go : ∀ (A : Around) (outer : List Env) (s : Shared) (H : Hp), Room k (A.deeper (envF F f s.heap.objs.size)) → PE (ncx L2.CX0 X.prog X.w X.K X.mg X.base N F f A outer s H L2.E0) body tb)
    (he : PE (cxOf L2.CX0 X.prog X.w X.K X.mg X.base Ng qg sg g cdg X.A X.stack s H L2.E0).nox e te) (hN : Ng[i]? = some a) (hv : Vis sg a) (h1 : (a == ("__debug__" : Str)) = false := by decide) (h2 : (a == ("__classdict__" : Str)) = false := by decide)
    (hs : starEach [e] (cxOf L2.CX0 X.prog X.w X.K X.mg X.base Ng qg sg g cdg X.A X.stack s H L2.E0).nox.env = (false, eval e (cxOf L2.CX0 X.prog X.w X.K X.mg X.base Ng qg sg g cdg X.A X.stack s H L2.E0).nox.env) :: starEach [] (cxOf L2.CX0 X.prog X.w X.K X.mg X.base Ng qg sg g cdg X.A X.stack s H L2.E0).nox.env := by rfl) :
    PE (cxOf L2.CX0 X.prog X.w X.K X.mg X.base Ng qg sg g cdg X.A X.stack s H L2.E0).nox (.Call (.Name a p1) [e] [] p2)
      (fun σZ HZ Q => σZ[i]? = some (some (.ref f)) ∧ te σZ HZ fun v H2 => H2 F.c = some (CodeO F.c F.qual) ∧ tb (startF N [v] ws) H2 Q) := by
  refine ⟨fun pz z σZ HZ Q J h => ?_⟩
  obtain ⟨slot, h⟩ := h
  refine wpAny_Call_Name_kw (thn ((pe_var (pos := p1) (i := i) hN hv h1 h2).run pz z σZ HZ (fun v H1 => v = .ref f ∧ H1 = HZ) J ⟨.ref f, slot, rfl, rfl⟩) fun u z1 ⟨v, H1, J1, r1, q1⟩ => ?_)
  obtain ⟨rfl, rfl⟩ := q1
  obtain rfl : u = Value.ref f := r1
  have stays : ∀ {pz : List (Addr × Obj)} {σ2 : L2.St} {H2 : Hp} {z2 : Shared}, Inv (cxOf L2.CX0 X.prog X.w X.K X.mg X.base Ng qg sg g cdg X.A X.stack s H L2.E0).nox pz σ2 H2 z2 → z2.heap.get? f = some (PySem.W.kla_obj "<lambda>" F.qual F.params body F.scope F.cl pm F.c ctv) :=
    fun J2 => J2.base.keep f _ at_ off nfr (fun z => nomatch (show f ∈ ([] : List Addr) from z))
  refine PySem.W.callWith_F (first := []) ⟨_, _, _, _, stays J1⟩ (thn ((pa_cons he pa_nil hs).run p2 pz z1 σZ H1 (fun vs H2 => match vs with | [v] => H2 F.c = some (CodeO F.c F.qual) ∧ tb (startF N [v] ws) H2 Q | _ => False) J1 h) fun us z2 ⟨vs, H2, J2, r, hq⟩ => ⟨⟨_, _, _, _, stays J2⟩, ?_⟩) hs (by rfl)
  match r, hq with
  | .cons ra .nil, hq =>
    obtain ⟨hc, hq⟩ := hq
    have C2 : CellsAt F.cl fr ws z2.heap H2 := later (X := (cxOf L2.CX0 X.prog X.w X.K X.mg X.base Ng qg sg g cdg X.A X.stack s H L2.E0).nox) C (fun _ _ _ z => nomatch (show _ ∈ ([] : List Addr) from z)) J2
    refine wpAny_call (codeAny_mono (run_lam (k := k) S (hb pm ctv _) room J2.env0 (stays J2) hc C2 ra (go _ _ _ _) hq) fun res z3 hz => ?_)
    cases res with
    | error ex => exact hz.elim
    | ok fl =>
      cases fl with
      | ret u => exact J2.after hz
      | next => exact hz.elim
      | brk => exact hz.elim
      | cont => exact hz.elim
/-- what a def does with a reading tl of the function that it gets, told of three values -/
abbrev Tell := (V → Hp → VK → Prop) → V → V → V → Hp → VK → Prop
/-- the def that calls what it got under the name a -/
def Gets (P : Program) (w : World) (K : PySem.W.Frag) (mg : Str → Option Value) (base : Heap) (Ng : List Str) (x : Str) (st : Stmt) (g : Addr) (a : Str) (k : Nat) (TT : Tell) : Prop :=
  ∀ (cdg : Value) (A : Around) (outer : List Env) (s : Shared) (H : Hp) (v1 v2 v3 : V) (f : Addr) (Q : VK) (tl : V → Hp → VK → Prop), Room k (A.deeper (envOfC x (defScope st) s.heap.objs.size g cdg)) →
    (∀ (e : Expr) (te : TE) (p1 p2 : Pos), PE (cxOf L2.CX0 P w K mg base Ng x (defScope st) g cdg A outer s H L2.E0).nox e te →
      starEach [e] (cxOf L2.CX0 P w K mg base Ng x (defScope st) g cdg A outer s H L2.E0).nox.env = (false, eval e (cxOf L2.CX0 P w K mg base Ng x (defScope st) g cdg A outer s H L2.E0).nox.env) :: starEach [] (cxOf L2.CX0 P w K mg base Ng x (defScope st) g cdg A outer s H L2.E0).nox.env →
      PE (cxOf L2.CX0 P w K mg base Ng x (defScope st) g cdg A outer s H L2.E0).nox (.Call (.Name a p1) [e] [] p2) (fun σZ HZ Q => σZ[3]? = some (some (.ref f)) ∧ te σZ HZ fun v H2 => tl v H2 Q)) →
    TT tl v1 v2 v3 H Q →
    ∃ t, PSs (cxOf L2.CX0 P w K mg base Ng x (defScope st) g cdg A outer s H L2.E0).nox (defBody st) t ∧ t { nx := fun _ H2 => Q .non H2, rt := Q } (start Ng [v1, v2, v3, .ref f]) H
def tLam4 (T : List (Addr × Str)) (q : Str) (TT : Tell) (N : List Str) (js : List Nat) (t1 t2 t3 tb : TE) : TE := fun σ H Q => t1 σ H fun v1 H1 => t2 σ H1 fun v2 H2 => t3 σ H2 fun v3 H3 => Tabs T H3 ∧
  ∀ (c : Addr) (H4 : Hp), ExtN H3 H4 → Tabs T H4 → H4 c = some (CodeO c q) → TT (fun v H5 Q2 => H5 c = some (CodeO c q) ∧ tb (startF N [v] (js.map (slotAt σ))) H5 Q2) v1 v2 v3 H4 Q
/-- x(e1, e2, e3, lambda y: body) -/
theorem pe_lam4 {T : List (Addr × Str)} {TT : Tell} {x a y : Str} {g c P : Addr} {k : Nat} {st : Stmt} {fdg : FuncData} {Ng N fr : List Str} {js : List Nat} {ps : List Str} {params : Arguments} {body e1 e2 e3 : Expr} {scope : Scope} {t1 t2 t3 tb : TE} {p lpos pos : Pos}
    (Fg : Fun X.K x x st g fdg) (Sg : FnScope Ng ps (defScope st)) (hm : X.mg x = some (.ref g)) (hgl : Gl X x) (hbg : Binds X.K fdg ps []) (hps : ps.length = 4) (hNg : Ng[3]? = some a) (hva : Vis (defScope st) a)
    (hG : Gets X.prog X.w X.K X.mg X.base Ng x st g a (k + 1) TT)
    (TB : TabB X.base X.mg c P) (hcode : X.env.code = .ref c) (hmT : (P, X.env.qual ++ "<lambda>") ∈ T) (hu : ∀ p ∈ T, p.1 = P → p.2 = X.env.qual ++ "<lambda>") (hr : Room (k + 2) X.A)
    (S : NScope N [y] fr scope) (hfree : ∀ y ∈ scope.names, y.2 = .free → X.env.scope.names.lookup y.1 = some .cell ∨ X.env.scope.names.lookup y.1 = some .free) (hfr : ∀ y ∈ fr, (y, NameKind.free) ∈ scope.names) (hjs : js.map (fun j => X.N[j]?) = fr.map some)
    (hdef : defaultsOf params X.env = ([], [])) (hb : ∀ (q : Str) (cl : List (Str × Addr)) (pm cv ctv u : Value), bindArgs (PySem.W.kla_fn "<lambda>" q params body scope cl pm cv ctv) ⟨[u], []⟩ = pure [(y, u)])
    (go : ∀ (q : Str) (cl : List (Str × Addr)) (c f : Addr) (A : Around) (outer : List Env) (s : Shared) (H : Hp), Room k (A.deeper (envF (lamF q params scope cl c) f s.heap.objs.size)) → PE (ncx L2.CX0 X.prog X.w X.K X.mg X.base N (lamF q params scope cl c) f A outer s H L2.E0) body tb)
    (h1 : PE X e1 t1) (h2 : PE X e2 t2) (h3 : PE X e3 t3)
    (hdb : (x == ("__debug__" : Str)) = false := by decide) (hd : (a == ("__debug__" : Str)) = false := by decide) (hcd : (a == ("__classdict__" : Str)) = false := by decide)
    (z1 : starEach [e1, e2, e3, .Lambda params body scope lpos] X.env = (false, eval e1 X.env) :: starEach [e2, e3, .Lambda params body scope lpos] X.env := by rfl) (z2 : starEach [e2, e3, .Lambda params body scope lpos] X.env = (false, eval e2 X.env) :: starEach [e3, .Lambda params body scope lpos] X.env := by rfl)
    (z3 : starEach [e3, .Lambda params body scope lpos] X.env = (false, eval e3 X.env) :: starEach [.Lambda params body scope lpos] X.env := by rfl) (hpl : (backTo pos (starEach [e2, e3, .Lambda params body scope lpos] X.env)).any (·.1) = false := by rfl) :
    PE X (.Call (.Name x p) [e1, e2, e3, .Lambda params body scope lpos] [] pos) (tLam4 T (X.env.qual ++ "<lambda>") TT N js t1 t2 t3 tb) := by
  refine ⟨fun pins s σ H Q I h => ?_⟩
  refine wpAny_Call_Name_kw (ld_glob I hgl hm ?_ hdb)
  refine PySem.W.callWith_K (h₀ := X.base) I.ok.mod.kin Fg.kp ?_ z1 hpl
  rw [z1]
  show wpAny _ _ (spliced ((false, eval e1 X.env) :: backTo pos (starEach [e2, e3, .Lambda params body scope lpos] X.env))) _ _ s
  refine Calls.spliced_cons (thn (h1.run pins s σ H _ I h) fun u1 s1 ⟨v1, H1, I1, r1, h⟩ => ?_)
  rw [z2]
  show wpAny _ _ (spliced ((false, eval e2 X.env) :: backTo pos (starEach [e3, .Lambda params body scope lpos] X.env))) _ _ s1
  refine Calls.spliced_cons (thn (h2.run pins s1 σ H1 _ I1 h) fun u2 s2 ⟨v2, H2, I2, r2, h⟩ => ?_)
  rw [z3]
  show wpAny _ _ (spliced ((false, eval e3 X.env) :: backTo pos (starEach [.Lambda params body scope lpos] X.env))) _ _ s2
  refine Calls.spliced_cons (thn (h3.run pins s2 σ H2 _ I2 h) fun u3 s3 ⟨v3, H3, I3, r3, hT, h⟩ => ?_)
  show wpAny _ _ (spliced ((false, eval (.Lambda params body scope lpos) X.env) :: backTo pos (starEach [] X.env))) _ _ s3
  have hfree' : ∀ y ∈ scope.names, y.2 = .free → ∃ c, X.env.cells.lookup y.1 = some c := fun y hy e => (hfree y hy e).elim (fun z => I3.ok.has _ (.inl z)) fun z => I3.ok.has _ (.inr z)
  refine Calls.spliced_cons (lam_make2 I3 TB hcode hmT hu hT hdef hfree' fun f c' pm ctv H4 s4 I4 x4 T4 at_ off nfr hc => ?_)
  refine Calls.spliced_nil ⟨I4.kIn, ?_⟩
  have caps := Caps.made (fr := fr) (js := js) I4.ok hfree hfr hjs
  have C := cells_of I4 caps
  obtain ⟨oc, od, kV, doc, pmg, an, cdv, ct, osl, rfl, lk, hcd2⟩ := Fg.ex
  have rc : codeAny (model X.prog X.w) X.A (.call (.ref g) ⟨[u1, u2, u3, .ref f], []⟩) (CR L2.CX0 X.stack X.prog X.w H4 s4 Q L2.E0) s4 := by
    have bd := hbg s4 [u1, u2, u3, .ref f] I4.kIn (by rw [hps]; rfl)
    refine run_ofS (k := k + 1) (N := Ng) (ps := ps) (us := [u1, u2, u3, .ref f]) (vs := [v1, v2, v3, .ref f]) lk hcd2 Sg hr I4.env0 bd (.cons r1 (.cons r2 (.cons r3 (.cons rfl .nil)))) (by rw [hps]; rfl) fun hr' => ?_
    obtain ⟨t', ht', hq'⟩ := hG cdv X.A X.stack s4 H4 v1 v2 v3 f Q (fun v H5 Q2 => H5 c' = some (CodeO c' (X.env.qual ++ "<lambda>")) ∧ tb (startF N [v] (js.map (slotAt σ))) H5 Q2) hr'
      (fun e te p1 p2 he hs => pe_act (F := lamF (X.env.qual ++ "<lambda>") params scope (cloFrom X.env.cells scope.names []) c') (i := 3) S (fun pm ctv u => hb _ _ _ _ _ _) at_ off nfr C hr' (fun A outer s H hr2 => go _ _ _ _ A outer s H hr2) he hNg hva hd hcd hs) (h c' H4 x4 T4 hc)
    exact ⟨t', ht'.nox, hq'⟩
  refine wpAny_call (codeAny_mono rc fun r s2 hq => ?_)
  cases r with
  | error e => exact hq.elim
  | ok fl =>
    cases fl with
    | ret u => exact I4.after hq
    | next => exact hq.elim
    | brk => exact hq.elim
    | cont => exact hq.elim
end
/-- a def of the text whose code object stands at c -/
structure FunC (K : PySem.W.Frag) (x qual : Str) (st : Stmt) (f : Addr) (fd : FuncData) (c : Addr) : Prop where
  ex : ∃ (oc : Value) (od : Option Addr) (kV doc pm : Value) (an : Option Addr) (ct : Value) (osl : Array (Option Value)),
    fd = PySem.W.fnOf x qual (defArgs st) (defBody st) (defScope st) .none kV doc pm an (.ref c) ct ∧ K.lookup f = some ⟨oc, od, .func fd, osl⟩ ∧ PySem.W.codeIn K (.ref c) qual = true
  kp : PySem.W.keepIn K (.ref f) = true
theorem FunC.fun {K : PySem.W.Frag} {x qual : Str} {st : Stmt} {f : Addr} {fd : FuncData} {c : Addr} (F : FunC K x qual st f fd c) : L2.Fun K x qual st f fd := by
  obtain ⟨oc, od, kV, doc, pm, an, ct, osl, e, l, h⟩ := F.ex
  exact ⟨⟨oc, od, kV, doc, pm, an, .ref c, ct, osl, e, l, h⟩, F.kp⟩
theorem func_mk {K : PySem.W.Frag} {x qual : Str} {st : Stmt} {f c : Addr} {oc : Value} {od an : Option Addr} {osl : Array (Option Value)} {kV doc pm ct : Value} (l : K.lookup f = some ⟨oc, od, .func (PySem.W.fnOf x qual (defArgs st) (defBody st) (defScope st) .none kV doc pm an (.ref c) ct), osl⟩)
    (h : PySem.W.codeIn K (.ref c) qual = true) (k : PySem.W.keepIn K (.ref f) = true) : FunC K x qual st f (PySem.W.fnOf x qual (defArgs st) (defBody st) (defScope st) .none kV doc pm an (.ref c) ct) c := ⟨⟨oc, od, kV, doc, pm, an, ct, osl, rfl, l, h⟩, k⟩
theorem FunC.ok {P : Program} {w : World} {K : PySem.W.Frag} {mg : Str → Option Value} {base : Heap} {x qual : Str} {st : Stmt} {f c : Addr} {fd : FuncData} {N ps : List Str} {k : Nat} {sp : L2.Sp} (F : FunC K x qual st f fd c) (S : FnScope N ps (defScope st)) (many : ∀ vs H Q E, sp vs H Q E → vs.length = ps.length)
    (go : ∀ (A : Around) (outer : List Env) (s : Shared) (H : Hp) (vs : List V) (Q : VK) (E : XK), Room k (A.deeper (envOfC qual (defScope st) s.heap.objs.size f (.ref c))) → sp vs H Q E →
      ∃ t, PSs (cxOf L2.CX0 P w K mg base N qual (defScope st) f (.ref c) A outer s H E).nox (defBody st) t ∧ t { nx := fun _ H2 => Q .non H2, rt := Q } (start N vs) H) : FnOk P w K mg base L2.CX0 (k + 1) f fd ps sp := by
  obtain ⟨oc, od, kV, doc, pm, an, ct, osl, rfl, l, h⟩ := F.ex
  exact fn_of l h S many fun A outer s H vs Q E hr q => (go A outer s H vs Q E hr q).imp fun t z => ⟨z.1.nox, z.2⟩
/-- where the table of a def's code object lies -/
theorem tab_at {K : PySem.W.Frag} {x qual : Str} {st : Stmt} {f c P : Addr} {oc e : Value} {od dd an : Option Addr} {osl sl : Array (Option Value)} {kV doc pm ct : Value} {vs : Array Value} (a : PySem.W.nsIn K mainGlobals x = some (some (.ref f)))
    (l : K.lookup f = some ⟨oc, od, .func (PySem.W.fnOf x qual (defArgs st) (defBody st) (defScope st) .none kV doc pm an (.ref c) ct), osl⟩) (lc : K.lookup c = some ⟨e, dd, .fields vs, sl⟩) (h : vs[11]? = some (.ref P)) : PySem.W.tabIn K x = some (c, P) := by
  unfold PySem.W.tabIn
  rw [a]
  dsimp only
  rw [l]
  dsimp only [PySem.W.fnOf]
  rw [lc]
  dsimp only
  rw [h]
/-- the search for a number, halving: what number_at does with the count that it gets -/
def TNum : Tell := fun tl v1 v2 v3 H Q => ∃ (n lo hi : Int) (G : Int → Int), v1 = .int n ∧ v2 = .int lo ∧ v3 = .int hi ∧ (∀ m H1 Q2, Same H H1 → (∀ H2, Same H1 H2 → Q2 (.int (G m)) H2) → tl (.int m) H1 Q2) ∧ lo ≤ hi ∧ G lo ≤ n ∧ n < G (hi + 1) ∧
  ∀ r H1, Same H H1 → lo ≤ r → r ≤ hi → G r ≤ n → n < G (r + 1) → Q (.int r) H1
end Lm

/-! the head of a law some of whose defs make a lambda: tables of code objects are tracked from the start. -/
namespace Gd
open PySem PySem.Spec PyProof.Rows L2 Sp LamX
theorem FnG.of {P : Program} {w : World} {K : PySem.W.Frag} {mg : Str → Option Value} {base : Heap} {k : Nat} {f : Addr} {fd : FuncData} {ps : List Str} {sp : L2.Sp} (F : FnOk P w K mg base CX0 k f fd ps sp) : FnG P w K mg base k f fd ps sp :=
  ⟨F.len, fun B fs z H ws us vs Q E _ hr e0 b r h => F.run B fs z H ws us vs Q E hr e0 b r h⟩
section
variable {P : Program} {w : World} {K : PySem.W.Frag} {mg mb : Str → Option Value} {k : Nat} {fa a : Addr} {fd : FuncData} {x : Str} {sp : L2.Sp} {z : Shared} {us : List Value} {ns : List Int}
/-- tracked: u at the script's place, an empty table at each place of ts -/
def firstH (a : Addr) (u : Option HO) (ts : List Addr) : Hp := fun b => if b = a then u else if b ∈ ts then some (.tbl #[]) else none
/-- the module's own dict is known -/
abbrev MainAt (mg : Str → Option Value) (h : Heap) : Prop := ∃ (bm : Addr) (ob : Obj), mg "__builtins__" = some (.ref bm) ∧ bm ≠ builtinsNs ∧ h.get? bm = some ob ∧ ob.cls = .type "module" ∧ ob.dict = some builtinsNs ∧ ob.data = .plain
theorem held_ofT {cs : List (Addr × Addr)} {u : Option HO} (hu : ∀ v, u = some v → K.lookup a = none ∧ v = .frz { cls := .type "list", data := .seq us.toArray } (.lst (ns.map V.int)))
    (kin : K.In z.heap) (g : z.heap.Ns mainGlobals mg) (bn : z.heap.Ns builtinsNs mb) (bt : ∀ x : Str, x ≠ "__name__" → mb x = bootBuiltins x) (nl : z.heap.NoLimit) (gs : z.gens = #[]) (bm : MainAt mg z.heap)
    (empty : ∀ p ∈ cs, z.heap.get? p.2 = some { cls := .none, data := .fields #[] }) (nK : ∀ p ∈ cs, K.lookup p.2 = none) (code : ∀ p ∈ cs, PySem.W.CodeHd z.heap p.1 p.2)
    (at_ : z.heap.get? a = some { cls := .type "list", data := .seq us.toArray }) (rv : Vals (ns.map V.int) us) (len : ns.length ≤ sizeLine) (hr : Room k callerA)
    (F : ∀ base : Heap, K.In base → base.Ns mainGlobals mg → (∀ p ∈ cs, TabB base mg p.1 p.2) → FnG P w K mg base k fa fd [x] sp) (bd : ∀ (s : Shared) (v : Value), BindsTo s fd ⟨[v], []⟩ [(x, v)])
    (hs : SqL K (firstH a u (cs.map (·.2))) a (ns.map V.int)) (want : ∀ H : Hp, (∀ p ∈ cs, H p.2 = some (.tbl #[])) → SqL K H a (ns.map V.int) → sp [.ref a] H (fun v _ => v = .bl true) fun _ _ _ => False) :
    codeAny (model P w) callerA (.call (.ref fa) ⟨[.ref a], []⟩) (Held z) z := by
  have emp : ∀ b ∈ cs.map (·.2), z.heap.get? b = some { cls := .none, data := .fields #[] } := fun b hb => by
    obtain ⟨p, hp, rfl⟩ := List.mem_map.mp hb
    exact empty p hp
  have na : a ∉ cs.map (·.2) := fun m => by
    have e := emp a m
    rw [at_] at e
    have e2 := congrArg Obj.cls (Option.some.inj e)
    cases e2
  generalize hT : firstH a u (cs.map (·.2)) = T at hs
  have only : ∀ {b : Addr} {v : HO}, T b = some v → (b = a ∧ u = some v) ∨ (b ∈ cs.map (·.2) ∧ v = .tbl #[]) := fun {b v} e => by
    rw [← hT] at e
    unfold firstH at e
    by_cases n : b = a
    · exact .inl ⟨n, (if_pos n).symm.trans e⟩
    · rw [if_neg n] at e
      by_cases m : b ∈ cs.map (·.2)
      · rw [if_pos m] at e
        exact .inr ⟨m, (Option.some.inj e).symm⟩
      · rw [if_neg m] at e
        cases e
  have tabs : ∀ p ∈ cs, T p.2 = some (.tbl #[]) := fun p hp => by
    have m : p.2 ∈ cs.map (·.2) := List.mem_map.mpr ⟨p, hp, rfl⟩
    rw [← hT]
    unfold firstH
    rw [if_neg (show ¬ p.2 = a from fun e => na (by rw [← e]; exact m)), if_pos m]
  have off : ∀ {b : Addr} {o : Obj}, z.heap.get? b = some o → (∀ es, o.data ≠ .seq us.toArray es) → o.data ≠ .fields #[] → T b = none := fun {b o} e d d2 => by
    cases q : T b with
    | none => rfl
    | some v =>
      rcases only q with ⟨rfl, _⟩ | ⟨m, _⟩
      · rw [at_] at e
        exact absurd (congrArg Obj.data (Option.some.inj e)).symm (d _)
      · rw [emp b m] at e
        exact absurd (congrArg Obj.data (Option.some.inj e)).symm d2
  have names : ∀ {b : Addr} {m : Str → Option Value}, z.heap.Ns b m → (hidT z.heap T).Ns b m := fun {b m} n => by
    obtain ⟨o, es, ep, e, d, r⟩ := n
    exact ⟨o, es, ep, hidT_get e (off e (fun es' q => by rw [d] at q; cases q) (fun q => by rw [d] at q; cases q)), d, r⟩
  have kin2 : K.In (hidT z.heap T) := fun b o e => hidT_get (kin b o e) (by
    cases q : T b with
    | none => rfl
    | some v =>
      rcases only q with ⟨rfl, q2⟩ | ⟨m, _⟩
      · rw [(hu v q2).1] at e
        cases e
      · obtain ⟨p, hp, rfl⟩ := List.mem_map.mp m
        rw [nK p hp] at e
        cases e)
  have ok : HOk P w T z.heap := fun b v e => by
    rcases only e with ⟨rfl, q2⟩ | ⟨m, rfl⟩
    · obtain ⟨_, rfl⟩ := hu v q2
      exact ⟨at_, by rw [List.length_map]; exact len, us, _, rv, at_⟩
    · exact emp b m
  have TB : ∀ p ∈ cs, TabB (hidT z.heap T) mg p.1 p.2 := fun p hp => by
    have e0 := empty p hp
    constructor
    · obtain ⟨o, vs, file, tf, flags, tg, inF, text, tt, e1, r1, r2, r3, r⟩ := code p hp
      refine ⟨o, vs, file, tf, flags, tg, inF, text, tt, hidT_get e1 (off e1 (fun es q => ?_) (fun q => ?_)), r1, r2, r3, r⟩
      · rw [r2] at q
        cases q
      · rw [r2] at q
        cases q
        simp at r3
    · obtain ⟨b, ob, b1, b2, b3, b4, b5, b6⟩ := bm
      refine ⟨b, ob, b1, b2, fun q => ?_, fun q => ?_, hidT_get b3 (off b3 (fun es q => ?_) (fun q => ?_)), b4, b5, b6⟩
      · obtain ⟨o, es, ep, e, d, _⟩ := g
        rw [q, e] at b3
        cases b3
        rw [d] at b6
        cases b6
      · rw [q, e0] at b3
        cases b3
        cases b6
      · rw [b6] at q
        cases q
      · rw [b6] at q
        cases q
    · intro q
      obtain ⟨o, es, ep, e, d, _⟩ := g
      rw [q, e0] at e
      cases e
      cases d
  obtain ⟨mc, c1, c2⟩ := nl
  have e0 : Env0 P w K mg (hidT z.heap T) callerA [] z T := ⟨rfl, ⟨kin2, names g, ⟨mb, names bn, bt⟩, ⟨mc, names c1, c2⟩⟩, fun b o e => of_hidT e, Nat.le_of_eq (hidT_size _ _), trivial, (fun b hb => nomatch hb), ok, .of_eq gs⟩
  refine codeAny_mono ((F _ kin2 (names g) TB).goes callerA [] z T ⟨[.ref a], []⟩ [.ref a] [.ref a] _ _ rfl hr e0 (bd z (.ref a)) (.cons rfl .nil) (want T tabs hs)) fun res z2 hz => ?_
  match res, hz with
  | .error e, hz => exact hz.elim
  | .ok .next, hz => exact hz.elim
  | .ok .brk, hz => exact hz.elim
  | .ok .cont, hz => exact hz.elim
  | .ok (.ret v), hz =>
    obtain ⟨y, T2, os, bare, un, ok2, ry, q⟩ := hz
    have q' : y = .bl true := q
    subst q'
    obtain rfl : v = Value.bool true := ry
    have same : ∀ b o, b ∉ cs.map (·.2) → z.heap.get? b = some o → z2.heap.get? b = some o := fun b o nb e => by
      cases q2 : T b with
      | none => exact un.keep b o e q2 (fun y => nomatch y) (fun y => nomatch y)
      | some v2 =>
        rcases only q2 with ⟨rfl, q3⟩ | ⟨m, _⟩
        · obtain ⟨_, rfl⟩ := hu v2 q3
          rw [at_] at e
          cases e
          exact (ok2 b _ (un.frzs b _ _ q2)).1
        · exact absurd m nb
    have more : ∀ p ∈ cs, ∃ m : Array Value, z2.heap.get? p.2 = some { cls := .none, data := .fields m } := fun p hp => by
      obtain ⟨m, e⟩ := un.tbls p.2 #[] (tabs p hp)
      exact ⟨_, ok2 p.2 _ e⟩
    refine ⟨rfl, ⟨fun b o e => ?_, fun b o e => ?_⟩, os, bare⟩
    · by_cases m : b ∈ cs.map (·.2)
      · obtain ⟨p, hp, rfl⟩ := List.mem_map.mp m
        rw [empty p hp] at e
        cases e
        obtain ⟨m2, e2⟩ := more p hp
        exact .inr (.inl ⟨((code p hp).tab (empty p hp)).isCodeTable, rfl, #[], m2, rfl, by rw [Array.empty_append]; exact e2⟩)
      · exact .inl (same b o m e)
    · by_cases m : b ∈ cs.map (·.2)
      · obtain ⟨p, hp, rfl⟩ := List.mem_map.mp m
        obtain ⟨m2, e2⟩ := more p hp
        exact ⟨_, e2⟩
      · exact ⟨o, same b o m e⟩
end
/-- the head of a law with tables, and with defs that ask repr (or none) -/
theorem walkT {l : PySem.W.OpenLaw} {n k : Nat} {q : Program} {loose : List Str} {XP : (Str → Option Value) → Heap → Prop} {YP : World → Heap → Prop} {d : DefRec} {K : Params → PySem.W.Frag} {x : Str} (makers : List Str) (most : l.most = some n) (le : n ≤ sizeLine)
    (nod : d.params.defaults = []) (hr : Room k callerA) (known : ∀ m ∈ makers, ((recsOf q).find? fun e => e.name == m).isSome = true) (part : ∀ (w : World) (h : Heap), YP w h → (K w.params).In h)
    (F : ∀ (w : World) (mg : Str → Option Value) (fa : Addr) (h : Heap), (K w.params).In h → h.Ns mainGlobals mg → mg d.name = some (.ref fa) →
      ∃ (fd : FuncData) (cs : List (Addr × Addr)) (sp : L2.Sp), (∀ p ∈ cs, (K w.params).lookup p.2 = none) ∧ (∀ p ∈ cs, ∃ m ∈ makers, PySem.W.tabIn (K w.params) m = some p) ∧ (∀ (s : Shared) (v : Value), BindsTo s fd ⟨[v], []⟩ [(x, v)]) ∧
        (∀ (H : Hp) (a : Addr) (ns : List Int), ns.length ≤ n → (∀ p ∈ cs, H p.2 = some (.tbl #[])) → SqL (K w.params) H a (ns.map V.int) → sp [.ref a] H (fun v _ => v = .bl true) fun _ _ _ => False) ∧
        ∀ base : Heap, (K w.params).In base → base.Ns mainGlobals mg → (∀ p ∈ cs, TabB base mg p.1 p.2) → FnG l.prog w (K w.params) mg base k fa fd [x] sp) :
    PySem.W.WalkO q loose XP YP l.row.toRowW d [] (fun f vs => PySem.call f vs) := by
  refine Att.attach_call most nod fun w s0 z mg mb fa o pm cd doc a us ns G Y ho hd hcd hmg at_ hi hl gs => ?_
  have kin := part w _ Y
  obtain ⟨fd, cs, sp, nK, tin, bd, want, FF⟩ := F w mg fa _ kin G.T.g hmg
  have rv := vals_ints hi
  have len : ns.length ≤ sizeLine := Nat.le_trans hl le
  have tab : ∀ p ∈ cs, PySem.W.CodeHd z.heap p.1 p.2 ∧ z.heap.get? p.2 = some { cls := .none, data := .fields #[] } := fun p hp => by
    obtain ⟨m, hm, e⟩ := tin p hp
    obtain ⟨dm, hdm⟩ := Option.isSome_iff_exists.mp (known m hm)
    exact PySem.W.tab_of G.T kin hdm e
  cases hk : (K w.params).lookup a with
  | some o2 =>
    have e := kin a o2 hk
    rw [at_] at e
    cases e
    refine held_ofT (cs := cs) (u := none) (fun _ e => nomatch e) kin G.T.g G.T.b G.T.builtins G.T.nolimit gs G.T.bmain (fun p hp => (tab p hp).2) nK (fun p hp => (tab p hp).1) at_ rv len hr FF bd (.inr ⟨_, us.toArray, _, hk, rfl, rfl, rfl, ?_, by simpa using rv⟩) fun H h h2 => want H a ns hl h h2
    rw [List.size_toArray, hi.length]
    exact len
  | none =>
    exact held_ofT (cs := cs) (u := some (.frz { cls := .type "list", data := .seq us.toArray } (.lst (ns.map V.int)))) (fun v e => ⟨hk, (Option.some.inj e).symm⟩) kin G.T.g G.T.b G.T.builtins G.T.nolimit gs G.T.bmain (fun p hp => (tab p hp).2) nK (fun p hp => (tab p hp).1) at_ rv len hr FF bd (.inl (.inr ⟨_, if_pos rfl⟩)) fun H h h2 => want H a ns hl h h2
end Gd

/-! sorted(xs), xs a list of triples of whole numbers of any size. -/
namespace Tri
open PySem PySem.Spec PyProof.Rows SrtO
abbrev T3 := Int × Int × Int
/-- one triple ahead of another: by the first number, then the second, then the third -/
def before (a b : T3) : Prop := a.1 < b.1 ∨ (a.1 = b.1 ∧ (a.2.1 < b.2.1 ∨ (a.2.1 = b.2.1 ∧ a.2.2 < b.2.2)))
instance (a b : T3) : Decidable (before a b) := by unfold before; infer_instance
def bef (a b : T3) : Bool := decide (before a b)
theorem bef_yes {a b : T3} : bef a b = true ↔ before a b := decide_eq_true_iff
theorem bef_no {a b : T3} : bef a b = false ↔ ¬ before a b := decide_eq_false_iff_not
theorem swo3 {α : Type} (k : α → T3) : Swo fun v u => bef (k v) (k u) := by
  refine ⟨fun x y h => ?_, fun x y z h1 h2 => ?_⟩
  · have a := bef_yes.mp h
    refine bef_no.mpr ?_
    unfold before at *
    omega
  · have a := bef_no.mp h1
    have b := bef_no.mp h2
    refine bef_no.mpr ?_
    unfold before at *
    omega
/-- a tuple of three whole numbers -/
def Is3 (h : Heap) (v : Value) (x : T3) : Prop := ∃ (a : Addr) (o : Obj) (t u z : Tok) (n : Nat), v = .ref a ∧ h.get? a = some o ∧ o.cls = .type "tuple" ∧ o.data = .seq #[.int x.1 t, .int x.2.1 u, .int x.2.2 z] n
theorem Is3.stay {h h' : Heap} {v : Value} {x : T3} (i : Is3 h v x) (k : ∀ b o, h.get? b = some o → o.cls = .type "tuple" → h'.get? b = some o) : Is3 h' v x := by
  obtain ⟨a, o, t, u, z, n, e, ho, hc, hd⟩ := i
  exact ⟨a, o, t, u, z, n, e, k a o ho hc, hc, hd⟩
theorem heads {h : Heap} {k : Value → T3} : ∀ {vs : List Value}, (∀ v ∈ vs, Is3 h v (k v)) → ∃ fs : List Value, PySem.W.KatTups h vs fs ∧ fs.length = vs.length ∧ ∀ f ∈ fs, ∃ x t, f = Value.int x t
  | [], _ => ⟨[], PySem.W.KatTups.nil, rfl, fun _ z => nomatch z⟩
  | v :: vs, g => by
    obtain ⟨fs, h1, h2, h3⟩ := heads (vs := vs) fun u hu => g u (List.mem_cons_of_mem _ hu)
    obtain ⟨a, o, t, u, z, n, e, ho, hc, hd⟩ := g v List.mem_cons_self
    generalize (k v).1 = x at hd
    subst e
    refine ⟨.int x t :: fs, PySem.W.KatTups.cons ho hc hd rfl h1, by rw [List.length_cons, List.length_cons, h2], fun f hf => ?_⟩
    rcases List.mem_cons.mp hf with q | q
    · exact ⟨x, t, q⟩
    · exact h3 f q
section
variable {prog : Program} {w : World} {A : Around} {E : Value → Shared → Prop} {s : Shared}
theorem cmp3 {vs : List Value} {k : Value → T3} (g : ∀ v ∈ vs, Is3 s.heap v (k v)) : Cmp prog w A s (tuples' true) (fun p => p.1 ∈ vs) (lt2 fun v u => bef (k v) (k u)) := by
  intro p q hp hq
  have g1 := g _ hp
  have g2 := g _ hq
  show wpAny (model prog w) A (keyLt' (tuples' true) p.1 q.1) (fun r s' => s' = s ∧ r = bef (k p.1) (k q.1)) (fun _ _ => False) s
  generalize k p.1 = x at g1 ⊢
  generalize k q.1 = y at g2 ⊢
  obtain ⟨x1, x2, x3⟩ := x
  obtain ⟨y1, y2, y3⟩ := y
  obtain ⟨a, o, t, u, z, n, e, ho, hc, hd⟩ := g1
  obtain ⟨a', o', t', u', z', n', e', ho', hc', hd'⟩ := g2
  rw [e, e']
  dsimp only at hd hd'
  have yes : ∀ {b : Bool}, (b = true ↔ before (x1, x2, x3) (y1, y2, y3)) → (s = s ∧ b = bef (x1, x2, x3) (y1, y2, y3)) := fun {b} i => ⟨rfl, by
    cases b with
    | true => exact (bef_yes.mpr (i.mp rfl)).symm
    | false => exact (bef_no.mpr fun q => (by cases i.mpr q)).symm⟩
  refine PySem.W.kat_lt ho hd ho' hd' ?_
  show PySem.W.KatLex prog w A true (decide (3 < 3)) _ [(.int x1 t, .int y1 t'), (.int x2 u, .int y2 u'), (.int x3 z, .int y3 z')] 0 s
  refine PySem.W.kat_cons (SeqAt.EqAt.int_int x1 t y1 t' prog w _ _ (PySem.W.kat_go (fun e1 => ?_) (fun e1 => ?_)))
  · have i1 : x1 = y1 := by simpa using e1
    refine PySem.W.kat_yes (PySem.W.kat_cons (SeqAt.EqAt.int_int x2 u y2 u' prog w _ _ (PySem.W.kat_go (fun e2 => ?_) (fun e2 => ?_))))
    · have i2 : x2 = y2 := by simpa using e2
      refine PySem.W.kat_yes (PySem.W.kat_cons (SeqAt.EqAt.int_int x3 z y3 z' prog w _ _ (PySem.W.kat_go (fun e3 => ?_) (fun e3 => ?_))))
      · have i3 : x3 = y3 := by simpa using e3
        refine PySem.W.kat_yes (PySem.W.kat_nil (yes ?_))
        rw [decide_eq_true_iff]
        show 3 < 3 ↔ _
        unfold before
        dsimp only
        omega
      · have i3 : ¬ x3 = y3 := by simpa using e3
        refine PySem.W.kat_no (PySem.W.kat_one _ _ (PyProof.Rows.lt_int (yes ?_)))
        rw [decide_eq_true_iff]
        unfold before
        dsimp only
        omega
    · have i2 : ¬ x2 = y2 := by simpa using e2
      refine PySem.W.kat_no (PySem.W.kat_one _ _ (PyProof.Rows.lt_int (yes ?_)))
      rw [decide_eq_true_iff]
      unfold before
      dsimp only
      omega
  · have i1 : ¬ x1 = y1 := by simpa using e1
    refine PySem.W.kat_no (oneLt_int (yes ?_))
    rw [decide_eq_true_iff]
    unfold before
    dsimp only
    omega
theorem sortable3 {a : Addr} {vs : List Value} {k : Value → T3} (pos : 0 < vs.length) (g : ∀ v ∈ vs, Is3 s.heap v (k v)) (na : ∀ o, s.heap.get? a = some o → o.cls ≠ .type "tuple") : SortableO prog w A s a vs fun v u => bef (k v) (k u) := by
  intro h' keep
  have g' : ∀ v ∈ vs, Is3 h' v (k v) := fun v hv => (g v hv).stay fun b o e c => keep b o (fun z => na o (z ▸ e) c) e
  obtain ⟨fs, h1, h2, h3⟩ := heads g'
  refine ⟨tuples' true, fun Q E hq => ?_, cmp3 g'⟩
  refine PySem.W.kat_kind (T := .type "int") h1 (by omega) (fun f hf => ?_) (by rfl) ?_
  · obtain ⟨x, t, rfl⟩ := h3 f hf
    exact PySem.W.Looks.now
  · have e : (Value.type "int" != Value.type "tuple") = true := by first | decide +kernel | rfl | decide
    rw [e]
    exact hq
theorem sorted3 {l : Addr} {vs : List Value} {k : Value → T3} {Q : Value → Shared → Prop} (hl : s.heap.IsList l vs.toArray) (hz : vs.length ≤ sizeLine) (g : ∀ v ∈ vs, Is3 s.heap v (k v))
    (h : ∀ (h' : Heap) (d : Addr) (out : List Value), Srtd (fun v u => bef (k v) (k u)) out → Stb (fun v u => bef (k v) (k u)) out vs → (∀ b o, s.heap.get? b = some o → h'.get? b = some o) → s.heap.objs.size ≤ d → (∃ n, h'.get? d = some (seqObj "list" out.toArray n)) → Q (.ref d) { s with heap := h' }) :
    wpAny (model prog w) A (call (.builtin "sorted") [.ref l]) Q E s := by
  refine sorted_ord (swo3 k) hl hz (fun h2 h₁ a ha kk => ?_) fun out hs hb => h _ _ out hs hb (fun b o e => sortedAll_old e) (Nat.le_succ _) (sortedAll_at s.heap vs out.toArray)
  refine sortable3 (s := { s with heap := h₁ }) (by omega) (fun v hv => (g v hv).stay fun b o e _ => (kk b o e).2) fun o e c => ?_
  have e' : some o = some (seqObj "list" vs.toArray 0) := e.symm.trans ha
  cases e'
  exact absurd (Value.type.inj c) (by decide)
end
end Tri
namespace Tri
open PySem PySem.Spec PyProof.Rows L2
/-- sorted(xs), xs a list of tuples of three whole numbers (k says which) -/
def rSorted3 (K : PySem.W.Frag) : List V → Hp → VK → Prop := fun vs H Q => ∃ (a : Addr) (xs : List V) (k : V → T3), vs = [V.ref a] ∧ SqL K H a xs ∧ (∀ x ∈ xs, ∃ t, x = V.ref t ∧ H t = some (.tup [.int (k x).1, .int (k x).2.1, .int (k x).2.2])) ∧
  ∀ ys p, ys.Perm xs → (ys.map k).Pairwise (fun a b => ¬ before b a) → H p = none → Q (.ref p) (upd H p (.lst ys))
theorem cr_sorted3 {X : Cx} : CallR X (.builtin "sorted") (rSorted3 X.K) := by
  intro pins z σ H vs us Q I r h
  obtain ⟨a, xs, k, rfl, hs, hx, q⟩ := h
  obtain ⟨its, rv, hl, hz⟩ := I.list hs
  obtain ⟨u, rfl, ru⟩ := vals1 r
  obtain rfl : u = Value.ref a := ru
  obtain ⟨e1, e2⟩ := refs_back rv fun x m => (hx x m).imp fun t e => e.1
  refine sorted3 (k := fun u => k (backV u)) hl.isList (by rw [← rv.length]; exact hz) (fun v hv => ?_) fun h' d out h1 h2 kp hd hn => ?_
  · obtain ⟨t, rfl⟩ := e2 v hv
    obtain ⟨t', e, ht⟩ := hx (V.ref t) (by rw [e1]; exact List.mem_map.mpr ⟨_, hv, rfl⟩)
    cases e
    obtain ⟨_, its2, r2, o, ho, hc, n, hd⟩ := I.hok _ _ ht
    cases r2 with
    | cons ra rr =>
      cases rr with
      | cons rb rs =>
        cases rs with
        | cons rc rt =>
          cases rt
          obtain ⟨t1, rfl⟩ := ra
          obtain ⟨t2, rfl⟩ := rb
          obtain ⟨t3, rfl⟩ := rc
          exact ⟨t, o, t1, t2, t3, n, rfl, ho, hc, hd⟩
  · have h3 : ∀ u ∈ out, ∃ a, u = Value.ref a := fun u hu => e2 u (h2.perm.mem_iff.mp hu)
    obtain ⟨n, hn⟩ := hn
    have hp : (out.map backV).Perm xs := by rw [e1]; exact h2.perm.map backV
    refine ⟨.ref d, upd H d (.lst (out.map backV)), I.laid (t' := z.toks) kp hd ⟨?_, out, n, vals_back h3, hn⟩, rfl, q _ d hp ?_ (I.hok.fresh hd)⟩
    · rw [hp.length_eq]
      exact hz
    · rw [List.map_map, List.pairwise_map]
      exact h1.imp fun g => bef_no.mp g
end Tri
namespace Tri
open Sp
/-! ### all pairs of places, in order -/
def rowP (x : Int) (i : Nat) : List Int → Nat → List T3
  | [], _ => []
  | y :: ms, j => (x + y, (i : Int), (j : Int)) :: rowP x i ms (j + 1)
def allP : List Int → Nat → List Int → List T3
  | [], _, _ => []
  | x :: ns, i, ms => rowP x i ms 0 ++ allP ns (i + 1) ms
theorem rowP_snoc (x : Int) (i : Nat) (y : Int) : ∀ (ms : List Int) (j : Nat), rowP x i (ms ++ [y]) j = rowP x i ms j ++ [(x + y, (i : Int), ((j + ms.length : Nat) : Int))]
  | [], j => rfl
  | z :: ms, j => by
    show _ :: rowP x i (ms ++ [y]) (j + 1) = _ :: (rowP x i ms (j + 1) ++ _)
    rw [rowP_snoc x i y ms (j + 1), List.length_cons, show j + 1 + ms.length = j + (ms.length + 1) from by omega]
theorem allP_snoc (x : Int) (ms : List Int) : ∀ (ns : List Int) (i : Nat), allP (ns ++ [x]) i ms = allP ns i ms ++ rowP x (i + ns.length) ms 0
  | [], i => by show rowP x i ms 0 ++ [] = _; rw [List.append_nil]; rfl
  | z :: ns, i => by
    show rowP z i ms 0 ++ allP (ns ++ [x]) (i + 1) ms = (rowP z i ms 0 ++ allP ns (i + 1) ms) ++ _
    rw [allP_snoc x ms ns (i + 1), List.length_cons, List.append_assoc, show i + 1 + ns.length = i + (ns.length + 1) from by omega]
theorem rowP_len (x : Int) (i : Nat) : ∀ (ms : List Int) (j : Nat), (rowP x i ms j).length = ms.length
  | [], _ => rfl
  | _ :: ms, j => by show (rowP x i ms (j + 1)).length + 1 = _; rw [rowP_len x i ms (j + 1)]; rfl
theorem allP_len (ms : List Int) : ∀ (ns : List Int) (i : Nat), (allP ns i ms).length = ns.length * ms.length
  | [], _ => by rw [List.length_nil, Nat.zero_mul]; rfl
  | x :: ns, i => by
    show (rowP x i ms 0 ++ allP ns (i + 1) ms).length = _
    rw [List.length_append, rowP_len, allP_len ms ns (i + 1), List.length_cons, Nat.add_mul, Nat.one_mul, Nat.add_comm]
theorem rowP_mem {x : Int} {i : Nat} {t : T3} : ∀ {ms : List Int} {j : Nat}, t ∈ rowP x i ms j ↔ ∃ (n : Nat) (y : Int), ms[n]? = some y ∧ t = (x + y, (i : Int), ((j + n : Nat) : Int))
  | [], j => by simp [rowP]
  | z :: ms, j => by
    show t ∈ _ :: rowP x i ms (j + 1) ↔ _
    rw [List.mem_cons, rowP_mem (ms := ms) (j := j + 1)]
    constructor
    · rintro (rfl | ⟨n, y, h1, rfl⟩)
      · exact ⟨0, z, rfl, rfl⟩
      · exact ⟨n + 1, y, h1, by rw [show j + 1 + n = j + (n + 1) from by omega]⟩
    · rintro ⟨n, y, h1, rfl⟩
      cases n with
      | zero => exact .inl (by cases h1; rfl)
      | succ n => exact .inr ⟨n, y, h1, by rw [show j + 1 + n = j + (n + 1) from by omega]⟩
theorem allP_mem {ms : List Int} {t : T3} : ∀ {ns : List Int} {i : Nat}, t ∈ allP ns i ms ↔ ∃ (m n : Nat) (x y : Int), ns[m]? = some x ∧ ms[n]? = some y ∧ t = (x + y, ((i + m : Nat) : Int), (n : Int))
  | [], i => by simp [allP]
  | z :: ns, i => by
    show t ∈ rowP z i ms 0 ++ allP ns (i + 1) ms ↔ _
    rw [List.mem_append, rowP_mem, allP_mem (ns := ns) (i := i + 1)]
    constructor
    · rintro (⟨n, y, h1, rfl⟩ | ⟨m, n, x, y, h1, h2, rfl⟩)
      · exact ⟨0, n, z, y, rfl, h1, by rw [Nat.zero_add]; rfl⟩
      · exact ⟨m + 1, n, x, y, h1, h2, by rw [show i + 1 + m = i + (m + 1) from by omega]⟩
    · rintro ⟨m, n, x, y, h1, h2, rfl⟩
      cases m with
      | zero => exact .inl ⟨n, y, h2, by cases h1; rw [Nat.zero_add]; rfl⟩
      | succ m => exact .inr ⟨m, n, x, y, h1, h2, by rw [show i + 1 + m = i + (m + 1) from by omega]⟩
/-- how many of a row of the pairs stand ahead of the pair (s, i, j) -/
theorem row_less {s x : Int} {i e j : Nat} (h : e < i) : ∀ (ms : List Int) (b : Nat), (rowP x e ms b).countP (fun t => bef t (s, (i : Int), (j : Int))) = cntB ms (s - x) + ms.count (s - x)
  | [], _ => rfl
  | y :: ms, b => by
    show List.countP _ (_ :: rowP x e ms (b + 1)) = _
    rw [List.countP_cons, row_less h ms (b + 1), cntB_cons, List.count_cons]
    by_cases c : y < s - x
    · rw [if_pos (bef_yes.mpr (.inl (by show x + y < s; omega))), if_pos c, if_neg (by simp; omega)]
      omega
    · by_cases d : y = s - x
      · rw [if_pos (bef_yes.mpr (.inr ⟨by show x + y = s; omega, .inl (by show (e : Int) < (i : Int); omega)⟩)), if_neg c, if_pos (by simp [d])]
        omega
      · have c2 : ¬ bef (x + y, (e : Int), (b : Int)) (s, (i : Int), (j : Int)) = true := fun z => by
          have := bef_yes.mp z
          unfold before at this
          dsimp only at this
          omega
        rw [if_neg c2, if_neg c, if_neg (by simpa using d)]
        omega
theorem row_more {s x : Int} {i e j : Nat} (h : i < e) : ∀ (ms : List Int) (b : Nat), (rowP x e ms b).countP (fun t => bef t (s, (i : Int), (j : Int))) = cntB ms (s - x)
  | [], _ => rfl
  | y :: ms, b => by
    show List.countP _ (_ :: rowP x e ms (b + 1)) = _
    rw [List.countP_cons, row_more h ms (b + 1), cntB_cons]
    by_cases c : y < s - x
    · rw [if_pos (bef_yes.mpr (.inl (by show x + y < s; omega))), if_pos c]
    · rw [if_neg (fun z => ?_), if_neg c]
      have := bef_yes.mp z
      unfold before at this
      dsimp only at this
      omega
theorem row_same {s x : Int} {i j : Nat} : ∀ (ms : List Int) (b : Nat), b ≤ j → (rowP x i ms b).countP (fun t => bef t (s, (i : Int), (j : Int))) = cntB ms (s - x) + (ms.take (j - b)).count (s - x)
  | [], _, _ => by rw [List.take_nil]; rfl
  | y :: ms, b, hb => by
    show List.countP _ (_ :: rowP x i ms (b + 1)) = _
    rw [List.countP_cons, cntB_cons]
    by_cases e : b = j
    · subst e
      have hz : ∀ (ms : List Int) (c : Nat), b < c → (rowP x i ms c).countP (fun t => bef t (s, (i : Int), (b : Int))) = cntB ms (s - x) := by
        intro ms
        induction ms with
        | nil => intro c _; rfl
        | cons z ms ih =>
          intro c hc
          show List.countP _ (_ :: rowP x i ms (c + 1)) = _
          rw [List.countP_cons, ih (c + 1) (by omega), cntB_cons]
          by_cases d : z < s - x
          · rw [if_pos (bef_yes.mpr (.inl (by show x + z < s; omega))), if_pos d]
          · rw [if_neg (fun q => ?_), if_neg d]
            have := bef_yes.mp q
            unfold before at this
            dsimp only at this
            omega
      rw [hz ms (b + 1) (by omega), Nat.sub_self, List.take_zero, List.count_nil]
      by_cases c : y < s - x
      · rw [if_pos (bef_yes.mpr (.inl (by show x + y < s; omega))), if_pos c]
      · rw [if_neg (fun q => ?_), if_neg c]
        have := bef_yes.mp q
        unfold before at this
        dsimp only at this
        omega
    · rw [row_same ms (b + 1) (by omega), show j - b = (j - (b + 1)) + 1 from by omega, List.take_succ_cons, List.count_cons]
      by_cases c : y < s - x
      · rw [if_pos (bef_yes.mpr (.inl (by show x + y < s; omega))), if_pos c, if_neg (by simp; omega)]
        omega
      · by_cases d : y = s - x
        · have c1 : bef (x + y, (i : Int), (b : Int)) (s, (i : Int), (j : Int)) = true := bef_yes.mpr (.inr ⟨by show x + y = s; omega, .inr ⟨rfl, by show (b : Int) < (j : Int); omega⟩⟩)
          rw [if_pos c1, if_neg c, if_pos (by simp [d])]
          omega
        · have c2 : ¬ bef (x + y, (i : Int), (b : Int)) (s, (i : Int), (j : Int)) = true := fun z => by
            have := bef_yes.mp z
            unfold before at this
            dsimp only at this
            omega
          rw [if_neg c2, if_neg c, if_neg (by simpa using d)]
          omega
theorem all_more {s : Int} {i j : Nat} {ms : List Int} : ∀ (ns : List Int) (e : Nat), i < e → (allP ns e ms).countP (fun t => bef t (s, (i : Int), (j : Int))) = cntS ns ms s
  | [], _, _ => rfl
  | x :: ns, e, h => by
    show List.countP _ (rowP x e ms 0 ++ allP ns (e + 1) ms) = _
    rw [List.countP_append, row_more h, all_more ns (e + 1) (by omega), cntS_cons]
/-- how many pairs stand ahead of (s, i, j): those of a lesser sum, those of its sum in the rows ahead, those of its sum ahead in its own row -/
theorem all_ahead {s x : Int} {j : Nat} {ms : List Int} : ∀ (ns : List Int) (e i : Nat), ns[i]? = some x →
    (allP ns e ms).countP (fun t => bef t (s, ((e + i : Nat) : Int), (j : Int))) = cntS ns ms s + ((ns.take i).map fun z => ms.count (s - z)).sum + (ms.take j).count (s - x)
  | [], _, i, h => by simp at h
  | z :: ns, e, 0, h => by
    obtain rfl : z = x := Option.some.inj h
    show List.countP _ (rowP z e ms 0 ++ allP ns (e + 1) ms) = _
    rw [List.countP_append, Nat.add_zero, row_same ms 0 (Nat.zero_le _), all_more ns (e + 1) (by omega), cntS_cons, List.take_zero, List.map_nil, List.sum_nil, Nat.sub_zero]
    omega
  | z :: ns, e, i + 1, h => by
    have ih := all_ahead (s := s) (j := j) (ms := ms) ns (e + 1) i h
    show List.countP _ (rowP z e ms 0 ++ allP ns (e + 1) ms) = _
    rw [List.countP_append, row_less (by omega), cntS_cons, List.take_succ_cons, List.map_cons, List.sum_cons]
    rw [show e + 1 + i = e + (i + 1) from by omega] at ih
    rw [ih]
    omega
/-- all pairs of both rows, sorted -/
structure Ord (ns ms : List Int) (L : List T3) : Prop where
  perm : L.Perm (allP ns 0 ms)
  sort : L.Pairwise fun a b => ¬ before b a
theorem before_or {a b : T3} (h : ¬ before b a) : before a b ∨ a = b := by
  obtain ⟨a1, a2, a3⟩ := a
  obtain ⟨b1, b2, b3⟩ := b
  unfold before at *
  dsimp only at *
  by_cases c : a1 = b1 ∧ a2 = b2 ∧ a3 = b3
  · obtain ⟨rfl, rfl, rfl⟩ := c
    exact .inr rfl
  · left
    omega
/-- in a sorted list an item stands behind just those that are ahead of it -/
theorem stands : ∀ {L : List T3} {p : T3}, (L.Pairwise fun a b => ¬ before b a) → p ∈ L → L[L.countP fun t => bef t p]? = some p
  | [], p, _, h => nomatch h
  | a :: L, p, hs, hm => by
    have hs' := List.pairwise_cons.mp hs
    rw [List.countP_cons]
    by_cases c : before a p
    · rw [if_pos (bef_yes.mpr c)]
      have hp : p ∈ L := by
        rcases List.mem_cons.mp hm with e | e
        · rw [e] at c
          unfold before at c
          omega
        · exact e
      rw [List.getElem?_cons_succ]
      exact stands hs'.2 hp
    · rw [if_neg (fun z => c (bef_yes.mp z))]
      have e : a = p := by
        rcases List.mem_cons.mp hm with e | e
        · exact e.symm
        · rcases before_or (hs'.1 p e) with k | k
          · exact absurd k c
          · exact k
      have z : List.countP (fun t => bef t p) L = 0 := by
        rw [List.countP_eq_zero]
        intro b hb hq
        rw [← e] at hq
        exact hs'.1 b hb (bef_yes.mp hq)
      rw [z, e]
      rfl
/-- THE PLACE of a pair in the order -/
theorem Ord.place {ns ms : List Int} {L : List T3} (o : Ord ns ms L) {i j : Nat} {x y : Int} (hx : ns[i]? = some x) (hy : ms[j]? = some y) :
    L[cntS ns ms (x + y) + ((ns.take i).map fun z => ms.count (x + y - z)).sum + (ms.take j).count y]? = some (x + y, (i : Int), (j : Int)) := by
  have m : (x + y, (i : Int), (j : Int)) ∈ L := o.perm.mem_iff.mpr (allP_mem.mpr ⟨i, j, x, y, hx, hy, by rw [Nat.zero_add]⟩)
  have h1 := stands o.sort m
  rw [o.perm.countP_eq] at h1
  have h2 := all_ahead (s := x + y) (j := j) (ms := ms) ns 0 i hx
  rw [Nat.zero_add, show x + y - x = y from by omega] at h2
  rw [h2] at h1
  exact h1
theorem Ord.len {ns ms : List Int} {L : List T3} (o : Ord ns ms L) : L.length = ns.length * ms.length := by rw [o.perm.length_eq, allP_len]
/-- there is just one order -/
theorem Ord.one {ns ms : List Int} {L M : List T3} (a : Ord ns ms L) (b : Ord ns ms M) : L = M :=
  (a.perm.trans b.perm.symm).eq_of_pairwise (fun x y _ _ h1 h2 => by
    rcases before_or h1 with k | k
    · exact absurd k h2
    · exact k) a.sort b.sort
/-! ### lists of such tuples in the heap -/
open L2 in
structure Trip (H : Hp) (ts : List PySem.Addr) (L : List T3) : Prop where
  len : ts.length = L.length
  at_ : ∀ (j : Nat) (t : PySem.Addr) (x : T3), ts[j]? = some t → L[j]? = some x → H t = some (.tup [.int x.1, .int x.2.1, .int x.2.2])
section
open L2 PySem
theorem Trip.nil {H : Hp} : Trip H [] [] := ⟨rfl, fun _ _ _ h => by simp at h⟩
theorem Trip.up {H H' : Hp} {ts : List Addr} {L : List T3} (t : Trip H ts L) (s : Same H H') : Trip H' ts L := ⟨t.len, fun j a x h1 h2 => s _ _ (t.at_ j a x h1 h2)⟩
/-- a list's own change leaves the tuples -/
theorem Trip.set {H : Hp} {ts : List Addr} {L : List T3} {D : Addr} {o : HO} {xs : List V} (t : Trip H ts L) (h : H D = some (.lst xs)) : Trip (upd H D o) ts L := ⟨t.len, fun j a x h1 h2 => by
  have e := t.at_ j a x h1 h2
  rw [upd_ne (fun z => by rw [z, h] at e; cases e)]
  exact e⟩
theorem Trip.app {H : Hp} {ts us : List Addr} {L M : List T3} (a : Trip H ts L) (b : Trip H us M) : Trip H (ts ++ us) (L ++ M) := by
  refine ⟨by rw [List.length_append, List.length_append, a.len, b.len], fun j t x h1 h2 => ?_⟩
  by_cases c : j < ts.length
  · rw [List.getElem?_append_left c] at h1
    rw [List.getElem?_append_left (by rw [← a.len]; exact c)] at h2
    exact a.at_ j t x h1 h2
  · rw [List.getElem?_append_right (by omega)] at h1
    rw [List.getElem?_append_right (by rw [← a.len]; omega), ← a.len] at h2
    exact b.at_ _ t x h1 h2
theorem Trip.one {H : Hp} {t : Addr} {x y z : Int} (h : H t = some (.tup [.int x, .int y, .int z])) : Trip H [t] [(x, y, z)] := ⟨rfl, fun j a w h1 h2 => by
  cases j with
  | zero => cases h1; cases h2; exact h
  | succ j => simp at h1⟩
def keyOf (H : Hp) : V → T3
  | .ref t => match H t with
    | some (.tup [.int a, .int b, .int c]) => (a, b, c)
    | _ => (0, 0, 0)
  | _ => (0, 0, 0)
theorem keyOf_at {H : Hp} {t : Addr} {x : T3} (h : H t = some (.tup [.int x.1, .int x.2.1, .int x.2.2])) : keyOf H (.ref t) = x := by
  unfold keyOf
  simp only [h]
theorem Trip.keys {H : Hp} {ts : List Addr} {L : List T3} (t : Trip H ts L) : (ts.map V.ref).map (keyOf H) = L := by
  refine List.ext_getElem? fun j => ?_
  rw [List.map_map, List.getElem?_map]
  cases e : ts[j]? with
  | none =>
    have := List.getElem?_eq_none_iff.mp e
    exact (List.getElem?_eq_none_iff.mpr (by rw [← t.len]; exact this)).symm
  | some a =>
    have h1 := (List.getElem?_eq_some_iff.mp e).1
    have h2 : j < L.length := by rw [← t.len]; exact h1
    rw [List.getElem?_eq_getElem h2]
    exact congrArg some (keyOf_at (t.at_ j a _ e (List.getElem?_eq_getElem h2)))
theorem Trip.mem {H : Hp} {ts : List Addr} {L : List T3} (t : Trip H ts L) {a : Addr} (h : a ∈ ts) : H a = some (.tup [.int (keyOf H (.ref a)).1, .int (keyOf H (.ref a)).2.1, .int (keyOf H (.ref a)).2.2]) := by
  obtain ⟨j, hj⟩ := List.mem_iff_getElem?.mp h
  have h2 : j < L.length := by rw [← t.len]; exact (List.getElem?_eq_some_iff.mp hj).1
  have e := t.at_ j a _ hj (List.getElem?_eq_getElem h2)
  rw [keyOf_at e]
  exact e
theorem all_refs : ∀ {ys : List V}, (∀ y ∈ ys, ∃ t, y = V.ref t) → ∃ us : List Addr, ys = us.map V.ref
  | [], _ => ⟨[], rfl⟩
  | y :: ys, h => by
    obtain ⟨t, rfl⟩ := h y List.mem_cons_self
    obtain ⟨us, rfl⟩ := all_refs fun z hz => h z (List.mem_cons_of_mem _ hz)
    exact ⟨t :: us, rfl⟩
/-- what sorted tells of them -/
theorem Trip.sorted {H : Hp} {ts : List Addr} {L : List T3} {ys : List V} (t : Trip H ts L) (hp : ys.Perm (ts.map V.ref)) : ∃ us : List Addr, ys = us.map V.ref ∧ Trip H us (ys.map (keyOf H)) ∧ (ys.map (keyOf H)).Perm L := by
  obtain ⟨us, rfl⟩ := all_refs fun y hy => by
    obtain ⟨a, _, e⟩ := List.mem_map.mp (hp.mem_iff.mp hy)
    exact ⟨a, e.symm⟩
  refine ⟨us, rfl, ⟨by rw [List.length_map, List.length_map], fun j a x h1 h2 => ?_⟩, ?_⟩
  · rw [List.getElem?_map, List.getElem?_map, h1] at h2
    obtain rfl := Option.some.inj h2
    have m : V.ref a ∈ us.map V.ref := List.mem_map.mpr ⟨a, List.mem_of_getElem? h1, rfl⟩
    obtain ⟨b, hb, e⟩ := List.mem_map.mp (hp.mem_iff.mp m)
    cases e
    exact t.mem hb
  · have := hp.map (keyOf H)
    rw [t.keys] at this
    exact this
end
end Tri
namespace Sp
open PySem L2 Tri
def spOrder (K : PySem.W.Frag) : L2.Sp := fun vs H Q _ => ∃ (p q : Addr) (ns ms : List Int), vs = [.ref p, .ref q] ∧ SqL K H p (ns.map V.int) ∧ SqL K H q (ms.map V.int) ∧ ns.length ≤ 300 ∧ ms.length ≤ 300 ∧
  ∀ (r : Addr) (ts : List Addr) (L : List T3) (H' : Hp), Same H H' → H r = none → H' r = some (.lst (ts.map V.ref)) → Trip H' ts L → Ord ns ms L → Q (.ref r) H'
theorem take_all_rows (ns ms : List Int) : allP (ns.take ns.length) 0 ms = allP ns 0 ms := by rw [take_all]
/-- a tuple of names as a comprehension's target: the written part and the length by name -/
theorem pg_tupK {X : Cx} {K : PySem.W.Frag} {es : List Expr} {k : Nat} {pos : Pos} {t : TGs} {n : Nat} (hK : X.K = K) (hc : X.calm = true) (h : PGs X es t) (hn : (assignEach es X.env).length = n) (hst : (assignEach es X.env).findIdx? (·.1) = none) : PG X (.Tuple es k pos) (gTup K n t) := hK ▸ pg_tup hc h hn hst
/-! ### what the laws of the order promise -/
def tri (w : T3) : List V := [.int w.1, .int w.2.1, .int w.2.2]
abbrev dt (w : T3) : PyData := .tuple [.int w.1, .int w.2.1, .int w.2.2]
structure Sml (w : T3) : Prop where
  a : w.1.natAbs.log2 < 60
  b : w.2.1.natAbs.log2 < 60
  c : w.2.2.natAbs.log2 < 60
theorem dp_tri {K : PySem.W.Frag} {H : Hp} {t : Addr} {w : T3} (h : H t = some (.tup (tri w))) : Dp K H (.ref t) (dt w) := .tup (.inl (.inl h)) (.cons (.int _) (.cons (.int _) (.cons (.int _) .nil)))
theorem lay_tri (w : T3) : PyData.canLay0 (dt w) = true := by simp only [PyData.canLay0, PyData.canLayAll0]; rfl
theorem shaped_tri (w : T3) : SeqAt.shaped (dt w) = true := by
  unfold SeqAt.shaped
  rw [lay_tri]
  simp only [PyData.depth, PyData.depthAll]
  rfl
theorem shown_tri {w : T3} (h : Sml w) : (dt w).showable = true ∧ (dt w).hasDict = false ∧ (dt w).shown.length ≤ sizeLine ∧ (dt w).depth ≤ 60 := by
  obtain ⟨h1, h2, h3⟩ := Gd.show_ints [w.1, w.2.1, w.2.2] (by
    intro n hn
    simp only [List.mem_cons, List.not_mem_nil, or_false] at hn
    rcases hn with rfl | rfl | rfl
    · exact h.a
    · exact h.b
    · exact h.c)
  refine ⟨?_, PyData.hasDict_of_canLay _ (lay_tri w), ?_, ?_⟩
  · rw [PyData.showable]; exact h1
  · have := PyData.shown_le 61 (by decide) (dt w) (by rw [PyData.leavesShort]; exact h2)
    rw [PyData.weight] at this
    have e : sizeLine = 16777216 := by decide
    have e2 : PyData.weightAll [PyData.int w.1, .int w.2.1, .int w.2.2] ≤ 61 * 3 := h3
    omega
  · simp only [PyData.depth, PyData.depthAll]; decide
/-- a tuple as it should be, or None as it should be -/
def spTuple : L2.Sp := fun vs H Q _ => (vs = [.non, .non] ∨ ∃ (t u : Addr) (w : T3), vs = [.ref t, .ref u] ∧ H t = some (.tup (tri w)) ∧ H u = some (.tup (tri w)) ∧ Sml w) ∧ Q (.bl true) H
/-- the so-manieth pair -/
def spSumAt (K : PySem.W.Frag) : L2.Sp := fun vs H Q _ => ∃ (p q : Addr) (ns ms : List Int) (n : Nat) (L : List T3) (w : T3), vs = [.ref p, .ref q, .int (n : Int)] ∧ SqL K H p (ns.map V.int) ∧ SqL K H q (ms.map V.int) ∧ ns.Pairwise (· ≤ ·) ∧ ms.Pairwise (· ≤ ·) ∧ ns.length ≤ 1000 ∧ ms.length ≤ 1000 ∧
  Ord ns ms L ∧ L[n]? = some w ∧ ∀ (t : Addr) (H' : Hp), Same H H' → H' t = some (.tup (tri w)) → Q (.ref t) H'
/-- places that are asked for -/
def spPlaces : L2.Sp := fun vs H Q _ => ∃ (a d : Addr) (ts : List Addr) (L : List T3), vs = [.ref a, .ref d] ∧ HandAt H a ∧ d ≠ a ∧ H d = some (.lst (ts.map V.ref)) ∧ Trip H ts L ∧ L.length ≤ 90000 ∧
  ∀ (r : Addr) (ps : List Int) (H' : Hp), Ext a H H' → H r = none → H' r = some (.lst (ps.map V.int)) → (∀ n ∈ ps, 0 ≤ n ∧ n < L.length) → Q (.ref r) H'
theorem Trip.ext {a : Addr} {H H' : Hp} {ts : List Addr} {L : List T3} (t : Trip H ts L) (h : HandAt H a) (e : Ext a H H') : Trip H' ts L := ⟨t.len, fun j b x h1 h2 => by
  have g := t.at_ j b x h1 h2
  obtain ⟨u, v, hh, _⟩ := h
  exact e.keep _ _ g fun z => by rw [z, hh] at g; cases g⟩
theorem rgV_ints (n : Nat) : rgV 0 (n : Int) = ((List.range n).map fun (k : Nat) => (k : Int)).map V.int := by
  unfold rgV
  rw [List.map_map, show ((n : Int) - 0).toNat = n from by omega]
  refine List.map_congr_left fun k _ => ?_
  show V.int (0 + (k : Int)) = V.int (k : Int)
  rw [Int.zero_add]
theorem eqv_tri (w : T3) : PyData.eqv (dt w) (dt w) = true := by
  rw [PyData.eqv]
  refine eqvAll_same fun x hx => ?_
  simp only [List.mem_cons, List.not_mem_nil, or_false] at hx
  rcases hx with rfl | rfl | rfl <;> simp [PyData.eqv]
theorem log_of {n : Int} (h1 : -1000000000000000000 < n) (h2 : n < 1000000000000000000) : n.natAbs.log2 < 60 := by
  by_cases h0 : n.natAbs = 0
  · rw [h0]; decide
  · exact (Nat.log2_lt h0).mpr (by omega)
theorem ord_small {ns ms : List Int} {L : List T3} (o : Ord ns ms L) (fn : Fine ns) (fm : Fine ms) (l1 : ns.length ≤ 1000) (l2 : ms.length ≤ 1000) {n : Nat} {w : T3} (h : L[n]? = some w) : Sml w := by
  obtain ⟨i, j, x, y, hx, hy, rfl⟩ := allP_mem.mp (o.perm.mem_iff.mp (List.mem_of_getElem? h))
  have h1 := (List.getElem?_eq_some_iff.mp hx).1
  have h2 := (List.getElem?_eq_some_iff.mp hy).1
  have b1 := fn.2 x (List.mem_of_getElem? hx)
  have b2 := fm.2 y (List.mem_of_getElem? hy)
  exact ⟨log_of (by show _ < x + y; omega) (by show x + y < _; omega), log_of (by show _ < ((0 + i : Nat) : Int); omega) (by show ((0 + i : Nat) : Int) < _; omega), log_of (by show _ < (j : Int); omega) (by show (j : Int) < _; omega)⟩
end Sp

namespace Sp
open PySem L2
/-! ### differences: the rows of these laws -/
def spNumber : L2.Sp := fun vs H Q _ => ∃ (a : Addr) (k x y : Int), vs = [.ref a, .int k, .int x, .int y] ∧ HandAt H a ∧ (-100 ≤ x ∧ x ≤ 100) ∧ (0 ≤ y ∧ y ≤ 300000000000000) ∧
  ∀ (r : Int) (H' : Hp), Ext a H H' → -1000000000000000 ≤ r → r ≤ 1000000000000000 → Q (.int r) H'
def spRow21 : L2.Sp := fun vs H Q _ => ∃ (a : Addr) (n : Nat), vs = [.ref a, .int (n : Int)] ∧ HandAt H a ∧ n ≤ 300 ∧ ∀ (p : Addr) (ns : List Int) (H' : Hp), Ext a H H' → H p = none → H' p = some (.lst (ns.map V.int)) → ns.length ≤ 300 → Fine ns → Q (.ref p) H'
def spSize : L2.Sp := fun vs H Q _ => ∃ (a : Addr) (k : Int), vs = [.ref a, .int k, .int 300] ∧ HandAt H a ∧ ∀ (n : Nat) (H' : Hp), Ext a H H' → n ≤ 300 → Q (.int (n : Int)) H'
def spTwo21 : L2.Sp := fun vs H Q _ => ∃ (a : Addr) (k : Int), vs = [.ref a, .int k] ∧ HandAt H a ∧
  ∀ (t p q : Addr) (ns ms : List Int) (H' : Hp), Ext a H H' → H' t = some (.lst [.ref p, .ref q]) → t ≠ a → RowAt H' a p ns → RowAt H' a q ms → H p = none → H q = none → Q (.ref t) H'
theorem cut_to (xs : List V) (n : Nat) : (cutV xs none (some (n : Int))).length ≤ n := by
  unfold cutV
  rw [List.length_take]
  refine Nat.le_trans (Nat.min_le_left _ _) (Nat.le_trans (Nat.sub_le _ _) ?_)
  simp only [HT.sIx]
  first | omega | (split <;> omega) | (split <;> split <;> omega)
/-- how many differences, first less second, are below n -/
def cntD (ns ms : List Int) (n : Int) : Nat := (ns.map fun x => ms.countP fun y => decide (x - y < n)).sum
theorem cntD_snoc (ns ms : List Int) (x n : Int) : cntD (ns ++ [x]) ms n = cntD ns ms n + ms.countP fun y => decide (x - y < n) := by
  unfold cntD
  rw [List.map_append, List.sum_append]
  rfl
def spDiff (K : PySem.W.Frag) : L2.Sp := fun vs H Q _ => ∃ (p q : Addr) (ns ms : List Int) (n : Int), vs = [.ref p, .ref q, .int n] ∧ SqL K H p (ns.map V.int) ∧ SqL K H q (ms.map V.int) ∧ ns.Pairwise (· ≤ ·) ∧ ms.Pairwise (· ≤ ·) ∧ ns.length ≤ 1000 ∧ ms.length ≤ 1000 ∧
  ∀ H', Same H H' → Q (.int (cntD ns ms n : Nat)) H'
def spAsked21 (K : PySem.W.Frag) : L2.Sp := fun vs H Q _ => ∃ (a s : Addr) (xs : List Int), vs = [.ref a, .ref s] ∧ HandAt H a ∧ s ≠ a ∧ H s = some (.lst (xs.map V.int)) ∧ 0 < xs.length ∧ xs.length ≤ 1000 ∧ (∀ x ∈ xs, -(2 ^ 60) < x ∧ x < 2 ^ 60) ∧
  ∀ (r : Addr) (zs : List Int) (H' : Hp), Ext a H H' → H r = none → H' r = some (.lst (zs.map V.int)) → zs.length ≤ 9 → Q (.ref r) H'
def spRight21 (K : PySem.W.Frag) : L2.Sp := fun vs H Q _ => ∃ (p q : Addr) (ns ms : List Int) (n : Int), vs = [.ref p, .ref q, .int n] ∧ SqL K H p (ns.map V.int) ∧ SqL K H q (ms.map V.int) ∧ ns.Pairwise (· ≤ ·) ∧ ms.Pairwise (· ≤ ·) ∧ ns.length ≤ 300 ∧ ms.length ≤ 300 ∧ ∀ H', Same H H' → Q (.bl true) H'
theorem cut_from (xs : List V) (k : Nat) : cutV xs (some (k : Int)) none = xs.drop k := by
  unfold cutV
  rw [HT.sIx_nat, HT.sIx_none]
  by_cases h : k ≤ xs.length
  · rw [Nat.min_eq_left h]
    exact List.take_of_length_le (by rw [List.length_drop]; exact Nat.le_refl _)
  · rw [Nat.min_eq_right (by omega), List.drop_of_length_le (Nat.le_refl _), List.drop_of_length_le (by omega), List.take_nil]
/-- how many differences within a row, a later one less an earlier one, are below n -/
def cntW : List Int → Int → Nat
  | [], _ => 0
  | x :: xs, n => (xs.countP fun y => decide (y - x < n)) + cntW xs n
theorem cntW_drop {ns : List Int} {i : Nat} {x : Int} (n : Int) (h : ns[i]? = some x) : cntW (ns.drop i) n = ((ns.drop (i + 1)).countP fun y => decide (y - x < n)) + cntW (ns.drop (i + 1)) n := by
  have hl := (List.getElem?_eq_some_iff.mp h).1
  have e : ns.drop i = x :: ns.drop (i + 1) := by
    rw [List.drop_eq_getElem_cons hl, (List.getElem?_eq_some_iff.mp h).2]
  rw [e]
  rfl
def spWith (K : PySem.W.Frag) : L2.Sp := fun vs H Q _ => ∃ (p : Addr) (ns : List Int) (n : Int), vs = [.ref p, .int n] ∧ SqL K H p (ns.map V.int) ∧ ns.Pairwise (· ≤ ·) ∧ ns.length ≤ 1000 ∧ ∀ H', Same H H' → Q (.int (cntW ns n : Nat)) H'
def spRight23 (K : PySem.W.Frag) : L2.Sp := fun vs H Q _ => ∃ (p : Addr) (ns : List Int) (n : Int), vs = [.ref p, .int n] ∧ SqL K H p (ns.map V.int) ∧ ns.Pairwise (· ≤ ·) ∧ ns.length ≤ 300 ∧ ∀ H', Same H H' → Q (.bl true) H'
/-! ### the order of the differences -/
open Tri
theorem rowP_nodup (x : Int) (i : Nat) : ∀ (ms : List Int) (j : Nat), (rowP x i ms j).Nodup
  | [], _ => List.nodup_nil
  | y :: ms, j => by
    show (_ :: rowP x i ms (j + 1)).Nodup
    refine List.nodup_cons.mpr ⟨fun h => ?_, rowP_nodup x i ms (j + 1)⟩
    obtain ⟨n, z, _, e⟩ := rowP_mem.mp h
    have e3 : (j : Int) = ((j + 1 + n : Nat) : Int) := congrArg (fun t : T3 => t.2.2) e
    omega
theorem allP_nodup (ms : List Int) : ∀ (ns : List Int) (i : Nat), (allP ns i ms).Nodup
  | [], _ => List.nodup_nil
  | x :: ns, i => by
    show (rowP x i ms 0 ++ allP ns (i + 1) ms).Nodup
    refine List.nodup_append.mpr ⟨rowP_nodup x i ms 0, allP_nodup ms ns (i + 1), fun a ha b hb e => ?_⟩
    obtain ⟨n, y, _, e1⟩ := rowP_mem.mp ha
    obtain ⟨m, k, u, v, _, _, e2⟩ := allP_mem.mp hb
    rw [e1, e2] at e
    have e3 : (i : Int) = ((i + 1 + m : Nat) : Int) := congrArg (fun t : T3 => t.2.1) e
    omega
theorem ord_exists (ns ms : List Int) : ∃ L, Tri.Ord ns ms L := by
  refine ⟨(allP ns 0 ms).mergeSort fun a b => !bef b a, List.mergeSort_perm _ _, ?_⟩
  refine (List.pairwise_mergeSort (le := fun a b => !bef b a) (fun a b c h1 h2 => ?_) (fun a b => ?_) (allP ns 0 ms)).imp fun {a b} h => ?_
  · have q1 : ¬ before b a := fun z => by rw [bef_yes.mpr z] at h1; cases h1
    have q2 : ¬ before c b := fun z => by rw [bef_yes.mpr z] at h2; cases h2
    have q3 : ¬ before c a := by unfold before at *; omega
    show (!bef c a) = true
    rw [bef_no.mpr q3]
    rfl
  · by_cases z : before b a
    · have z2 : ¬ before a b := by unfold before at *; omega
      rw [bef_no.mpr z2]
      simp
    · rw [bef_no.mpr z]
      simp
  · exact fun z => by rw [bef_yes.mpr z] at h; cases h
/-- what stands at a place of the order, and which place that is -/
theorem ord_at {ns ms : List Int} {L : List T3} (o : Tri.Ord ns ms L) {n : Nat} {w : T3} (h : L[n]? = some w) :
    ∃ (i j : Nat) (x y : Int), ns[i]? = some x ∧ ms[j]? = some y ∧ w = (x + y, (i : Int), (j : Int)) ∧ n = cntS ns ms (x + y) + ((ns.take i).map fun z => ms.count (x + y - z)).sum + (ms.take j).count y := by
  obtain ⟨i, j, x, y, hx, hy, rfl⟩ := allP_mem.mp (o.perm.mem_iff.mp (List.mem_of_getElem? h))
  rw [Nat.zero_add] at h ⊢
  refine ⟨i, j, x, y, hx, hy, rfl, ?_⟩
  have h2 := o.place hx hy
  have nd : L.Nodup := o.perm.nodup_iff.mpr (allP_nodup ms ns 0)
  obtain ⟨k1, e1⟩ := List.getElem?_eq_some_iff.mp h
  obtain ⟨k2, e2⟩ := List.getElem?_eq_some_iff.mp h2
  have e := e1.trans e2.symm
  rcases Nat.lt_trichotomy n (cntS ns ms (x + y) + ((ns.take i).map fun z => ms.count (x + y - z)).sum + (ms.take j).count y) with c | c | c
  · exact absurd e (List.pairwise_iff_getElem.mp nd _ _ k1 k2 c)
  · exact c
  · exact absurd e.symm (List.pairwise_iff_getElem.mp nd _ _ k2 k1 c)
def negs (ms : List Int) : List Int := ms.map fun y => 0 - y
def spDiffAt (K : PySem.W.Frag) : L2.Sp := fun vs H Q _ => ∃ (p q : Addr) (ns ms : List Int) (n : Nat) (L : List T3) (w : T3), vs = [.ref p, .ref q, .int (n : Int)] ∧ SqL K H p (ns.map V.int) ∧ SqL K H q (ms.map V.int) ∧ ns.Pairwise (· ≤ ·) ∧ ms.Pairwise (· ≤ ·) ∧ ns.length ≤ 1000 ∧ ms.length ≤ 1000 ∧
  Tri.Ord ns (negs ms) L ∧ L[n]? = some w ∧ ∀ (t : Addr) (H' : Hp), Same H H' → H' t = some (.tup (tri w)) → Q (.ref t) H'
def spTriple : L2.Sp := fun vs H Q _ => ∃ (t u : Addr) (w : T3), vs = [.ref t, .ref u] ∧ H t = some (.tup (tri w)) ∧ H u = some (.tup (tri w)) ∧ ∀ H', Same H H' → Q (.bl true) H'
theorem call_isiK {X : Cx} {K : PySem.W.Frag} (hK : X.K = K) : CallR X (.builtin "isinstance") (rIsi K) := hK ▸ call_isi
/-- how many pairs stand ahead of a pair, by the law's own count -/
def spAhead (K : PySem.W.Frag) : L2.Sp := fun vs H Q _ => ∃ (p q u : Addr) (ns ms : List Int) (i j : Nat) (x y : Int), vs = [.ref p, .ref q, .ref u] ∧ SqL K H p (ns.map V.int) ∧ SqL K H q (ms.map V.int) ∧ H u = some (.tup [.int (i : Int), .int (j : Int)]) ∧ ns.length ≤ 1000 ∧ ms.length ≤ 1000 ∧ ns[i]? = some x ∧ ms[j]? = some y ∧
  ∀ H', Same H H' → Q (.int ((cntD ns ms (x - y) + ((ns.take i).map fun z => ms.countP fun v => decide (z - v = x - y)).sum + (ms.take j).countP fun v => decide (x - v = x - y) : Nat) : Int)) H'
theorem cut_take (xs : List V) (k : Nat) : cutV xs none (some (k : Int)) = xs.take k := by
  unfold cutV
  rw [HT.sIx_nat, HT.sIx_none, List.drop_zero, Nat.sub_zero]
  by_cases h : k ≤ xs.length
  · rw [Nat.min_eq_left h]
  · rw [Nat.min_eq_right (by omega), List.take_of_length_le (Nat.le_refl _), List.take_of_length_le (by omega)]
def spRight22 (K : PySem.W.Frag) : L2.Sp := fun vs H Q _ => ∃ (p q : Addr) (ns ms : List Int) (n : Nat), vs = [.ref p, .ref q, .int (n : Int)] ∧ SqL K H p (ns.map V.int) ∧ SqL K H q (ms.map V.int) ∧ ns.Pairwise (· ≤ ·) ∧ ms.Pairwise (· ≤ ·) ∧ ns.length ≤ 300 ∧ ms.length ≤ 300 ∧ n < ns.length * ms.length ∧
  ∀ H', Same H H' → Q (.bl true) H'
theorem negs_at {ms : List Int} {j : Nat} {y : Int} (h : (negs ms)[j]? = some y) : ms[j]? = some (0 - y) := by
  unfold negs at h
  rw [List.getElem?_map] at h
  cases e : ms[j]? with
  | none => rw [e] at h; cases h
  | some z =>
    rw [e] at h
    obtain rfl : 0 - z = y := Option.some.inj h
    rw [show 0 - (0 - z) = z from by omega]
theorem negs_cnt (x n : Int) : ∀ ms : List Int, cntB (negs ms) (n - x) = ms.countP fun v => decide (x - v < n)
  | [] => rfl
  | y :: ms => by
    show cntB ((0 - y) :: negs ms) (n - x) = _
    rw [cntB_cons, negs_cnt x n ms, List.countP_cons]
    by_cases h : x - y < n
    · rw [if_pos (by omega), if_pos (by simpa using h)]
    · rw [if_neg (by omega), if_neg (by simpa using h)]
theorem negs_cntS (ms : List Int) (n : Int) : ∀ ns : List Int, cntS ns (negs ms) n = cntD ns ms n
  | [] => rfl
  | x :: ns => by
    rw [cntS_cons, negs_cnt, negs_cntS ms n ns]
    rfl
theorem negs_count (z n : Int) : ∀ ms : List Int, (negs ms).count (n - z) = ms.countP fun v => decide (z - v = n)
  | [] => rfl
  | y :: ms => by
    show ((0 - y) :: negs ms).count (n - z) = _
    rw [List.count_cons, negs_count z n ms, List.countP_cons]
    by_cases h : z - y = n
    · rw [if_pos (by simp; omega), if_pos (by simpa using h)]
    · rw [if_neg (by simp; omega), if_neg (by simpa using h)]
theorem negs_take (ms : List Int) (j : Nat) : (negs ms).take j = negs (ms.take j) := List.map_take.symm
theorem negs_len (ms : List Int) : (negs ms).length = ms.length := List.length_map _
/-- the place of a difference, by the law's own count -/
theorem diff_at {ns ms : List Int} {L : List Tri.T3} (o : Tri.Ord ns (negs ms) L) {n : Nat} {w : Tri.T3} (h : L[n]? = some w) :
    ∃ (i j : Nat) (x y : Int), ns[i]? = some x ∧ ms[j]? = some y ∧ w = (x - y, (i : Int), (j : Int)) ∧ n = cntD ns ms (x - y) + ((ns.take i).map fun z => ms.countP fun v => decide (z - v = x - y)).sum + (ms.take j).countP fun v => decide (x - v = x - y) := by
  obtain ⟨i, j, x, y, hx, hy, hw, hn⟩ := ord_at o h
  refine ⟨i, j, x, 0 - y, hx, negs_at hy, by rw [hw, show x - (0 - y) = x + y from by omega], ?_⟩
  rw [show x - (0 - y) = x + y from by omega, hn, negs_cntS, negs_take]
  have e1 : (negs (ms.take j)).count y = (ms.take j).countP fun v => decide (x - v = x + y) := by
    have := negs_count x (x + y) (ms.take j)
    rw [show x + y - x = y from by omega] at this
    exact this
  have e2 : (fun z => (negs ms).count (x + y - z)) = fun z => ms.countP fun v => decide (z - v = x + y) := funext fun z => negs_count z (x + y) ms
  rw [e1, e2]
end Sp

namespace Sp
open PySem L2 LamX Tri
/-! ### heaps where tables of code objects may grow -/
def NT : HO → Prop
  | .tbl _ => False
  | _ => True
theorem NT.ne {o : HO} (h : NT o) : ∀ ps, o ≠ .tbl ps := fun ps e => by
  subst e
  exact h
theorem nt_of {o : HO} (h : ∀ ps, o ≠ .tbl ps) : NT o := by
  cases o <;> first | exact trivial | exact absurd rfl (h _)
/-- all but the tables stays; the tables stay tables -/
structure Nx (T : List (Addr × Str)) (H H' : Hp) : Prop where
  of : ∀ b o, H b = some o → NT o → H' b = some o
  tabs : Tabs T H → Tabs T H'
section
variable {T : List (Addr × Str)} {K : PySem.W.Frag} {H H' H1 H2 : Hp} {a p : Addr} {ns : List Int} {xs : List V}
theorem Nx.g (n : Nx T H H') {b : Addr} {o : HO} (h : H b = some o) (t : NT o := by trivial) : H' b = some o := n.of b o h t
theorem Nx.refl : Nx T H H := ⟨fun _ _ h _ => h, fun h => h⟩
theorem Nx.trans (n : Nx T H H1) (m : Nx T H1 H2) : Nx T H H2 := ⟨fun b o h t => m.of b o (n.of b o h t) t, fun h => m.tabs (n.tabs h)⟩
theorem Nx.same (s : Same H H') : Nx T H H' := ⟨fun b o h _ => s b o h, fun h => h.ext s⟩
theorem Nx.mk2 (e : ExtN H H') (t : Tabs T H') : Nx T H H' := ⟨fun b o h n => e b o h n.ne, fun _ => t⟩
theorem Nx.seq (n : Nx T H H') (h : SqL K H p xs) : SqL K H' p xs := by
  rcases h with (h | ⟨o, h⟩) | h
  · exact .inl (.inl (n.g h))
  · exact .inl (.inr ⟨o, n.g h⟩)
  · exact .inr h
theorem Nx.row (n : Nx T H H') (r : RowAt H a p ns) : RowAt H' a p ns := ⟨n.g r.at_, r.ne, r.fine, r.len⟩
theorem Nx.nums (n : Nx T H H') (r : Nums H a p ns) : Nums H' a p ns := ⟨n.g r.1, r.2⟩
theorem Nx.hand (n : Nx T H H') (h : HandAt H a) : HandAt H' a := by
  obtain ⟨x, y, e, r⟩ := h
  exact ⟨x, y, n.g e, r⟩
theorem Nx.trip {ts : List Addr} {L : List T3} (n : Nx T H H') (t : Trip H ts L) : Trip H' ts L := ⟨t.len, fun j b x h1 h2 => n.g (t.at_ j b x h1 h2)⟩
/-- the same, the hand apart -/
structure Ex (T : List (Addr × Str)) (a : Addr) (H H' : Hp) : Prop where
  of : ∀ b o, H b = some o → NT o → b ≠ a → H' b = some o
  hand : HandAt H a → HandAt H' a
  tabs : Tabs T H → Tabs T H'
theorem Ex.nx (n : Nx T H H') : Ex T a H H' := ⟨fun b o h t _ => n.of b o h t, n.hand, n.tabs⟩
theorem Ex.same (s : Same H H') : Ex T a H H' := .nx (.same s)
theorem tabs_hand (h : HandAt H a) (e : Ext a H H') (t : Tabs T H) : Tabs T H' := fun q hq => by
  obtain ⟨x, y, e0, _⟩ := h
  obtain ⟨ps, h1, h2, h3⟩ := t q hq
  refine ⟨ps, e.keep _ _ h1 (fun z => ?_), h2, fun pos cv hc => ?_⟩
  · rw [z, e0] at h1
    cases h1
  · obtain ⟨c, c1, c2⟩ := h3 pos cv hc
    refine ⟨c, c1, e.keep _ _ c2 fun z => ?_⟩
    rw [z, e0] at c2
    unfold CodeO at c2
    cases c2
theorem Ex.ext (e : Ext a H H') (h : HandAt H a) : Ex T a H H' := ⟨fun b o q _ n => e.keep b o q n, e.hand, tabs_hand h e⟩
theorem Ex.trans (e : Ex T a H H1) (f : Ex T a H1 H2) : Ex T a H H2 := ⟨fun b o h t n => f.of b o (e.of b o h t n) t n, fun h => f.hand (e.hand h), fun h => f.tabs (e.tabs h)⟩
theorem Ex.made (e : Ex T a H H') (n : H a = none) : Nx T H H' := ⟨fun b o h t => e.of b o h t (fun z => by rw [z, n] at h; cases h), e.tabs⟩
end
/-! ### the search, spans, pairs -/
def spCheck : L2.Sp := fun vs H Q _ => ∃ n m : Int, vs = [.int n, .int m] ∧ 0 ≤ n ∧ n < m ∧ Q .non H
def spBare (K : PySem.W.Frag) (T : List (Addr × Str)) : L2.Sp := fun vs H Q _ => ∃ (p q : Addr) (ns ms : List Int) (n : Nat), vs = [.ref p, .ref q, .int (n : Int)] ∧ SqL K H p (ns.map V.int) ∧ SqL K H q (ms.map V.int) ∧ ns.Pairwise (· ≤ ·) ∧ ms.Pairwise (· ≤ ·) ∧ n < ns.length * ms.length ∧ Tabs T H ∧
  ∀ (r : Int) (H' : Hp), Nx T H H' → cntS ns ms r ≤ n → n < cntS ns ms (r + 1) → Q (.int r) H'
def spSpan (K : PySem.W.Frag) : L2.Sp := fun vs H Q _ => ∃ (p : Addr) (ns : List Int) (n : Int), vs = [.ref p, .int n] ∧ SqL K H p (ns.map V.int) ∧ ns.Pairwise (· ≤ ·) ∧
  ∀ t, H t = none → Q (.ref t) (upd H t (.tup [.int (cntB ns n : Nat), .int (cntB ns (n + 1) : Nat)]))
/-- spans: where each begins and how long it is -/
structure Spn (H : Hp) (ts : List Addr) (ws : List (Nat × Nat)) : Prop where
  len : ts.length = ws.length
  at_ : ∀ (i : Nat) (t : Addr) (b c : Nat), ts[i]? = some t → ws[i]? = some (b, c) → H t = some (.tup [.int (b : Int), .int ((b : Int) + (c : Int))])
theorem Spn.up {H H' : Hp} {ts : List Addr} {ws : List (Nat × Nat)} (s : Spn H ts ws) (k : Same H H') : Spn H' ts ws := ⟨s.len, fun i t b c h1 h2 => k _ _ (s.at_ i t b c h1 h2)⟩
abbrev lenOf (ws : List (Nat × Nat)) : Nat := (ws.map (·.2)).sum
def spPairAt (K : PySem.W.Frag) : L2.Sp := fun vs H Q _ => ∃ (p : Addr) (ts : List Addr) (ws : List (Nat × Nat)) (n : Nat), vs = [.ref p, .int (n : Int)] ∧ SqL K H p (ts.map V.ref) ∧ Spn H ts ws ∧ n < lenOf ws ∧
  ∀ (i b c k : Nat), ws[i]? = some (b, c) → k < c → n = lenOf (ws.take i) + k → ∀ t, H t = none → Q (.ref t) (upd H t (.tup [.int (i : Int), .int ((b : Int) + (k : Int))]))
theorem lenOf_cons (w : Nat × Nat) (ws : List (Nat × Nat)) : lenOf (w :: ws) = w.2 + lenOf ws := by
  show (List.map _ (w :: ws)).sum = _
  rw [List.map_cons, List.sum_cons]
theorem lenOf_append (us ws : List (Nat × Nat)) : lenOf (us ++ ws) = lenOf us + lenOf ws := by
  show (List.map _ (us ++ ws)).sum = _
  rw [List.map_append, List.sum_append]
theorem lenOf_take {ws : List (Nat × Nat)} {i b c : Nat} (h : ws[i]? = some (b, c)) : lenOf (ws.take (i + 1)) = lenOf (ws.take i) + c := by
  rw [take_snoc h, lenOf_append]
  rfl
theorem lenOf_le (ws : List (Nat × Nat)) (i : Nat) : lenOf (ws.take i) ≤ lenOf ws := by
  have h := congrArg lenOf (List.take_append_drop i ws)
  rw [lenOf_append] at h
  omega
/-! ### counts -/
theorem cntB_none {ms : List Int} {n : Int} (h : ∀ y ∈ ms, n ≤ y) : cntB ms n = 0 := by
  unfold cntB
  rw [List.countP_eq_zero]
  intro y hy
  have := h y hy
  simp
  omega
theorem cntS_none {ns ms : List Int} {n : Int} (h : ∀ x ∈ ns, ∀ y ∈ ms, n ≤ x + y) : cntS ns ms n = 0 := by
  induction ns with
  | nil => rfl
  | cons x ns ih =>
    rw [cntS_cons, ih fun z hz => h z (List.mem_cons_of_mem _ hz), cntB_none fun y hy => by have := h x List.mem_cons_self y hy; omega]
theorem cntS_next (ms : List Int) (n : Int) : ∀ ns : List Int, cntS ns ms (n + 1) = cntS ns ms n + (ns.map fun z => ms.count (n - z)).sum
  | [] => rfl
  | x :: ns => by
    rw [cntS_cons, cntS_cons, cntS_next ms n ns, show n + 1 - x = n - x + 1 from by omega, cntB_next, List.map_cons, List.sum_cons]
    omega
/-- the k-th of the likes of v in a sorted row stands at so many below v, and k more -/
theorem like_at {ms : List Int} (hs : ms.Pairwise (· ≤ ·)) {v : Int} {k : Nat} (h : k < ms.count v) : ms[cntB ms v + k]? = some v ∧ (ms.take (cntB ms v + k)).count v = k := by
  have hn := cntB_next ms v
  have le := cntB_le ms (v + 1)
  have lt : cntB ms v + k < ms.length := by omega
  have at_ : ∀ j, cntB ms v ≤ j → j < cntB ms v + ms.count v → ms[j]? = some v := fun j h1 h2 => by
    obtain ⟨y, hy⟩ : ∃ y, ms[j]? = some y := ⟨_, List.getElem?_eq_getElem (by omega)⟩
    have k1 := cntB_lt (n := v) hs hy
    have k2 := cntB_lt (n := v + 1) hs hy
    have k3 : ¬ y < v := fun z => by have := k1.mp z; omega
    have k4 : y < v + 1 := k2.mpr (by omega)
    rw [hy, show y = v from by omega]
  refine ⟨at_ _ (by omega) (by omega), ?_⟩
  have low : (ms.take (cntB ms v)).count v = 0 := by
    rw [List.count_eq_zero]
    intro m
    obtain ⟨j, hj⟩ := List.mem_iff_getElem?.mp m
    rw [List.getElem?_take] at hj
    split at hj
    · rename_i c
      have := (cntB_lt (n := v) hs hj).mpr c
      omega
    · cases hj
  have step : ∀ j, j ≤ k → (ms.take (cntB ms v + j)).count v = j := by
    intro j
    induction j with
    | zero => intro _; exact low
    | succ j ih =>
      intro hj
      rw [show cntB ms v + (j + 1) = (cntB ms v + j) + 1 from by omega, take_snoc (at_ (cntB ms v + j) (by omega) (by omega)), List.count_append, ih (by omega)]
      simp
  exact step k (Nat.le_refl _)
/-- the so-manieth pair -/
def spSumT (K : PySem.W.Frag) (T : List (Addr × Str)) : L2.Sp := fun vs H Q _ => ∃ (p q : Addr) (ns ms : List Int) (n : Nat) (L : List T3) (w : T3), vs = [.ref p, .ref q, .int (n : Int)] ∧ SqL K H p (ns.map V.int) ∧ SqL K H q (ms.map V.int) ∧ ns.Pairwise (· ≤ ·) ∧ ms.Pairwise (· ≤ ·) ∧ ns.length ≤ 1000 ∧ ms.length ≤ 1000 ∧ Tabs T H ∧
  Tri.Ord ns ms L ∧ L[n]? = some w ∧ ∀ (t : Addr) (H' : Hp), Nx T H H' → H' t = some (.tup (tri w)) → Q (.ref t) H'
/-- from the search and the spans to what stands at a place -/
theorem sum_found {ns ms : List Int} {L : List T3} (o : Tri.Ord ns ms L) (sm : ms.Pairwise (· ≤ ·)) {n : Nat} {r : Int} {i k : Nat} {x : Int} (hx : ns[i]? = some x) (hk : k < ms.count (r - x)) (hn : n = cntS ns ms r + (((ns.take i).map fun z => ms.count (r - z)).sum + k)) :
    L[n]? = some (r, (i : Int), ((cntB ms (r - x) + k : Nat) : Int)) := by
  obtain ⟨h1, h2⟩ := like_at sm hk
  have := o.place hx h1
  rw [show x + (r - x) = r from by omega, h2] at this
  rw [hn]
  rw [show cntS ns ms r + (((ns.take i).map fun z => ms.count (r - z)).sum + k) = cntS ns ms r + ((ns.take i).map fun z => ms.count (r - z)).sum + k from by omega]
  exact this
/-- the law's head: the script, and the tables -/
def spLawT (K : PySem.W.Frag) (T : List (Addr × Str)) : L2.Sp := fun vs H Q _ => ∃ (a : Addr) (ns : List Int), vs = [.ref a] ∧ SqL K H a (ns.map V.int) ∧ ns.length ≤ 63 ∧ Tabs T H ∧ ∀ H', Q (.bl true) H'
end Sp
namespace Sp
open PySem L2 LamX Tri
/-! ### differences -/
theorem negs_count2 (v : Int) : ∀ ms : List Int, (negs ms).count (0 - v) = ms.count v
  | [] => rfl
  | y :: ms => by
    show ((0 - y) :: negs ms).count (0 - v) = _
    rw [List.count_cons, List.count_cons, negs_count2 v ms]
    by_cases h : y = v
    · rw [if_pos (by simp [h]), if_pos (by simp [h])]
    · rw [if_neg (by simp; omega), if_neg (by simpa using h)]
theorem diff_found {ns ms : List Int} {L : List T3} (o : Tri.Ord ns (negs ms) L) (sm : ms.Pairwise (· ≤ ·)) {n : Nat} {r : Int} {i k : Nat} {x : Int} (hx : ns[i]? = some x) (hk : k < ms.count (x - r)) (hn : n = cntD ns ms r + (((ns.take i).map fun z => ms.count (z - r)).sum + k)) :
    L[n]? = some (r, (i : Int), ((cntB ms (x - r) + k : Nat) : Int)) := by
  obtain ⟨h1, h2⟩ := like_at sm hk
  have h3 : (negs ms)[cntB ms (x - r) + k]? = some (0 - (x - r)) := by
    unfold negs
    rw [List.getElem?_map, h1]
    rfl
  have := o.place hx h3
  rw [show x + (0 - (x - r)) = r from by omega, negs_take, negs_count2, h2, negs_cntS] at this
  have e : (fun z => (negs ms).count (r - z)) = fun z => ms.count (z - r) := funext fun z => by rw [show r - z = 0 - (z - r) from by omega, negs_count2]
  rw [e] at this
  rw [hn, ← Nat.add_assoc]
  exact this
theorem cntD_next (ms : List Int) (n : Int) (ns : List Int) : cntD ns ms (n + 1) = cntD ns ms n + (ns.map fun z => ms.count (z - n)).sum := by
  have h := cntS_next (negs ms) n ns
  rw [negs_cntS, negs_cntS] at h
  have e : (fun z => (negs ms).count (n - z)) = fun z => ms.count (z - n) := funext fun z => by rw [show n - z = 0 - (z - n) from by omega, negs_count2]
  rw [e] at h
  exact h
def spDiffT (K : PySem.W.Frag) (T : List (Addr × Str)) : L2.Sp := fun vs H Q _ => ∃ (p q : Addr) (ns ms : List Int) (n : Nat) (L : List T3) (w : T3), vs = [.ref p, .ref q, .int (n : Int)] ∧ SqL K H p (ns.map V.int) ∧ SqL K H q (ms.map V.int) ∧ ns.Pairwise (· ≤ ·) ∧ ms.Pairwise (· ≤ ·) ∧ ns.length ≤ 1000 ∧ ms.length ≤ 1000 ∧ Tabs T H ∧
  Tri.Ord ns (negs ms) L ∧ L[n]? = some w ∧ ∀ (t : Addr) (H' : Hp), Nx T H H' → H' t = some (.tup (tri w)) → Q (.ref t) H'
def spRight22T (K : PySem.W.Frag) (T : List (Addr × Str)) : L2.Sp := fun vs H Q _ => ∃ (p q : Addr) (ns ms : List Int) (n : Nat), vs = [.ref p, .ref q, .int (n : Int)] ∧ SqL K H p (ns.map V.int) ∧ SqL K H q (ms.map V.int) ∧ ns.Pairwise (· ≤ ·) ∧ ms.Pairwise (· ≤ ·) ∧ ns.length ≤ 300 ∧ ms.length ≤ 300 ∧ n < ns.length * ms.length ∧ Tabs T H ∧
  ∀ H', Nx T H H' → Q (.bl true) H'
theorem turned_cntS (ms : List Int) (n : Int) (ns : List Int) : cntS ns (turned ms) n = cntD ns ms n := by
  have h : (turned ms).Perm (negs ms) := (List.reverse_perm ms).map _
  rw [← cntS_comm, cntS_perm h, cntS_comm, negs_cntS]
theorem turned_len (ms : List Int) : (turned ms).length = ms.length := by
  unfold turned
  rw [List.length_map, List.length_reverse]
end Sp

/-! three comparisons in one test -/
namespace Ch
open PySem PySem.Spec PyProof.Rows L2
def tChain3 (r1 r2 r3 : R2) (ta tb tc td : TE) : TT := fun σ H Q => ta σ H fun x H1 => tb σ H1 fun y H2 => r1 x y H2 fun z H3 => ∃ k, z = .bl k ∧
  (if k = true then tc σ H3 fun u H4 => r2 y u H4 fun z2 H5 => ∃ k2, z2 = .bl k2 ∧ (if k2 = true then td σ H5 fun v H6 => r3 u v H6 fun z3 H7 => ∃ k3, z3 = .bl k3 ∧ Q k3 H7 else Q false H5) else Q false H3)
theorem pt_chain3 {X : Cx} {a b c d : Expr} {ta tb tc td : TE} {pos : Pos} {o1 o2 o3 : CmpOp} {r1 r2 r3 : R2} (h1 : OpR X (compareOp o1) r1) (h2 : OpR X (compareOp o2) r2) (h3 : OpR X (compareOp o3) r3) (ha : PE X a ta) (hb : PE X b tb) (hc : PE X c tc) (hd : PE X d td)
    (hm : lastMarks [o1, o2, o3] [b, c, d] = false := by with_unfolding_all rfl) : PT X (.Compare a [o1, o2, o3] [b, c, d] pos) (tChain3 r1 r2 r3 ta tb tc td) := by
  refine ⟨fun pins s σ H Q I h => isTrue_chain (thn (ha.run pins s σ H _ I h) fun v s1 ⟨x, H1, I1, rx, q1⟩ => test_link (thn (hb.run pins s1 σ H1 _ I1 q1) fun u s2 ⟨y, H2, I2, ry, q2⟩ => thn (h1 pins s2 σ H2 x y v u _ I2 rx ry q2) fun e s3 ⟨z, H3, I3, rz, k, ez, q3⟩ => ?_)) hm⟩
  subst ez
  cases rz
  refine wpAny_truthy_bool ?_
  cases k with
  | false => exact ite_ff ⟨H3, I3, q3⟩
  | true =>
    refine ite_tt (test_link (thn (hc.run pins s3 σ H3 _ I3 q3) fun w s4 ⟨y2, H4, I4, r4, q4⟩ => thn (h2 pins s4 σ H4 y y2 u w _ I4 ry r4 q4) fun e2 s5 ⟨z2, H5, I5, rz2, k2, ez2, q5⟩ => ?_))
    subst ez2
    cases rz2
    refine wpAny_truthy_bool ?_
    cases k2 with
    | false => exact ite_ff ⟨H5, I5, q5⟩
    | true =>
      refine ite_tt (test_last (thn (hd.run pins s5 σ H5 _ I5 q5) fun w2 s6 ⟨y3, H6, I6, r6, q6⟩ => thn (h3 pins s6 σ H6 y2 y3 w w2 _ I6 r4 r6 q6) fun e3 s7 ⟨z3, H7, I7, rz3, k3, ez3, q7⟩ => ?_))
      subst ez3
      cases rz3
      exact wpAny_truthy_bool ⟨H7, I7, q7⟩
end Ch
namespace Sp
open PySem L2 LamX Tri
/-! ### within one row -/
theorem take_count {ms : List Int} (hs : ms.Pairwise (· ≤ ·)) (v : Int) : ∀ j, j ≤ ms.count v → (ms.take (cntB ms v + j)).count v = j
  | 0, _ => by
    rw [Nat.add_zero, List.count_eq_zero]
    intro m
    obtain ⟨j, hj⟩ := List.mem_iff_getElem?.mp m
    rw [List.getElem?_take] at hj
    split at hj
    · rename_i c
      have := (cntB_lt (n := v) hs hj).mpr c
      omega
    · cases hj
  | j + 1, h => by
    obtain ⟨h1, h2⟩ := like_at hs (v := v) (k := j) (by omega)
    rw [← Nat.add_assoc, take_snoc h1, List.count_append, h2]
    simp
/-- how many likes of v stand ahead of place k -/
theorem take_likes {ms : List Int} (hs : ms.Pairwise (· ≤ ·)) (v : Int) {k : Nat} (h : k ≤ cntB ms (v + 1)) : (ms.take k).count v = k - cntB ms v := by
  have hn := cntB_next ms v
  by_cases c : cntB ms v ≤ k
  · have := take_count hs v (k - cntB ms v) (by omega)
    rw [show cntB ms v + (k - cntB ms v) = k from by omega] at this
    exact this
  · have h0 := take_count hs v 0 (Nat.zero_le _)
    rw [Nat.add_zero] at h0
    have h1 : (ms.take k).count v ≤ (ms.take (cntB ms v)).count v := by
      have e : ms.take k = (ms.take (cntB ms v)).take k := by rw [List.take_take, Nat.min_eq_left (by omega)]
      rw [e]
      exact (List.take_sublist _ _).count_le _
    omega
theorem drop_likes {ms : List Int} (hs : ms.Pairwise (· ≤ ·)) (v : Int) {k : Nat} (h : k ≤ cntB ms (v + 1)) : (ms.drop k).count v = cntB ms (v + 1) - max (cntB ms v) k := by
  have hn := cntB_next ms v
  have h1 := take_likes hs v h
  have h2 : ms.count v = (ms.take k).count v + (ms.drop k).count v := by rw [← List.count_append, List.take_append_drop]
  omega
/-- likes of a first number's like by d, behind it, for the places ahead of i -/
def likeW (ns : List Int) (d : Int) (i : Nat) : Nat := ((List.range i).map fun a => (ns.drop (a + 1)).count (ns.getD a 0 + d)).sum
theorem likeW_succ {ns : List Int} {i : Nat} {x : Int} (d : Int) (h : ns[i]? = some x) : likeW ns d (i + 1) = likeW ns d i + (ns.drop (i + 1)).count (x + d) := by
  unfold likeW
  rw [List.range_succ, List.map_append, List.sum_append]
  have e : ns.getD i 0 = x := by rw [List.getD_eq_getElem?_getD, h]; rfl
  simp only [List.map_cons, List.map_nil, List.sum_cons, List.sum_nil, e]
  omega
theorem likeW_cons (x : Int) (xs : List Int) (d : Int) (i : Nat) : likeW (x :: xs) d (i + 1) = xs.count (x + d) + likeW xs d i := by
  unfold likeW
  rw [List.range_succ_eq_map, List.map_cons, List.sum_cons, List.map_map]
  rfl
theorem cntP_next (xs : List Int) (x d : Int) : (xs.countP fun y => decide (y - x < d + 1)) = (xs.countP fun y => decide (y - x < d)) + xs.count (x + d) := by
  induction xs with
  | nil => rfl
  | cons y xs ih =>
    rw [List.countP_cons, List.countP_cons, List.count_cons, ih]
    by_cases h : y - x < d
    · rw [if_pos (decide_eq_true (show y - x < d + 1 by omega)), if_pos (decide_eq_true h), if_neg (by simp; omega)]
      omega
    · by_cases h2 : y = x + d
      · rw [if_pos (decide_eq_true (show y - x < d + 1 by omega)), if_neg (by simpa using h), if_pos (by simp [h2])]
        omega
      · rw [if_neg (by simp; omega), if_neg (by simpa using h), if_neg (by simpa using h2)]
        omega
theorem cntW_next (d : Int) : ∀ ns : List Int, cntW ns (d + 1) = cntW ns d + likeW ns d ns.length
  | [] => rfl
  | x :: xs => by
    rw [List.length_cons, likeW_cons]
    show xs.countP _ + cntW xs (d + 1) = (xs.countP _ + cntW xs d) + _
    rw [cntP_next, cntW_next d xs]
    omega
theorem cntW_none : ∀ {ns : List Int}, ns.Pairwise (· ≤ ·) → cntW ns 0 = 0
  | [], _ => rfl
  | x :: xs, h => by
    obtain ⟨h1, h2⟩ := List.pairwise_cons.mp h
    show xs.countP _ + cntW xs 0 = 0
    rw [cntW_none h2, List.countP_eq_zero.mpr fun y hy => by have := h1 y hy; simp; omega]
theorem cntW_all {N : Int} : ∀ {ns : List Int}, (∀ x ∈ ns, ∀ y ∈ ns, y - x < N) → 2 * cntW ns N = ns.length * (ns.length - 1)
  | [], _ => rfl
  | x :: xs, h => by
    have e : (xs.countP fun y => decide (y - x < N)) = xs.length := List.countP_eq_length.mpr fun y hy => decide_eq_true (h x List.mem_cons_self y (List.mem_cons_of_mem _ hy))
    have ih := cntW_all (ns := xs) (N := N) fun a ha b hb => h a (List.mem_cons_of_mem _ ha) b (List.mem_cons_of_mem _ hb)
    show 2 * (xs.countP _ + cntW xs N) = _
    rw [e, List.length_cons, Nat.add_sub_cancel, Nat.mul_add, ih]
    cases hl : xs.length with
    | zero => rfl
    | succ m =>
      rw [Nat.add_sub_cancel]
      have : (m + 1) * m + 2 * (m + 1) = (m + 1 + 1) * (m + 1) := by
        rw [Nat.mul_comm (m + 1) m, ← Nat.add_mul]
      omega
/-- the place of a pair within a row -/
def aheadW (ns : List Int) (i j : Nat) (x d : Int) : Nat := cntW ns d + (likeW ns d i + ((ns.drop (i + 1)).take (j - (i + 1))).count (x + d))
theorem mid_likes {ms : List Int} (hs : ms.Pairwise (· ≤ ·)) (v : Int) {a j : Nat} (h : a ≤ j) (hj : j ≤ cntB ms (v + 1)) : ((ms.drop a).take (j - a)).count v = (j - cntB ms v) - (a - cntB ms v) := by
  have h1 := take_likes hs v (k := j) hj
  have h2 := take_likes hs v (k := a) (by omega)
  have e : ms.take j = ms.take a ++ (ms.drop a).take (j - a) := by
    rw [← List.take_add, show a + (j - a) = j from by omega]
  rw [e, List.count_append] at h1
  omega
/-- the spans of the later likes -/
def spansW (ns : List Int) (d : Int) : List (Nat × Nat) := (List.range ns.length).map fun a => (max (cntB ns (ns.getD a 0 + d)) (a + 1), (ns.drop (a + 1)).count (ns.getD a 0 + d))
theorem spansW_at {ns : List Int} {d : Int} {i : Nat} {x : Int} (h : ns[i]? = some x) : (spansW ns d)[i]? = some (max (cntB ns (x + d)) (i + 1), (ns.drop (i + 1)).count (x + d)) := by
  have hl := (List.getElem?_eq_some_iff.mp h).1
  unfold spansW
  rw [List.getElem?_map, List.getElem?_range hl]
  have e : ns.getD i 0 = x := by rw [List.getD_eq_getElem?_getD, h]; rfl
  show some (max (cntB ns (ns.getD i 0 + d)) (i + 1), (ns.drop (i + 1)).count (ns.getD i 0 + d)) = _
  rw [e]
theorem spansW_len (ns : List Int) (d : Int) : (spansW ns d).length = ns.length := by
  unfold spansW
  rw [List.length_map, List.length_range]
theorem spansW_take {ns : List Int} {d : Int} {i : Nat} (h : i ≤ ns.length) : lenOf ((spansW ns d).take i) = likeW ns d i := by
  unfold spansW likeW
  rw [← List.map_take, List.take_range, Nat.min_eq_left h]
  show (List.map _ (List.map _ _)).sum = _
  rw [List.map_map]
  rfl
theorem spansW_all (ns : List Int) (d : Int) : lenOf (spansW ns d) = likeW ns d ns.length := by
  have h := spansW_take (ns := ns) (d := d) (Nat.le_refl _)
  rw [← spansW_len ns d, List.take_length] at h
  rw [spansW_len] at h
  exact h
/-- a row's place: the later like at a span's place -/
theorem later_found {ns : List Int} (hs : ns.Pairwise (· ≤ ·)) {d : Int} {i k : Nat} {x : Int} (hd : 0 ≤ d) (hx : ns[i]? = some x) (hk : k < (ns.drop (i + 1)).count (x + d)) :
    i < max (cntB ns (x + d)) (i + 1) + k ∧ ns[max (cntB ns (x + d)) (i + 1) + k]? = some (x + d) ∧ ((ns.drop (i + 1)).take (max (cntB ns (x + d)) (i + 1) + k - (i + 1))).count (x + d) = k := by
  have hn := cntB_next ns (x + d)
  have hi : i + 1 ≤ cntB ns (x + d + 1) := by
    have := (cntB_lt (n := x + d + 1) hs hx).mp (by omega)
    omega
  have h1 := drop_likes hs (x + d) hi
  refine ⟨by omega, ?_, ?_⟩
  · have := (like_at hs (v := x + d) (k := max (cntB ns (x + d)) (i + 1) + k - cntB ns (x + d)) (by omega)).1
    rw [show cntB ns (x + d) + (max (cntB ns (x + d)) (i + 1) + k - cntB ns (x + d)) = max (cntB ns (x + d)) (i + 1) + k from by omega] at this
    exact this
  · rw [mid_likes hs (x + d) (by omega) (by omega)]
    omega
def spLater (K : PySem.W.Frag) : L2.Sp := fun vs H Q _ => ∃ (p : Addr) (ns : List Int) (d : Int), vs = [.ref p, .int d] ∧ SqL K H p (ns.map V.int) ∧ ns.Pairwise (· ≤ ·) ∧ ns.length ≤ 1000 ∧ 0 ≤ d ∧ ∀ (r : Addr) (ts : List Addr) (H' : Hp), Same H H' → H' r = some (.lst (ts.map V.ref)) → Spn H' ts (spansW ns d) → Q (.ref r) H'
def spWithT (K : PySem.W.Frag) (T : List (Addr × Str)) : L2.Sp := fun vs H Q _ => ∃ (p : Addr) (ns : List Int) (n : Nat), vs = [.ref p, .int (n : Int)] ∧ SqL K H p (ns.map V.int) ∧ ns.Pairwise (· ≤ ·) ∧ ns.length ≤ 1000 ∧ 2 * n < ns.length * (ns.length - 1) ∧ Tabs T H ∧
  ∀ (i j : Nat) (x d : Int) (t : Addr) (H' : Hp), i < j → ns[i]? = some x → ns[j]? = some (x + d) → n = aheadW ns i j x d → Nx T H H' → H' t = some (.tup (tri (d, (i : Int), (j : Int)))) → Q (.ref t) H'
def spAheadW (K : PySem.W.Frag) : L2.Sp := fun vs H Q _ => ∃ (p u : Addr) (ns : List Int) (i j : Nat) (x d : Int), vs = [.ref p, .ref u] ∧ SqL K H p (ns.map V.int) ∧ H u = some (.tup [.int (i : Int), .int (j : Int)]) ∧ ns.length ≤ 1000 ∧ i < j ∧ ns[i]? = some x ∧ ns[j]? = some (x + d) ∧
  ∀ H', Same H H' → Q (.int ((aheadW ns i j x d : Nat) : Int)) H'
def spRight24 (K : PySem.W.Frag) (T : List (Addr × Str)) : L2.Sp := fun vs H Q _ => ∃ (p : Addr) (ns : List Int) (n : Nat), vs = [.ref p, .int (n : Int)] ∧ SqL K H p (ns.map V.int) ∧ ns.Pairwise (· ≤ ·) ∧ ns.length ≤ 300 ∧ 2 * n < ns.length * (ns.length - 1) ∧ Tabs T H ∧ ∀ H', Nx T H H' → Q (.bl true) H'
/-- a place tells its pair -/
theorem aheadW_one {ns : List Int} (hs : ns.Pairwise (· ≤ ·)) {i j i' j' : Nat} {x x' d d' : Int} (h1 : i < j) (h2 : i' < j') (hx : ns[i]? = some x) (hx' : ns[i']? = some x') (hy : ns[j]? = some (x + d)) (hy' : ns[j']? = some (x' + d')) (e : aheadW ns i j x d = aheadW ns i' j' x' d') : d = d' ∧ i = i' ∧ j = j' := by
  have mono : ∀ {a b : Int}, a ≤ b → cntW ns a ≤ cntW ns b := fun {a b} h => by
    clear hx hx' hy hy' e hs
    induction ns with
    | nil => exact Nat.le_refl _
    | cons z zs ih =>
      show zs.countP _ + cntW zs a ≤ zs.countP _ + cntW zs b
      exact Nat.add_le_add (List.countP_mono_left fun y _ hy => decide_eq_true (by have := of_decide_eq_true hy; omega)) ih
  have lmono : ∀ {d : Int} {a b : Nat}, a ≤ b → b ≤ ns.length → likeW ns d a ≤ likeW ns d b := fun {d a b} h hb => by
    induction b with
    | zero => rw [show a = 0 from by omega]; exact Nat.le_refl _
    | succ b ih =>
      by_cases c : a = b + 1
      · rw [c]; exact Nat.le_refl _
      · obtain ⟨z, hz⟩ : ∃ z, ns[b]? = some z := ⟨_, List.getElem?_eq_getElem (by omega)⟩
        have := ih (by omega) (by omega)
        rw [likeW_succ d hz]
        omega
  -- below the whole of the next
  have inn : ∀ {i j : Nat} {x d : Int}, i < j → ns[i]? = some x → ns[j]? = some (x + d) → ((ns.drop (i + 1)).take (j - (i + 1))).count (x + d) < (ns.drop (i + 1)).count (x + d) := fun {i j x d} h hx hy => by
    have hl := (List.getElem?_eq_some_iff.mp hy).1
    have e1 : (ns.drop (i + 1))[j - (i + 1)]? = some (x + d) := by
      rw [List.getElem?_drop, show i + 1 + (j - (i + 1)) = j from by omega]
      exact hy
    have e2 := take_snoc e1
    have e3 : (ns.drop (i + 1)).count (x + d) = ((ns.drop (i + 1)).take (j - (i + 1) + 1)).count (x + d) + ((ns.drop (i + 1)).drop (j - (i + 1) + 1)).count (x + d) := by rw [← List.count_append, List.take_append_drop]
    rw [e2, List.count_append] at e3
    simp at e3
    omega
  have up : ∀ {i j : Nat} {x d : Int}, i < j → ns[i]? = some x → ns[j]? = some (x + d) → aheadW ns i j x d < cntW ns d + likeW ns d (i + 1) := fun {i j x d} h hx hy => by
    have := inn h hx hy
    unfold aheadW
    rw [likeW_succ d hx]
    omega
  have upA : ∀ {i j : Nat} {x d : Int}, i < j → ns[i]? = some x → ns[j]? = some (x + d) → aheadW ns i j x d < cntW ns (d + 1) := fun {i j x d} h hx hy => by
    have h1 := up h hx hy
    have hl := (List.getElem?_eq_some_iff.mp hx).1
    have h2 := lmono (d := d) (show i + 1 ≤ ns.length from hl) (Nat.le_refl _)
    rw [cntW_next]
    omega
  have lo : ∀ {i j : Nat} {x d : Int}, cntW ns d ≤ aheadW ns i j x d := fun {i j x d} => by unfold aheadW; omega
  have ed : d = d' := by
    rcases Int.lt_trichotomy d d' with c | c | c
    · have a1 := upA h1 hx hy
      have a2 := mono (show d + 1 ≤ d' from c)
      have a3 := lo (i := i') (j := j') (x := x') (d := d')
      omega
    · exact c
    · have a1 := upA h2 hx' hy'
      have a2 := mono (show d' + 1 ≤ d from c)
      have a3 := lo (i := i) (j := j) (x := x) (d := d)
      omega
  subst ed
  have ei : i = i' := by
    have b1 := up h1 hx hy
    have b2 := up h2 hx' hy'
    have l1 := (List.getElem?_eq_some_iff.mp hx).1
    have l2 := (List.getElem?_eq_some_iff.mp hx').1
    rcases Nat.lt_trichotomy i i' with c | c | c
    · have := lmono (d := d) (show i + 1 ≤ i' from c) (by omega)
      unfold aheadW at e b1 b2
      omega
    · exact c
    · have := lmono (d := d) (show i' + 1 ≤ i from c) (by omega)
      unfold aheadW at e b1 b2
      omega
  subst ei
  rw [hx] at hx'
  cases hx'
  refine ⟨rfl, rfl, ?_⟩
  have key : ∀ {j j' : Nat}, i < j → j < j' → ns[j]? = some (x + d) → ((ns.drop (i + 1)).take (j - (i + 1))).count (x + d) < ((ns.drop (i + 1)).take (j' - (i + 1))).count (x + d) := fun {j j'} a b hy => by
    have e1 : (ns.drop (i + 1))[j - (i + 1)]? = some (x + d) := by
      rw [List.getElem?_drop, show i + 1 + (j - (i + 1)) = j from by omega]
      exact hy
    have e2 := take_snoc e1
    have e3 : ((ns.drop (i + 1)).take (j - (i + 1) + 1)).count (x + d) ≤ ((ns.drop (i + 1)).take (j' - (i + 1))).count (x + d) := by
      have e4 : (ns.drop (i + 1)).take (j - (i + 1) + 1) = ((ns.drop (i + 1)).take (j' - (i + 1))).take (j - (i + 1) + 1) := by rw [List.take_take, Nat.min_eq_left (by omega)]
      rw [e4]
      exact (List.take_sublist _ _).count_le _
    rw [e2, List.count_append] at e3
    simp at e3
    omega
  unfold aheadW at e
  rcases Nat.lt_trichotomy j j' with c | c | c
  · have := key h1 c hy
    omega
  · exact c
  · have := key h2 c hy'
    omega
end Sp
namespace Sp
open PySem L2
theorem cut_mid (xs : List V) (a b : Nat) : cutV xs (some (a : Int)) (some (b : Int)) = (xs.drop a).take (b - a) := by
  unfold cutV
  rw [HT.sIx_nat, HT.sIx_nat]
  by_cases h : a ≤ xs.length
  · rw [Nat.min_eq_left h]
    by_cases h2 : b ≤ xs.length
    · rw [Nat.min_eq_left h2]
    · rw [Nat.min_eq_right (by omega), List.take_of_length_le (by rw [List.length_drop]; omega), List.take_of_length_le (by rw [List.length_drop]; omega)]
  · rw [Nat.min_eq_right (show xs.length ≤ a by omega), List.drop_of_length_le (Nat.le_refl _), List.drop_of_length_le (show xs.length ≤ a by omega), List.take_nil, List.take_nil]
theorem cnt_like (ns : List Int) (x d : Int) : (ns.countP fun v => decide (v - x = d)) = ns.count (x + d) := by
  rw [List.count_eq_countP]
  congr 1
  funext v
  by_cases h : v = x + d
  · rw [decide_eq_true (show v - x = d by omega), h]
    simp
  · rw [decide_eq_false (show ¬ v - x = d by omega)]
    simp [h]
end Sp

namespace Sp
open PySem L2 LamX Tri
/-! ### planted rows -/
theorem perm_of {α : Type} [BEq α] [LawfulBEq α] : ∀ {l1 l2 : List α}, l1.Nodup → (∀ x ∈ l1, x ∈ l2) → l2.length ≤ l1.length → l1.Perm l2
  | [], l2, _, _, h => by rw [List.length_eq_zero_iff.mp (Nat.le_zero.mp h)]
  | x :: l1, l2, nd, sub, h => by
    obtain ⟨n1, n2⟩ := List.nodup_cons.mp nd
    have m := sub x List.mem_cons_self
    have p := List.perm_cons_erase m
    have le := p.length_eq
    rw [List.length_cons] at le h
    refine (List.Perm.cons x (perm_of n2 (fun y hy => ?_) (by omega))).trans p.symm
    exact (List.mem_erase_of_ne (fun e => n1 (by rw [← e]; exact hy))).mpr (sub y (List.mem_cons_of_mem _ hy))
theorem stepped_at {b s : Int} {m i : Nat} (h : i < m) : (stepped b s m)[i]? = some (b + s * (i : Int)) := by
  unfold stepped
  rw [List.getElem?_map, List.getElem?_range h]
  rfl
theorem rep_stepped (b : Int) (m : Nat) : List.replicate m b = stepped b 0 m := by
  induction m with
  | zero => rfl
  | succ m ih => rw [stepped_succ, ← ih, List.replicate_succ', Int.zero_mul, Int.add_zero]
def stepA (kind b : Nat) (s : Int) : Int := if kind = 0 then s else if kind = 1 then s * (b : Int) else 0
def stepB (kind a : Nat) (s : Int) : Int := if kind = 0 then s * (a : Int) else if kind = 2 then 0 else s
def rowA (kind a b : Nat) (s g : Int) : List Int := stepped g (stepA kind b s) a
def rowB (kind a b : Nat) (s h : Int) : List Int := stepped h (stepB kind a s) b
def dueP (kind a b : Nat) (s g : Int) (p : Nat) : T3 :=
  if kind = 0 then (g + s * (p : Int), ((p % a : Nat) : Int), ((p / a : Nat) : Int)) else if kind = 1 then (g + s * (p : Int), ((p / b : Nat) : Int), ((p % b : Nat) : Int)) else if kind = 2 then (g, ((p / b : Nat) : Int), ((p % b : Nat) : Int)) else (g + s * ((p / a : Nat) : Int), ((p % a : Nat) : Int), ((p / a : Nat) : Int))
theorem split_a (s : Int) (a p : Nat) : s * ((p % a : Nat) : Int) + s * (a : Int) * ((p / a : Nat) : Int) = s * (p : Int) := by
  rw [Int.mul_assoc, ← Int.mul_add]
  congr 1
  have := Nat.mod_add_div p a
  rw [← Int.natCast_mul, ← Int.natCast_add, this]
theorem div_lt' {a b p : Nat} (h : p < a * b) : p / a < b := Nat.div_lt_of_lt_mul h
theorem div_mod_inj {a p q : Nat} (h1 : p / a = q / a) (h2 : p % a = q % a) : p = q := by
  have e1 := Nat.mod_add_div p a
  have e2 := Nat.mod_add_div q a
  rw [h1, h2] at e1
  omega
theorem div_mod_lt {a p q : Nat} (h : p < q) : p / a < q / a ∨ (p / a = q / a ∧ p % a < q % a) := by
  have h1 := Nat.div_le_div_right (c := a) (Nat.le_of_lt h)
  rcases Nat.lt_or_eq_of_le h1 with c | c
  · exact .inl c
  · have e1 := Nat.mod_add_div p a
    have e2 := Nat.mod_add_div q a
    rw [c] at e1
    exact .inr ⟨c, by omega⟩
theorem planted {kind a b : Nat} {s g h : Int} (hk : kind < 4) (ha : 0 < a) (hb : 0 < b) (hs : 0 < s) : Ord (rowA kind a b s g) (rowB kind a b s h) ((List.range (a * b)).map (dueP kind a b s (g + h))) := by
  have mono : ∀ {x y : Int}, x < y → s * x < s * y := fun {x y} z => Int.mul_lt_mul_of_pos_left z hs
  have put : ∀ (i j : Nat), i < a → j < b → (g + h + stepA kind b s * (i : Int) + stepB kind a s * (j : Int), (i : Int), (j : Int)) ∈ allP (rowA kind a b s g) 0 (rowB kind a b s h) := fun i j hi hj =>
    allP_mem.mpr ⟨i, j, _, _, stepped_at hi, stepped_at hj, by rw [Nat.zero_add]; congr 1; omega⟩
  have mem : ∀ p, p < a * b → dueP kind a b s (g + h) p ∈ allP (rowA kind a b s g) 0 (rowB kind a b s h) := fun p hp => by
    have hp2 : p < b * a := by rw [Nat.mul_comm]; exact hp
    have m1 := Nat.mod_lt p ha
    have m2 := Nat.mod_lt p hb
    have d1 := div_lt' hp
    have d2 := div_lt' hp2
    have sa := split_a s a p
    have sb := split_a s b p
    obtain rfl | rfl | rfl | rfl : kind = 0 ∨ kind = 1 ∨ kind = 2 ∨ kind = 3 := by omega
    · have e := put (p % a) (p / a) m1 d1
      rw [show g + h + stepA 0 b s * ((p % a : Nat) : Int) + stepB 0 a s * ((p / a : Nat) : Int) = g + h + s * (p : Int) from by
        show g + h + s * ((p % a : Nat) : Int) + s * (a : Int) * ((p / a : Nat) : Int) = _
        omega] at e
      exact e
    · have e := put (p / b) (p % b) d2 m2
      rw [show g + h + stepA 1 b s * ((p / b : Nat) : Int) + stepB 1 a s * ((p % b : Nat) : Int) = g + h + s * (p : Int) from by
        show g + h + s * (b : Int) * ((p / b : Nat) : Int) + s * ((p % b : Nat) : Int) = _
        omega] at e
      exact e
    · have e := put (p / b) (p % b) d2 m2
      rw [show g + h + stepA 2 b s * ((p / b : Nat) : Int) + stepB 2 a s * ((p % b : Nat) : Int) = g + h from by
        show g + h + 0 * ((p / b : Nat) : Int) + 0 * ((p % b : Nat) : Int) = _
        omega] at e
      exact e
    · have e := put (p % a) (p / a) m1 d1
      rw [show g + h + stepA 3 b s * ((p % a : Nat) : Int) + stepB 3 a s * ((p / a : Nat) : Int) = g + h + s * ((p / a : Nat) : Int) from by
        show g + h + 0 * ((p % a : Nat) : Int) + s * ((p / a : Nat) : Int) = _
        omega] at e
      exact e
  have inj : ∀ p q, dueP kind a b s (g + h) p = dueP kind a b s (g + h) q → p = q := fun p q e => by
    obtain rfl | rfl | rfl | rfl : kind = 0 ∨ kind = 1 ∨ kind = 2 ∨ kind = 3 := by omega
    all_goals
      have e2 := congrArg (fun t : T3 => t.2.1) e
      have e3 := congrArg (fun t : T3 => t.2.2) e
    · exact div_mod_inj (Int.ofNat.inj e3) (Int.ofNat.inj e2)
    · exact div_mod_inj (Int.ofNat.inj e2) (Int.ofNat.inj e3)
    · exact div_mod_inj (Int.ofNat.inj e2) (Int.ofNat.inj e3)
    · exact div_mod_inj (Int.ofNat.inj e3) (Int.ofNat.inj e2)
  refine ⟨perm_of ?_ (fun x hx => ?_) ?_, ?_⟩
  · refine List.pairwise_map.mpr (List.nodup_range.imp fun {p q} ne e => ne (inj p q e))
  · obtain ⟨p, hp, rfl⟩ := List.mem_map.mp hx
    exact mem p (List.mem_range.mp hp)
  · rw [allP_len, List.length_map, List.length_range]
    unfold rowA rowB
    rw [stepped_len, stepped_len]
    exact Nat.le_refl _
  · refine List.pairwise_map.mpr (List.pairwise_lt_range.imp fun {p q} lt => ?_)
    have lt' : (p : Int) < (q : Int) := by omega
    have m0 := mono lt'
    unfold before
    obtain rfl | rfl | rfl | rfl : kind = 0 ∨ kind = 1 ∨ kind = 2 ∨ kind = 3 := by omega
    · show ¬ (g + h + s * (q : Int) < g + h + s * (p : Int) ∨ (g + h + s * (q : Int) = g + h + s * (p : Int) ∧ _))
      omega
    · show ¬ (g + h + s * (q : Int) < g + h + s * (p : Int) ∨ (g + h + s * (q : Int) = g + h + s * (p : Int) ∧ _))
      omega
    · show ¬ (g + h < g + h ∨ (g + h = g + h ∧ (((q / b : Nat) : Int) < ((p / b : Nat) : Int) ∨ (((q / b : Nat) : Int) = ((p / b : Nat) : Int) ∧ ((q % b : Nat) : Int) < ((p % b : Nat) : Int)))))
      have := div_mod_lt (a := b) lt
      omega
    · show ¬ (g + h + s * ((q / a : Nat) : Int) < g + h + s * ((p / a : Nat) : Int) ∨ (g + h + s * ((q / a : Nat) : Int) = g + h + s * ((p / a : Nat) : Int) ∧ (((q % a : Nat) : Int) < ((p % a : Nat) : Int) ∨ (((q % a : Nat) : Int) = ((p % a : Nat) : Int) ∧ ((q / a : Nat) : Int) < ((p / a : Nat) : Int)))))
      rcases div_mod_lt (a := a) lt with c | ⟨c, c2⟩
      · have := mono (show ((p / a : Nat) : Int) < ((q / a : Nat) : Int) by omega)
        omega
      · rw [c]
        omega
theorem rowA_sorted {kind a b : Nat} {s g : Int} (hs : 0 < s) : (rowA kind a b s g).Pairwise (· ≤ ·) := by
  refine stepped_sorted ?_ _
  unfold stepA
  split
  · omega
  · split
    · exact Int.mul_nonneg (by omega) (by omega)
    · omega
theorem rowB_sorted {kind a b : Nat} {s g : Int} (hs : 0 < s) : (rowB kind a b s g).Pairwise (· ≤ ·) := by
  refine stepped_sorted ?_ _
  unfold stepB
  split
  · exact Int.mul_nonneg (by omega) (by omega)
  · split <;> omega
theorem rowA_len (kind a b : Nat) (s g : Int) : (rowA kind a b s g).length = a := stepped_len _ _ _
theorem rowB_len (kind a b : Nat) (s g : Int) : (rowB kind a b s g).length = b := stepped_len _ _ _
def spMidT (K : PySem.W.Frag) (T : List (Addr × Str)) : L2.Sp := fun vs H Q _ => ∃ (p q : Addr) (ns ms : List Int) (L : List T3) (w : T3), vs = [.ref p, .ref q] ∧ SqL K H p (ns.map V.int) ∧ SqL K H q (ms.map V.int) ∧ ns.Pairwise (· ≤ ·) ∧ ms.Pairwise (· ≤ ·) ∧ ns.length ≤ 1000 ∧ ms.length ≤ 1000 ∧ Tabs T H ∧
  Tri.Ord ns ms L ∧ L[ns.length * ms.length / 2]? = some w ∧ ∀ (t : Addr) (H' : Hp), Nx T H H' → H' t = some (.tup (tri w)) → Q (.ref t) H'
def spDue12 (K : PySem.W.Frag) : L2.Sp := fun vs H Q _ => ∃ (m : Addr) (kind a b p : Nat) (s g : Int), vs = [.int (kind : Int), .ref m, .int s, .int g, .int (p : Int)] ∧ H m = some (.tup [.int (a : Int), .int (b : Int)]) ∧ kind < 4 ∧ 0 < a ∧ a ≤ 300 ∧ 0 < b ∧ b ≤ 300 ∧ p < 90000 ∧ 0 < s ∧ s ≤ 1000000001 ∧
  ∀ t, H t = none → Q (.ref t) (upd H t (.tup (tri (dueP kind a b s g p))))
def spRows12 : L2.Sp := fun vs H Q _ => ∃ (m : Addr) (kind a b : Nat) (s g h : Int), vs = [.int (kind : Int), .ref m, .int s, .int g, .int h] ∧ H m = some (.tup [.int (a : Int), .int (b : Int)]) ∧ kind < 4 ∧ 0 < a ∧ a ≤ 300 ∧ 0 < b ∧ b ≤ 300 ∧ 0 < s ∧ s ≤ 1000000001 ∧
  ∀ (t p q : Addr) (H' : Hp), Same H H' → H p = none → H q = none → H t = none → H' t = some (.tup [.ref p, .ref q]) → H' p = some (.lst ((rowA kind a b s g).map V.int)) → H' q = some (.lst ((rowB kind a b s h).map V.int)) → Q (.ref t) H'
end Sp

/-! an exception that is caught and kept by a name. -/
namespace Xc
open PySem PySem.Spec PyProof.Rows L2
/-- the object at a is an exception of the class cls -/
def ExK (cls : Value) (a : Addr) : HO := .ext fun h => ∃ (oe : Obj) (vs : Array Value), h.get? a = some oe ∧ Zc cls none oe ∧ oe.data = .fields vs
section
variable {X : Cx} {pins : List (Addr × Obj)} {σ : L2.St} {H : Hp} {s : Shared}
/-- a pinned exception is tracked from now on -/
theorem tracked {a : Addr} {oe : Obj} {vs : Array Value} {cls : Value} (I : Inv X ((a, oe) :: pins) σ H s) (z : Zc cls none oe) (dd : oe.data = .fields vs) (new : X.s_0.heap.get? a = none) (apart : ∀ p ∈ X.pn ++ pins, p.1 ≠ a) : Inv X pins σ (upd H a (ExK cls a)) s := by
  obtain ⟨at_, off, nl, nf, nc⟩ := I.pin (a, oe) (List.mem_append_right _ List.mem_cons_self)
  have old : ∀ b o, X.s_0.heap.get? b = some o → b ≠ a := fun b o e q => by
    rw [q, new] at e
    cases e
  have seen : ∀ {b o}, H b = some o → upd H a (ExK cls a) b = some o := fun {b o} e => by
    rw [upd_ne (fun q => by rw [q, off] at e; cases e)]
    exact e
  refine ⟨I.ok, I.os, I.bare, ⟨I.base.keep, I.base.slot, fun b o e n x => ?_, I.base.there, fun b xs e => seen (I.base.tups b xs e), fun b o u e => seen (I.base.frzs b o u e), fun b ps e => ?_⟩, I.loc, I.cell, ?_, fun y c e => ?_, fun p hp => ?_, fun b u e => ?_, I.len⟩
  · rw [upd_ne (old b o e)]
    exact I.base.free b o e n x
  · obtain ⟨m, q⟩ := I.base.tbls b ps e
    exact ⟨m, seen q⟩
  · rw [upd_ne nl.symm]
    exact I.free
  · obtain ⟨v, o, ho, hd⟩ := I.cell y c e
    rw [upd_ne (fun q => by rw [q, at_] at ho; cases ho; rw [dd] at hd; cases hd)]
    exact I.freeC y c e
  · have hp2 : p ∈ X.pn ++ (a, oe) :: pins := by
      rcases List.mem_append.mp hp with m | m
      · exact List.mem_append_left _ m
      · exact List.mem_append_right _ (List.mem_cons_of_mem _ m)
    obtain ⟨q1, q2, q3⟩ := I.pin p hp2
    exact ⟨q1, by rw [upd_ne (apart p hp)]; exact q2, q3⟩
  · by_cases c : b = a
    · subst c
      rw [upd_same] at e
      cases e
      exact ⟨⟨oe, vs, at_, z, dd⟩, ⟨oe, at_⟩, fun h1 h2 ⟨o1, v1, e1, z1, d1⟩ st => ⟨o1, v1, st _ e1, z1, d1⟩⟩
    · rw [upd_ne c] at e
      exact (I.hok b u e).stay (fun _ _ _ q => q) (fun _ q => seen q) fun _ _ q => seen q
end
/-- what the clause «except x as n: m = n» wishes: it always catches; the slot j holds the exception -/
def wKeep (K : PySem.W.Frag) (c : Value) (i j : Nat) (D : Ends) : WX := fun cls d σ H => d = none ∧ PySem.W.exmOne K cls c = some true ∧ ∀ a, H a = none → D.nx ((σ.set j (some (.ref a))).set i none) (upd H a (ExK cls a))
section
variable {X : Cx} {x n : Str} {c : Value} {i j : Nat} {body : List Stmt} {b₀ : Stmt} {np pos pos' : Pos} {tb : WX → TS}
theorem ps_try_keep (st : X.stack = X.env :: X.outer) (fr : X.env.frame = some X.env.locals) (nd : X.N.Nodup) (ix : X.N[i]? = some n) (lo : X.env.kindOf n = some .local) (nm : Names X x c) (ji : i ≠ j) (noex : X.ex = [])
    (run : ∀ (W : WX) (pn : List (Addr × Obj)) (xe : Value → Shared → Prop), Takes (X.tr pn xe) W → PassesOwn (model X.prog X.w) X.A X.env xe → PSs (X.tr pn xe) body (tb W))
    (keep : ∀ (a : Addr) (pn : List (Addr × Obj)), PSs (X.suite a pn) [b₀] (fun D σ H => ∃ v, σ[i]? = some (some v) ∧ D.nx (σ.set j (some v)) H)) :
    PS X (.Try body [.ExceptHandler (some (.Name x np)) (some n) [b₀] pos'] [] [] pos) (fun D σ H => tb (wKeep X.K c i j D) D σ H) := by
  refine ⟨fun pins z σ H D I h => ?_⟩
  have good := I.ok
  have frames : X.A.frames = some (X.env :: X.outer) := good.frames.trans (congrArg some st)
  refine wpAny_Try_except (wpAny_mono ((run (wKeep X.K c i j D) (X.pn ++ pins) (fun e y => wpAny (model X.prog X.w) X.A (noteFrame e X.env) (fun _ y2 => wpAny (model X.prog X.w) X.A (setFlight e none) (fun _ y3 =>
    wpAny (model X.prog X.w) X.A (handleBy e X.env [.ExceptHandler (some (.Name x np)) (some n) [b₀] pos']) (SP X pins D) X.xe y3) X.xe y2) X.xe y) (fun u y air => ?_) PassesOwn.looking).run [] z σ H D (I.toTry _) h) (fun fl y done => ?_) (fun _ _ q => q))
  · obtain ⟨a, B, y0, pins0, τ, G, cls, d, rfl, I0, inB, up, sky, off, os, bare, rfl, yes, go⟩ := air
    have I1 : Inv X pins τ G y0 := I0.ofTry good
    rw [st] at sky
    show wpAny (model X.prog X.w) X.A (noteFrame (.ref a) X.env) _ _ _
    refine Sky.land Zc.steady frames fr sky fun g3 fl3 up3 => ?_
    have I3 : Inv X pins τ G { y with heap := g3 } := I1.landed inB fl3.1 (up.trans up3) os bare
    obtain ⟨o3, v3, at3, z3, d3⟩ := fl3.there
    have nofr : a ∉ frs (X.env :: X.outer) := fun m => by
      obtain ⟨_, o, e, w⟩ := fl3.2.2.1.mem m
      rw [at3] at e
      cases e
      exact w _ d3
    have nl : a ≠ X.env.locals := fun q => nofr (List.mem_filterMap.mpr ⟨X.env, List.mem_cons_self, fr.trans (congrArg some q.symm)⟩)
    have nf : a ∉ X.fs := fun m => nofr (let ⟨e, h1, h2⟩ := List.mem_filterMap.mp m; List.mem_filterMap.mpr ⟨e, List.mem_cons_of_mem _ h1, h2⟩)
    have notB : B.get? a = none := fl3.2.1
    have newer : ∀ b o, y0.heap.get? b = some o → b ∉ frs X.stack → b ≠ a := fun b o e nb q => by
      have e2 := inB b o e nb
      rw [q, notB] at e2
      cases e2
    have new0 : X.s_0.heap.get? a = none := by
      cases e : X.s_0.heap.get? a with
      | none => rfl
      | some o =>
        obtain ⟨o2, e2⟩ := I1.base.there a o e (by rw [noex]; exact fun m => nomatch m)
        exact absurd rfl (newer a o2 e2 (by rw [st]; exact nofr))
    have apart : ∀ p ∈ X.pn ++ pins, p.1 ≠ a := fun p hp => by
      obtain ⟨e, _, q1, q2, _⟩ := I1.pin p hp
      refine newer p.1 p.2 e fun m => ?_
      rw [st] at m
      rcases List.mem_filterMap.mp m with ⟨env, h1, h2⟩
      rcases List.mem_cons.mp h1 with rfl | h1
      · rw [fr] at h2
        exact q1 (Option.some.inj h2).symm
      · exact q2 (List.mem_filterMap.mpr ⟨env, h1, h2⟩)
    have U3 := I3.suite at3 d3 off nl nf
    refine wpAny_handleBy_cons (codeAny_handlers_test ?_) (by intro q; cases q)
    have looks : PySem.W.Looks (model X.prog X.w) g3 (typeOf (.ref a)) cls := fun _ _ _ _ k q => wpAny_typeOf_ref (k _ _ at3) (by rw [z3.1]; exact q)
    have asks := PySem.W.exm_one (M := model X.prog X.w) I3.kIn looks yes
    have named : ∀ {R E : Value → Shared → Prop}, R c { y with heap := g3 } → wpAny (model X.prog X.w) (X.A.mark (some (.ref a))) (eval (.Name x np) X.env) R E { y with heap := g3 } := fun {R E} r => by
      obtain ⟨k1, k2, k3 | ⟨k3, k4, k5⟩⟩ := nm
      · exact ld_glob (X := X.suite a ((a, o3) :: (X.pn ++ pins))) U3 k1 k3 r k2
      · exact ld_blt (X := X.suite a ((a, o3) :: (X.pn ++ pins))) U3 k1 k3 k4 r k5 k2
    refine named (asks.here (codeAny_handlers_suite_as (HandSPX.lands_againZ fl3 fun g4 fl4 up4 => ?_)))
    have I4 : Inv X pins τ G { y with heap := g4 } := I1.landed inB fl4.1 ((up.trans up3).trans up4) os bare
    obtain ⟨o4, v4, at4, z4, d4⟩ := fl4.there
    have U4 := I4.suite at4 d4 off nl nf
    refine store_ok (X := X.suite a ((a, o4) :: (X.pn ++ pins))) (v := .ref a) U4 nd ix (.inl lo) rfl (fun y5 U5 => ?_) (.inr lo)
    have len : i < τ.length := by rw [I4.len]; exact (List.getElem?_eq_some_iff.mp ix).1
    refine wpAny_mono ((keep a ((a, o4) :: (X.pn ++ pins))).run [] y5 _ G { nx := fun τ' G' => τ' = (τ.set i (some (.ref a))).set j (some (.ref a)) ∧ G' = G, rt := fun _ _ => False } U5 ⟨.ref a, List.getElem?_set_self len, rfl, rfl⟩) (fun fl y6 done => ?_) (fun _ _ q => False.elim q)
    cases fl with
    | ret u => obtain ⟨_, _, _, _, _, q⟩ := done; exact q.elim
    | brk => obtain ⟨_, _, _, q⟩ := done; exact q.elim
    | cont => obtain ⟨_, _, _, q⟩ := done; exact q.elim
    | next =>
      obtain ⟨τ6, G6, U6, e1, e2⟩ := done
      subst e1 e2
      have I6 : Inv X ((a, o4) :: pins) ((τ.set i (some (.ref a))).set j (some (.ref a))) G6 y6 := ⟨good, U6.os, U6.bare, U6.base, U6.loc, U6.cell, U6.free, U6.freeC, fun p hp => U6.pin p (by
        rcases List.mem_append.mp hp with m | m
        · exact List.mem_append_left _ (List.mem_cons_of_mem _ (List.mem_append_left _ m))
        · rcases List.mem_cons.mp m with rfl | m
          · exact List.mem_append_left _ List.mem_cons_self
          · exact List.mem_append_left _ (List.mem_cons_of_mem _ (List.mem_append_right _ m))), U6.hok, U6.len⟩
      refine gone_ok I6 nd ix lo fun y7 I7 => ?_
      refine ⟨_, _, tracked I7 z4 d4 new0 apart, ?_⟩
      have e : ((τ.set i (some (V.ref a))).set j (some (V.ref a))).set i none = (τ.set j (some (V.ref a))).set i none := by
        rw [List.set_comm _ _ ji, List.set_set]
      rw [e]
      exact go a off
  · cases fl with
    | next => exact wpAny_execs_nil (let ⟨τ, G, I2, q⟩ := done; ⟨τ, G, I2.ofTry good, q⟩)
    | ret u => exact (let ⟨v, τ, G, I2, r, q⟩ := done; ⟨v, τ, G, I2.ofTry good, r, q⟩)
    | brk => exact (let ⟨τ, G, I2, q⟩ := done; ⟨τ, G, I2.ofTry good, q⟩)
    | cont => exact (let ⟨τ, G, I2, q⟩ := done; ⟨τ, G, I2.ofTry good, q⟩)
end
/-- isinstance of a kept exception of the class at D: of a class, of a tuple of classes -/
def rIsK (K : PySem.W.Frag) (D : Addr) : List V → Hp → VK → Prop := fun xs H Q => ∃ (a : Addr) (c : V) (b : Bool), xs = [.ref a, c] ∧ H a = some (ExK (.ref D) a) ∧
  ((∃ cv, (∀ u, RelV c u → u = cv) ∧ PySem.W.kitOne K (.ref D) cv = some b) ∨ (∃ (t : Addr) (cs : List V), c = .ref t ∧ H t = some (.tup cs) ∧ ∀ us, Vals cs us → PySem.W.kitAny K (.ref D) us = some b)) ∧ Q (.bl b) H
theorem call_isK {X : Cx} {D : Addr} (C : ExcC X.K D) : CallR X (.builtin "isinstance") (rIsK X.K D) := by
  intro pins z σ H xs us Q I r h
  obtain ⟨a, c, b, rfl, hk, hc, q⟩ := h
  match r with
  | .cons ra (.cons rc .nil) =>
    cases ra
    obtain ⟨⟨oe, vs, at_, zc, dd⟩, _⟩ := I.hok a _ hk
    have J : PySem.W.InstAt z.heap a oe D none := by
      obtain ⟨oc, od, oda, osl⟩ := oe
      obtain ⟨e1, e2⟩ := zc
      dsimp only at e1 e2 dd
      subst e1 e2 dd
      exact ⟨at_, rfl, rfl, trivial⟩
    have Z := PySem.W.handS_kitx_exc (x := a) (ox := oe) C.hg C.hk C.hs C.hd C.ha C.hn C.ht C.hm
    rcases hc with ⟨cv, one, e⟩ | ⟨t, cs, rfl, ht, all⟩
    · have ec := one _ rc
      subst ec
      exact PySem.W.kia_one Z I.kIn J e (fun w => nomatch w) fun tk => ⟨.bl b, H, I.kept (t' := tk) fun _ _ w => w, rfl, q⟩
    · cases rc
      obtain ⟨_, its, rv, o, ho, hcl, n, hd⟩ := I.hok t _ ht
      obtain ⟨oc, od, oda, osl⟩ := o
      dsimp only at hcl hd
      subst hcl hd
      exact PySem.W.kia_tup Z I.kIn J ho (by simpa using all its rv) (fun w => nomatch w) fun tk => ⟨.bl b, H, I.kept (t' := tk) fun _ _ w => w, rfl, q⟩
/-- a def that may raise, by its name -/
structure CalX (P : Program) (w : World) (K : PySem.W.Frag) (mg : Str → Option Value) (base : Heap) (k : Nat) (x : Str) (ps : List Str) (sp : L2.Sp) : Prop where
  ex : ∃ (f : Addr) (fd : FuncData), FnOk P w K mg base (L2.CX P w) k f fd ps sp ∧ mg x = some (.ref f) ∧ PySem.W.keepIn K (.ref f) = true ∧ Binds K fd ps []
theorem pe_ownX {X : Cx} {k : Nat} {x : Str} {ps : List Str} {sp : L2.Sp} {E : XK} {W : WX} {e : Expr} {es : List Expr} {t : TA} {p pos : Pos} (c : CalX X.prog X.w X.K X.mg X.base k x ps sp) (hr : Room k X.A) (hg : Gl X x) (ha : PA X (e :: es) t) (tk : Takes X W) (hW : ∀ cls d σ H, E cls d H → W cls d σ H)
    (hdb : (x == ("__debug__" : Str)) = false := by decide) (he : starEach (e :: es) X.env = (false, eval e X.env) :: starEach es X.env := by rfl) (hpl : (backTo pos (starEach es X.env)).any (·.1) = false := by rfl) :
    PE X (.Call (.Name x p) (e :: es) [] pos) (tCall sp [] E t) := by
  obtain ⟨f, fd, F, m, kp, b⟩ := c.ex
  exact pe_call F hr hg m kp b .nil (passes_call tk hW) ha hdb he hpl
end Xc
namespace Sp
open PySem L2 LamX Tri Xc
/-! ### what is no place -/
def Bad (K : PySem.W.Frag) (H : Hp) (x : V) (m : Int) : Prop := (∃ n, x = .int n ∧ ¬ (0 ≤ n ∧ n < m)) ∨ NoInt K H x
def spCheckR (K : PySem.W.Frag) (C : Addr) : L2.Sp := fun vs H _ E => ∃ (x : V) (m : Int), vs = [x, .int m] ∧ Bad K H x m ∧ E (.ref C) none H
def spSumR (K : PySem.W.Frag) (C : Addr) : L2.Sp := fun vs H _ E => ∃ (p q : Addr) (ns ms : List Int) (x : V), vs = [.ref p, .ref q, x] ∧ SqL K H p (ns.map V.int) ∧ SqL K H q (ms.map V.int) ∧ ns.length ≤ 1000 ∧ ms.length ≤ 1000 ∧ Bad K H x ((ns.length : Int) * (ms.length : Int)) ∧ E (.ref C) none H
def spMidR (K : PySem.W.Frag) (C : Addr) : L2.Sp := fun vs H _ E => ∃ (p q : Addr) (ns ms : List Int), vs = [.ref p, .ref q] ∧ SqL K H p (ns.map V.int) ∧ SqL K H q (ms.map V.int) ∧ ns.length ≤ 1000 ∧ ms.length ≤ 1000 ∧ (ns = [] ∨ ms = []) ∧ E (.ref C) none H
/-- what the top has written of the class of the refusal -/
structure NoP (K : PySem.W.Frag) (mg : Str → Option Value) (C S : Addr) : Prop where
  gC : mg "NoPlace" = some (.ref C)
  gS : mg "SumError" = some (.ref S)
  xC : PySem.W.excIn K C [.type "ValueError", .type "Exception", .type "BaseException", .type "object"] "ValueError.__new__" = true
  kC : PySem.W.keepIn K (.ref C) = true
  bC : PySem.W.subIn K (.ref C) (.type "BaseException") = some true
  tC : PySem.W.typeIn K (.ref C) = some (.type "type")
  eC : PySem.W.exmOne K (.ref C) (.ref S) = some true
  is : ExcC K C
end Sp
namespace Xc
open PySem PySem.Spec PyProof.Rows L2
theorem pe_ownS {X : Cx} {k : Nat} {x : Str} {ps : List Str} {sp : L2.Sp} {W : WX} {e : Expr} {es : List Expr} {t : TA} {p pos : Pos} (c : CalX X.prog X.w X.K X.mg X.base k x ps sp) (hr : Room k X.A) (hg : Gl X x) (ha : PA X (e :: es) t) (tk : Takes X W)
    (hdb : (x == ("__debug__" : Str)) = false := by decide) (he : starEach (e :: es) X.env = (false, eval e X.env) :: starEach es X.env := by rfl) (hpl : (backTo pos (starEach es X.env)).any (·.1) = false := by rfl) :
    PE X (.Call (.Name x p) (e :: es) [] pos) (tCallS sp (fun σ cls d H => W cls d σ H) t) := by
  obtain ⟨f, fd, F, m, kp, b⟩ := c.ex
  exact pe_callS F hr hg m kp b (fun σ => passAt tk σ) ha hdb he hpl
end Xc
namespace Sp
open PySem L2 LamX Tri Xc
structure Flg (K : PySem.W.Frag) (mg : Str → Option Value) (C C1 C2 C3 C4 : Addr) : Prop where
  g1 : mg "NoCommand" = some (.ref C1)
  g2 : mg "NoSide" = some (.ref C2)
  g3 : mg "NoNumber" = some (.ref C3)
  g4 : mg "NoText" = some (.ref C4)
  no : PySem.W.kitAny K (.ref C) [.ref C1, .ref C3, .ref C2, .ref C4] = some false
  yes : PySem.W.kitOne K (.ref C) (.ref C) = some true
  val : PySem.W.kitOne K (.ref C) (.type "ValueError") = some true
def spFlags (K : PySem.W.Frag) (C : Addr) : L2.Sp := fun vs H Q _ => ∃ a : Addr, vs = [.ref a] ∧ H a = some (ExK (.ref C) a) ∧ ∀ H', Same H H' → Q (.bl true) H'
def spRight09 (K : PySem.W.Frag) (T : List (Addr × Str)) : L2.Sp := fun vs H Q _ => ∃ (p q : Addr) (ns ms : List Int), vs = [.ref p, .ref q] ∧ SqL K H p (ns.map V.int) ∧ SqL K H q (ms.map V.int) ∧ Fine ns ∧ Fine ms ∧ ns.length ≤ 300 ∧ ms.length ≤ 300 ∧ Tabs T H ∧ ∀ H', Nx T H H' → Q (.bl true) H'
end Sp
namespace Sp
open PySem L2 LamX Tri Xc
theorem dpAll_trips {K : PySem.W.Frag} {H : Hp} : ∀ {us : List Addr} {L : List T3}, Trip H us L → DpAll K H (us.map V.ref) (L.map fun w => (dt w : PyData))
  | [], [], _ => .nil
  | [], _ :: _, t => absurd t.len (by simp)
  | _ :: _, [], t => absurd t.len (by simp)
  | u :: us, w :: L, t => .cons (dp_tri (t.at_ 0 u w rfl rfl)) (dpAll_trips ⟨by have := t.len; simp at this; exact this, fun j b x h1 h2 => t.at_ (j + 1) b x h1 h2⟩)
theorem dp_trips {K : PySem.W.Frag} {H : Hp} {r : Addr} {us : List Addr} {L : List T3} (er : H r = some (.lst (us.map V.ref))) (t : Trip H us L) : Dp K H (.ref r) (.list (L.map fun w => (dt w : PyData))) := .lst (SqL.new er) (dpAll_trips t)
theorem lay_trips : ∀ L : List T3, PyData.canLayAll0 (L.map fun w => (dt w : PyData)) = true
  | [] => by rw [List.map_nil, PyData.canLayAll0]
  | w :: L => by rw [List.map_cons, PyData.canLayAll0, lay_trips L, lay_tri]; rfl
theorem dep_tri (w : T3) : PyData.depth (dt w) ≤ 1 := by
  simp only [PyData.depth, PyData.depthAll]
  decide
theorem dep_trips : ∀ L : List T3, PyData.depthAll (L.map fun w => (dt w : PyData)) ≤ 1
  | [] => by rw [List.map_nil, PyData.depthAll]; decide
  | w :: L => by
    rw [List.map_cons, PyData.depthAll]
    have h1 := dep_trips L
    have h2 := dep_tri w
    omega
theorem shaped_trips (L : List T3) : SeqAt.shaped (.list (L.map fun w => (dt w : PyData))) = true := by
  have h := dep_trips L
  unfold SeqAt.shaped
  simp only [PyData.canLay0, lay_trips, PyData.depth]
  simp
  omega
theorem eqv_trips_nil {L : List T3} (h : L ≠ []) : PyData.eqv (.list (L.map fun w => (dt w : PyData))) (di []) = false := by
  cases L with
  | nil => exact absurd rfl h
  | cons w L =>
    rw [PyData.eqv]
    rfl
end Sp
namespace Sp
open PySem L2 LamX Tri Xc
theorem TyX.nx {T : List (Addr × Str)} {K : PySem.W.Frag} {H H' : Hp} {x : V} {t : Value} (n : Nx T H H') (h : TyX K H x t) : TyX K H' x t := by
  cases h with
  | base b =>
    cases b with
    | non => exact .base .non
    | bl y => exact .base (.bl y)
    | int i => exact .base (.int i)
    | str y => exact .base (.str y)
    | flt y => exact .base (.flt y)
    | lst e => exact .base (.lst (n.g e))
    | frz e => exact .base (.frz (n.g e))
    | tup e => exact .base (.tup (n.g e))
    | dK e => exact .base (.dK (n.g e))
    | dT e => exact .base (.dT (n.g e))
    | ins e c1 c2 c3 c4 c5 => exact .base (.ins (n.g e) c1 c2 c3 c4 c5)
  | byt b => exact .byt b
  | set e => exact .set (n.g e)
  | kList e c => exact .kList e c
  | kTuple e c => exact .kTuple e c
  | kDict e c => exact .kDict e c
  | fTuple e => exact .fTuple (n.g e)
  | fDict e => exact .fDict (n.g e)
theorem NoInt.nx {T : List (Addr × Str)} {K : PySem.W.Frag} {H H' : Hp} {x : V} (n : Nx T H H') (h : NoInt K H x) : NoInt K H' x := let ⟨t, m, y⟩ := h; ⟨t, m, TyX.nx n y⟩
theorem Bad.nx {T : List (Addr × Str)} {K : PySem.W.Frag} {H H' : Hp} {x : V} {m : Int} (n : Nx T H H') (h : Bad K H x m) : Bad K H' x m := h.imp id (NoInt.nx n)
theorem Bad.up {K : PySem.W.Frag} {H H' : Hp} {x : V} {m : Int} (s : Same H H') (h : Bad K H x m) : Bad K H' x m := h.imp id (NoInt.up s)
theorem no_bl {K : PySem.W.Frag} {H : Hp} {b : Bool} : NoInt K H (.bl b) := ⟨"bool", by decide, .base (.bl b)⟩
theorem no_str {K : PySem.W.Frag} {H : Hp} {z : Str} : NoInt K H (.str z) := ⟨"str", by decide, .base (.str z)⟩
theorem no_non {K : PySem.W.Frag} {H : Hp} : NoInt K H .non := ⟨"NoneType", by decide, .base .non⟩
theorem no_lst {K : PySem.W.Frag} {H : Hp} {p : Addr} {xs : List V} (h : H p = some (.lst xs)) : NoInt K H (.ref p) := ⟨"list", by decide, .base (.lst h)⟩
theorem no_tup {K : PySem.W.Frag} {H : Hp} {p : Addr} {xs : List V} (h : H p = some (.tup xs)) : NoInt K H (.ref p) := ⟨"tuple", by decide, .base (.tup h)⟩
theorem no_dct {K : PySem.W.Frag} {H : Hp} {p : Addr} (h : H p = some (.dK [])) : NoInt K H (.ref p) := ⟨"dict", by decide, .base (.dK h)⟩
/-- what is no place of so many, nor of none -/
def Bad2 (K : PySem.W.Frag) (H : Hp) (x : V) (m : Int) : Prop := Bad K H x m ∧ Bad K H x 0
theorem Bad2.no {K : PySem.W.Frag} {H : Hp} {x : V} {m : Int} (h : NoInt K H x) : Bad2 K H x m := ⟨.inr h, .inr h⟩
theorem Bad2.int {K : PySem.W.Frag} {H : Hp} {n m : Int} (h : ¬ (0 ≤ n ∧ n < m)) : Bad2 K H (.int n) m := ⟨.inl ⟨n, rfl, h⟩, .inl ⟨n, rfl, by omega⟩⟩
theorem Bad2.nx {T : List (Addr × Str)} {K : PySem.W.Frag} {H H' : Hp} {x : V} {m : Int} (n : Nx T H H') (h : Bad2 K H x m) : Bad2 K H' x m := ⟨h.1.nx n, h.2.nx n⟩
def spNoPlaces (K : PySem.W.Frag) : L2.Sp := fun vs H Q _ => ∃ (a : Addr) (m : Int), vs = [.ref a, .int m] ∧ HandAt H a ∧ 0 ≤ m ∧ m ≤ 90000 ∧ ∀ (r : Addr) (xs : List V) (H' : Hp), Ext a H H' → H r = none → H' r = some (.lst xs) → xs.length = 19 → (∀ x ∈ xs, Bad2 K H' x m) → Q (.ref r) H'
def spRefused (K : PySem.W.Frag) : L2.Sp := fun vs H Q _ => ∃ (p q : Addr) (ns ms : List Int) (x : V), vs = [.ref p, .ref q, x] ∧ SqL K H p (ns.map V.int) ∧ SqL K H q (ms.map V.int) ∧ ns.length ≤ 300 ∧ ms.length ≤ 300 ∧ Bad K H x ((ns.length : Int) * (ms.length : Int)) ∧ ∀ H', Same H H' → Q (.bl true) H'
theorem nx_set {T : List (Addr × Str)} {H0 H : Hp} {D : Addr} {acc xs : List V} (nD : H0 D = none) (e : H D = some (.lst acc)) (n : Nx T H0 H) : Nx T H0 (upd H D (.lst xs)) := by
  refine ⟨fun b o h t => ?_, fun t q hq => ?_⟩
  · rw [upd_ne (fun z => by rw [z, nD] at h; cases h)]
    exact n.of b o h t
  · obtain ⟨ps, h1, h2, h3⟩ := n.tabs t q hq
    refine ⟨ps, by rw [upd_ne (fun z => by rw [z, e] at h1; cases h1)]; exact h1, h2, fun pos cv hc => ?_⟩
    obtain ⟨c, c1, c2⟩ := h3 pos cv hc
    refine ⟨c, c1, ?_⟩
    rw [upd_ne (fun z => by rw [z, e] at c2; unfold CodeO at c2; cases c2)]
    exact c2
theorem eqv_trips_same (L : List T3) : PyData.eqv (.list (L.map fun w => (dt w : PyData))) (.list (L.map fun w => (dt w : PyData))) = true := by
  rw [PyData.eqv]
  refine eqvAll_same fun x hx => ?_
  obtain ⟨w, _, rfl⟩ := List.mem_map.mp hx
  exact eqv_tri w
end Sp

/-! what is no place of the differences. -/
namespace Xd
open PySem PySem.Spec PyProof.Rows L2 Sp
theorem pe_own0 {X : Cx} {k : Nat} {x : Str} {ps : List Str} {sp : L2.Sp} {p pos : Pos} (c : Cal X.prog X.w X.K X.mg X.base k x ps sp) (hr : Room k X.A) (hg : Gl X x) (hdb : (x == ("__debug__" : Str)) = false := by decide) :
    PE X (.Call (.Name x p) [] [] pos) (tCall sp [] E0 tNil) := by
  obtain ⟨f, fd, F, m, kp, b⟩ := c.ex
  exact pe_call0 F hr hg m kp b .nil pass0 hdb
end Xd
namespace Sp
open PySem L2 LamX Tri Xc
theorem no_dctK {K : PySem.W.Frag} {H : Hp} {p : Addr} {kvs : List (Key × V)} (h : H p = some (.dK kvs)) : NoInt K H (.ref p) := ⟨"dict", by decide, .base (.dK h)⟩
theorem Bad.out {K : PySem.W.Frag} {H : Hp} {n m : Int} (h : ¬ (0 ≤ n ∧ n < m)) : Bad K H (.int n) m := .inl ⟨n, rfl, h⟩
/-- so many places: of all pairs, of the pairs within one row -/
def manyOf (way : Int) (a b : Nat) : Int := if way = 0 then (a : Int) * (b : Int) else (a : Int) * ((a : Int) - 1) / 2
def spDiffR (K : PySem.W.Frag) (C : Addr) : L2.Sp := fun vs H _ E => ∃ (p q : Addr) (ns ms : List Int) (x : V), vs = [.ref p, .ref q, x] ∧ SqL K H p (ns.map V.int) ∧ SqL K H q (ms.map V.int) ∧ ns.length ≤ 1000 ∧ ms.length ≤ 1000 ∧ Bad K H x ((ns.length : Int) * (ms.length : Int)) ∧ E (.ref C) none H
def spWithR (K : PySem.W.Frag) (C : Addr) : L2.Sp := fun vs H _ E => ∃ (p : Addr) (ns : List Int) (x : V), vs = [.ref p, x] ∧ SqL K H p (ns.map V.int) ∧ ns.length ≤ 1000 ∧ Bad K H x ((ns.length : Int) * ((ns.length : Int) - 1) / 2) ∧ E (.ref C) none H
def spDeep (K : PySem.W.Frag) : L2.Sp := fun vs H Q _ => vs = [] ∧ ∀ (t : Addr) (l : List V) (H' : Hp), Same H H' → H' t = some (.tup l) → Q (.ref t) H'
def spOdd (K : PySem.W.Frag) : L2.Sp := fun vs H Q _ => ∃ (a d : Addr) (m : Int) (l : List V), vs = [.ref a, .int m, .ref d] ∧ HandAt H a ∧ d ≠ a ∧ H d = some (.tup l) ∧ 0 ≤ m ∧ m ≤ 90000 ∧
  ∀ (r : Addr) (xs : List V) (H' : Hp), Ext a H H' → H r = none → H' r = some (.lst xs) → xs.length = 22 → (∀ x ∈ xs, Bad K H' x m) → Q (.ref r) H'
def spRefused25 (K : PySem.W.Frag) : L2.Sp := fun vs H Q _ => ∃ (p q : Addr) (ns ms : List Int) (way : Int) (x : V), vs = [.int way, .ref p, .ref q, x] ∧ SqL K H p (ns.map V.int) ∧ SqL K H q (ms.map V.int) ∧ ns.length ≤ 300 ∧ ms.length ≤ 300 ∧ Bad K H x (manyOf way ns.length ms.length) ∧ ∀ H', Same H H' → Q (.bl true) H'
/-- what stands at a place -/
def TellsW (way : Int) (ns : List Int) (L : List T3) (n : Nat) (w : T3) : Prop := (way = 0 ∧ L[n]? = some w) ∨ (way = 1 ∧ ∃ (i j : Nat) (x d : Int), i < j ∧ ns[i]? = some x ∧ ns[j]? = some (x + d) ∧ n = aheadW ns i j x d ∧ w = (d, (i : Int), (j : Int)))
theorem TellsW.one {way : Int} {ns : List Int} {L : List T3} {n : Nat} {w v : T3} (hs : ns.Pairwise (· ≤ ·)) (h : TellsW way ns L n w) (g : TellsW way ns L n v) : w = v := by
  rcases h with ⟨h0, h⟩ | ⟨h0, i, j, x, d, h1, h2, h3, h4, rfl⟩
  · rcases g with ⟨g0, g⟩ | ⟨g0, _⟩
    · rw [h] at g
      exact Option.some.inj g
    · omega
  · rcases g with ⟨g0, _⟩ | ⟨g0, i', j', x', d', g1, g2, g3, g4, rfl⟩
    · omega
    · obtain ⟨rfl, rfl, rfl⟩ := aheadW_one hs h1 g1 h2 g2 h3 g3 (h4.symm.trans g4)
      rfl
def spTold (K : PySem.W.Frag) (T : List (Addr × Str)) : L2.Sp := fun vs H Q _ => ∃ (p q : Addr) (ns ms : List Int) (n : Nat) (way : Int) (L : List T3), vs = [.int way, .ref p, .ref q, .int (n : Int)] ∧ SqL K H p (ns.map V.int) ∧ SqL K H q (ms.map V.int) ∧ ns.Pairwise (· ≤ ·) ∧ ms.Pairwise (· ≤ ·) ∧ ns.length ≤ 300 ∧ ms.length ≤ 300 ∧ Tabs T H ∧
  Tri.Ord ns (negs ms) L ∧ (way = 0 ∨ way = 1) ∧ (n : Int) < manyOf way ns.length ms.length ∧ ∀ (w : T3) (t : Addr) (H' : Hp), TellsW way ns L n w → Nx T H H' → H' t = some (.tup (tri w)) → Q (.ref t) H'
end Sp

/-! own classes by name: methods, makings; what changes but for a few objects; the Glass. -/
namespace Ob
open PySem PySem.Spec PyProof.Rows L2
/-- a method of the class at C, by its name -/
structure CalM (P : Program) (w : World) (K : PySem.W.Frag) (mg : Str → Option Value) (base : Heap) (k : Nat) (C : Addr) (m : Str) (ps : List Str) (sp : L2.Sp) : Prop where
  cl : Cls K C
  ex : ∃ (f : Addr) (fd : FuncData), FnOk P w K mg base CX0 k f fd ps sp ∧ Meth K C m f ∧ Binds K fd ps []
/-- one that may raise -/
structure CalMX (P : Program) (w : World) (K : PySem.W.Frag) (mg : Str → Option Value) (base : Heap) (k : Nat) (C : Addr) (m : Str) (ps : List Str) (sp : L2.Sp) : Prop where
  cl : Cls K C
  ex : ∃ (f : Addr) (fd : FuncData), FnOk P w K mg base (L2.CX P w) k f fd ps sp ∧ Meth K C m f ∧ Binds K fd ps []
/-- the class, called by its name -/
structure CalN (P : Program) (w : World) (K : PySem.W.Frag) (mg : Str → Option Value) (base : Heap) (k : Nat) (C : Addr) (x : Str) (ps : List Str) (sp : L2.Sp) : Prop where
  ex : ∃ (f : Addr) (fd : FuncData), FnOk P w K mg base CX0 k f fd ps sp ∧ Mk K C f ∧ mg x = some (.ref C) ∧ Binds K fd ps []
section
variable {X : Cx} {k : Nat} {C : Addr} {m x : Str} {ps : List Str} {sp : L2.Sp} {o e : Expr} {es : List Expr} {ta : TE} {t : TA} {apos pos p : Pos} {pl : Sem Bool}
theorem pe_m (he : PE X o ta) (c : CalM X.prog X.w X.K X.mg X.base k C m ps sp) (hr : Room k X.A) (ha : PA X (e :: es) t) (hst : starEach (e :: es) X.env = (false, eval e X.env) :: starEach es X.env := by rfl) (hpl : (backTo pos (starEach es X.env)).any (·.1) = false := by rfl)
    (ht : eval (.Call (.Attribute o m apos) (e :: es) [] pos) X.env = (do let v0 ← eval o X.env; standAt apos.atName; let (g, one) ← holding [v0] (getMethod v0 m pl); callWith pos g one (backTo pos (starEach (e :: es) X.env)) (backToKw pos (keywordEach [] X.env))) := by rfl) :
    PE X (.Call (.Attribute o m apos) (e :: es) [] pos) (tMeth C m sp [] E0 ta t) := by
  obtain ⟨f, fd, F, hm, b⟩ := c.ex
  exact pe_meth he c.cl hm F hr b .nil pass0 ha hst hpl ht
theorem pe_m0 (he : PE X o ta) (c : CalM X.prog X.w X.K X.mg X.base k C m ps sp) (hr : Room k X.A)
    (ht : eval (.Call (.Attribute o m apos) [] [] pos) X.env = (do let v0 ← eval o X.env; standAt apos.atName; let (g, one) ← holding [v0] (getMethod v0 m pl); callWith pos g one (backTo pos (starEach [] X.env)) (backToKw pos (keywordEach [] X.env))) := by rfl) :
    PE X (.Call (.Attribute o m apos) [] [] pos) (tMeth C m sp [] E0 ta tNil) := by
  obtain ⟨f, fd, F, hm, b⟩ := c.ex
  exact pe_meth0 he c.cl hm F hr b .nil pass0 ht
theorem pe_n (c : CalN X.prog X.w X.K X.mg X.base k C x ps sp) (hr : Room (k + 1) X.A) (hg : Gl X x) (ha : PA X (e :: es) t) (hdb : (x == ("__debug__" : Str)) = false := by decide)
    (he : starEach (e :: es) X.env = (false, eval e X.env) :: starEach es X.env := by rfl) (hpl : (backTo pos (starEach es X.env)).any (·.1) = false := by rfl) :
    PE X (.Call (.Name x p) (e :: es) [] pos) (tMake C sp [] E0 t) := by
  obtain ⟨f, fd, F, M, hm, b⟩ := c.ex
  exact pe_make M F hr hg hm b .nil pass0 ha hdb he hpl
/-- a method that may raise, in a try -/
def tMethAt (C : Addr) (m : Str) (sp : L2.Sp) (E : L2.St → XK) (ta : TE) (t : TA) : TE := fun σ H Q => ta σ H fun x H1 => ∃ a dx fs, x = .ref a ∧ H1 a = some (.ins C dx fs) ∧ fs.lookup m = none ∧ t σ H1 fun vs H2 => sp (x :: vs) H2 Q (E σ)
theorem pe_mS {W : WX} (he : PE X o ta) (c : CalMX X.prog X.w X.K X.mg X.base k C m ps sp) (hr : Room k X.A) (ha : PA X (e :: es) t) (tk : Takes X W) (hst : starEach (e :: es) X.env = (false, eval e X.env) :: starEach es X.env := by rfl) (hpl : (backTo pos (starEach es X.env)).any (·.1) = false := by rfl)
    (ht : eval (.Call (.Attribute o m apos) (e :: es) [] pos) X.env = (do let v0 ← eval o X.env; standAt apos.atName; let (g, one) ← holding [v0] (getMethod v0 m pl); callWith pos g one (backTo pos (starEach (e :: es) X.env)) (backToKw pos (keywordEach [] X.env))) := by rfl) :
    PE X (.Call (.Attribute o m apos) (e :: es) [] pos) (tMethAt C m sp (fun σ cls d H => W cls d σ H) ta t) := by
  obtain ⟨f, fd, F, hm, b⟩ := c.ex
  refine ⟨fun pins z σ H Q I h => PySem.W.methodCall_KW (pl := pl) (thn (he.run pins z σ H _ I h) fun u z1 ⟨y, H1, I1, ry, a, dx, fs, ey, ea, l, q⟩ => ?_) ht⟩
  subst ey
  obtain rfl : u = Value.ref a := ry
  exact getmeth_ok I1 ea c.cl hm l (PySem.W.callWith_K (first := [.ref a]) (h₀ := X.base) I.ok.mod.kin hm.kp (thn (ha.run pos pins z1 σ H1 _ I1 q) fun us z2 ⟨vs, H2, I2, r, q2⟩ => ⟨I2.kIn, run_fnS (us := .ref a :: us) (vs := .ref a :: vs) F hr b (passAt tk σ) I2 (.cons rfl r) q2⟩) hst hpl)
end
end Ob
namespace Sp
open PySem L2 LamX Tri Xc
/-! ### what changes but at a few places -/
/-- all but the tables and what stands at S stays; the tables stay tables -/
structure Mv (T : List (Addr × Str)) (S : List Addr) (H H' : Hp) : Prop where
  of : ∀ b o, H b = some o → NT o → b ∉ S → H' b = some o
  tabs : Tabs T H → Tabs T H'
section
variable {T : List (Addr × Str)} {S S' : List Addr} {K : PySem.W.Frag} {H H' H1 H2 : Hp} {a p b : Addr} {ns : List Int} {xs : List V} {o o' : HO}
theorem Mv.nx (n : Nx T H H') : Mv T S H H' := ⟨fun b o h t _ => n.of b o h t, n.tabs⟩
theorem Mv.same (s : Same H H') : Mv T S H H' := .nx (.same s)
theorem Mv.refl : Mv T S H H := .nx .refl
theorem Mv.trans (e : Mv T S H H1) (f : Mv T S H1 H2) : Mv T S H H2 := ⟨fun b o h t n => f.of b o (e.of b o h t n) t n, fun h => f.tabs (e.tabs h)⟩
theorem Mv.ext (e : Ext a H H') (h : HandAt H a) (m : a ∈ S) : Mv T S H H' := ⟨fun b o q _ n => e.keep b o q fun z => n (z ▸ m), tabs_hand h e⟩
theorem Mv.ex (e : Ex T a H H') (m : a ∈ S) : Mv T S H H' := ⟨fun b o q t n => e.of b o q t fun z => n (z ▸ m), e.tabs⟩
theorem Mv.mono (e : Mv T S H H') (m : ∀ b ∈ S, b ∈ S') : Mv T S' H H' := ⟨fun b o h t n => e.of b o h t fun z => n (m b z), e.tabs⟩
theorem Mv.g (e : Mv T S H H') (h : H b = some o) (n : b ∉ S) (t : NT o := by trivial) : H' b = some o := e.of b o h t n
/-- what is made anew may change as it likes -/
theorem Mv.made (e : Mv T S H H') (n : ∀ b ∈ S, H b = none) : Nx T H H' := ⟨fun b o h t => e.of b o h t fun z => (by rw [n b z] at h; cases h), e.tabs⟩
/-- one more object, new, may change as it likes -/
theorem Mv.made1 (e : Mv T (a :: S) H H') (n : H a = none) : Mv T S H H' := by
  refine ⟨fun b o h t m => e.of b o h t fun z => ?_, e.tabs⟩
  cases z with
  | head => rw [n] at h; cases h
  | tail _ z => exact m z
def NC : HO → Prop
  | .tbl _ => False
  | .ext _ => False
  | _ => True
theorem tabs_put (h : H p = some o) (t : NC o) (tb : Tabs T H) : Tabs T (upd H p o') := fun q hq => by
  obtain ⟨ps, h1, h2, h3⟩ := tb q hq
  refine ⟨ps, by rw [upd_ne (fun z => by rw [z, h] at h1; cases h1; exact t)]; exact h1, h2, fun pos cv hc => ?_⟩
  obtain ⟨c, c1, c2⟩ := h3 pos cv hc
  refine ⟨c, c1, ?_⟩
  rw [upd_ne (fun z => by rw [z, h] at c2; unfold CodeO at c2; cases c2; exact t)]
  exact c2
theorem Mv.put (h : H p = some o) (t : NC o) (m : p ∈ S) : Mv T S H (upd H p o') := ⟨fun b u e _ n => by rw [upd_ne (fun z => n (by rw [z]; exact m))]; exact e, tabs_put h t⟩
theorem Mv.hand (e : Mv T S H H') (n : a ∉ S) (h : HandAt H a) : HandAt H' a := by
  obtain ⟨x, y, q, r⟩ := h
  exact ⟨x, y, e.g q n, r⟩
theorem Mv.free (e : Mv T S H H') (n : b ∉ S) (h : H' b = none) (t : ∀ o, H b = some o → NT o) : H b = none := by
  cases q : H b with
  | none => rfl
  | some o =>
    have := e.of b o q (t o q) n
    rw [h] at this
    cases this
theorem Mv.seq (e : Mv T S H H') (n : p ∉ S) (h : H p = some (.lst xs)) : SqL K H' p xs := SqL.new (e.g h n)
end
/-! ### the Glass -/
theorem tr_ : ¬ (("_taken" : Str) = "_row") := by decide +kernel
theorem rt_ : ¬ (("_row" : Str) = "_taken") := by decide +kernel
def gf (l : Addr) (n : Int) : List (Str × V) := [("_row", .ref l), ("_taken", .int n)]
theorem gf_row (l : Addr) (n : Int) : (gf l n).lookup ("_row" : Str) = some (.ref l) := rfl
theorem gf_taken (l : Addr) (n : Int) : (gf l n).lookup ("_taken" : Str) = some (.int n) := by
  show List.lookup ("_taken" : Str) [(("_row" : Str), V.ref l), ("_taken", .int n)] = _
  rw [List.lookup_cons, show (("_taken" : Str) == ("_row" : Str)) = false from beq_eq_false_iff_ne.mpr tr_]
  rfl
theorem gf_put (l : Addr) (n m : Int) : putF "_taken" (.int m) (gf l n) = gf l m := by
  show (if ("_row" : Str) = "_taken" then _ else (("_row" : Str), V.ref l) :: (if ("_taken" : Str) = "_taken" then [(("_taken" : Str), V.int m)] else _)) = gf l m
  rw [if_neg rt_, if_pos rfl]
  rfl
theorem gf_new (l : Addr) (n : Int) : putF "_taken" (.int n) (putF "_row" (.ref l) []) = gf l n := by
  show (if ("_row" : Str) = "_taken" then _ else (("_row" : Str), V.ref l) :: putF "_taken" (V.int n) []) = gf l n
  rw [if_neg rt_]
  rfl
theorem gf_no {m : Str} (l : Addr) (n : Int) (h1 : ¬ m = "_row") (h2 : ¬ m = "_taken") : (gf l n).lookup m = none := by
  show List.lookup m [(("_row" : Str), V.ref l), ("_taken", .int n)] = _
  rw [List.lookup_cons, show (m == ("_row" : Str)) = false from beq_eq_false_iff_ne.mpr h1]
  show List.lookup m [(("_taken" : Str), V.int n)] = _
  rw [List.lookup_cons, show (m == ("_taken" : Str)) = false from beq_eq_false_iff_ne.mpr h2]
  rfl
/-- a glass at g of the class at C: its row stands at l, so many looks were taken -/
def GlassAt (C : Addr) (H : Hp) (g l : Addr) (n : Int) : Prop := ∃ dx, H g = some (.ins C dx (gf l n))
/-- what the top has written of the class -/
structure GlT (K : PySem.W.Frag) (C : Addr) : Prop where
  cl : Cls K C
  nR : NoAttr K C "_row"
  nT : NoAttr K C "_taken"
def spGInit (K : PySem.W.Frag) (C : Addr) : L2.Sp := fun vs H Q _ => ∃ (g dx p : Addr) (xs : List V), vs = [.ref g, .ref p] ∧ H g = some (.ins C dx []) ∧ SqL K H p xs ∧ ∀ (l : Addr), H l = none → Q .non (upd (upd H l (.lst xs)) g (.ins C dx (gf l 0)))
def spGMany (K : PySem.W.Frag) (C : Addr) : L2.Sp := fun vs H Q _ => ∃ (g l : Addr) (n : Int) (xs : List V), vs = [.ref g] ∧ GlassAt C H g l n ∧ SqL K H l xs ∧ Q (.int (xs.length : Int)) H
def spGLooks (C : Addr) : L2.Sp := fun vs H Q _ => ∃ (g l : Addr) (n : Int), vs = [.ref g] ∧ GlassAt C H g l n ∧ Q (.int n) H
/-- a good look -/
def spGLook (C : Addr) : L2.Sp := fun vs H Q _ => ∃ (g l : Addr) (n : Int) (ns : List Int) (k : Nat) (v : Int), vs = [.ref g, .int (k : Int)] ∧ GlassAt C H g l n ∧ H l = some (.lst (ns.map V.int)) ∧ ns[k]? = some v ∧ ∀ dx, H g = some (.ins C dx (gf l n)) → Q (.int v) (upd H g (.ins C dx (gf l (n + 1))))
/-- a look at what is no place -/
def spGLookR (K : PySem.W.Frag) (C CP : Addr) : L2.Sp := fun vs H _ E => ∃ (g l : Addr) (n : Int) (x : V) (xs : List V), vs = [.ref g, x] ∧ GlassAt C H g l n ∧ SqL K H l xs ∧ Bad K H x (xs.length : Int) ∧ E (.ref CP) none H
theorem GlassAt.same {C : Addr} {H H' : Hp} {g l : Addr} {n : Int} (s : Same H H') (h : GlassAt C H g l n) : GlassAt C H' g l n := let ⟨dx, e⟩ := h; ⟨dx, s _ _ e⟩
theorem GlassAt.mv {C : Addr} {T : List (Addr × Str)} {S : List Addr} {H H' : Hp} {g l : Addr} {n : Int} (s : Mv T S H H') (m : g ∉ S) (h : GlassAt C H g l n) : GlassAt C H' g l n := let ⟨dx, e⟩ := h; ⟨dx, s.g e m⟩
theorem GlassAt.put {C : Addr} {H : Hp} {g l dx : Addr} {n : Int} : GlassAt C (upd H g (.ins C dx (gf l n))) g l n := ⟨dx, upd_same⟩
end Sp
namespace Sp
open PySem L2 LamX Tri Xc
theorem Mv.set {T : List (Addr × Str)} {S : List Addr} {H0 H : Hp} {D : Addr} {acc xs : List V} (nD : H0 D = none) (e : H D = some (.lst acc)) (n : Mv T S H0 H) : Mv T S H0 (upd H D (.lst xs)) :=
  ⟨fun b o h t m => by rw [upd_ne (fun z => by rw [z, nD] at h; cases h)]; exact n.of b o h t m, fun h => tabs_put e trivial (n.tabs h)⟩
def spFirst (T : List (Addr × Str)) (C : Addr) : L2.Sp := fun vs H Q _ => ∃ (g l : Addr) (n : Int) (ns : List Int) (m : Nat), vs = [.ref g, .int (m : Int)] ∧ GlassAt C H g l n ∧ H l = some (.lst (ns.map V.int)) ∧ ns.length ≤ 1000 ∧
  ∀ (D : Addr) (H' : Hp), Mv T [g] H H' → GlassAt C H' g l (n + ((min ns.length m : Nat) : Int)) → H D = none → H' D = some (.lst ((ns.take m).map V.int)) → Q (.ref D) H'
/-! what stands at a place of the first numbers stands there in all -/
theorem sum_ge {ns : List Int} {f : Int → Nat} (h : ∀ x ∈ ns, 0 < f x) : ns.length ≤ (ns.map f).sum := by
  induction ns with
  | nil => exact Nat.zero_le _
  | cons x ns ih =>
    rw [List.map_cons, List.sum_cons, List.length_cons]
    have h1 := h x List.mem_cons_self
    have h2 := ih fun y hy => h y (List.mem_cons_of_mem _ hy)
    omega
theorem sum_none {ns : List Int} {f : Int → Nat} (h : ∀ x ∈ ns, f x = 0) : (ns.map f).sum = 0 := by
  induction ns with
  | nil => rfl
  | cons x ns ih =>
    rw [List.map_cons, List.sum_cons, h x List.mem_cons_self, ih fun y hy => h y (List.mem_cons_of_mem _ hy)]
theorem cntS_first {ns : List Int} (sn : ns.Pairwise (· ≤ ·)) (ms : List Int) (r : Int) (N : Nat) (h : cntS (ns.take N) ms r < N) : cntS (ns.take N) ms r = cntS ns ms r := by
  have e := cntS_append (ns.take N) (ns.drop N) ms r
  rw [List.take_append_drop] at e
  rw [e]
  by_cases z : ns.length ≤ N
  · rw [List.drop_eq_nil_of_le z, cntS_nil]
    rfl
  · obtain ⟨x, hx, x0⟩ : ∃ x ∈ ns.take N, cntB ms (r - x) = 0 := by
      apply Classical.byContradiction
      intro no
      have := sum_ge (ns := ns.take N) (f := fun x => cntB ms (r - x)) fun x hx => Nat.pos_of_ne_zero fun e => no ⟨x, hx, e⟩
      rw [List.length_take, Nat.min_eq_left (by omega)] at this
      have h2 : ((ns.take N).map fun x => cntB ms (r - x)).sum < N := h
      omega
    have d0 : cntS (ns.drop N) ms r = 0 := sum_none fun y hy => by
      have xy : x ≤ y := by
        rw [← List.take_append_drop N ns] at sn
        exact (List.pairwise_append.mp sn).2.2 x hx y hy
      have := cntB_mono (ms := ms) (show r - y ≤ r - x by omega)
      omega
    rw [d0]
    rfl
theorem cntS_firsts {ns ms : List Int} (sn : ns.Pairwise (· ≤ ·)) (sm : ms.Pairwise (· ≤ ·)) (r : Int) (N : Nat) (h : cntS (ns.take N) (ms.take N) r < N) : cntS (ns.take N) (ms.take N) r = cntS ns ms r := by
  have h1 : cntS (ms.take N) (ns.take N) r = cntS ms (ns.take N) r := cntS_first sm _ r N (by rw [cntS_comm]; exact h)
  rw [cntS_comm, cntS_comm (ns.take N) ms] at h1
  rw [h1] at h ⊢
  exact cntS_first sn ms r N h
theorem cntS_part {ns ms : List Int} (r : Int) (N : Nat) : cntS (ns.take N) (ms.take N) r ≤ cntS ns ms r := by
  have a : ∀ (ks : List Int), cntS (ns.take N) ks r ≤ cntS ns ks r := fun ks => by
    have e := cntS_append (ns.take N) (ns.drop N) ks r
    rw [List.take_append_drop] at e
    omega
  have b : cntS (ns.take N) (ms.take N) r ≤ cntS (ns.take N) ms r := by
    have e := cntS_append (ms.take N) (ms.drop N) (ns.take N) r
    rw [List.take_append_drop, cntS_comm (ns.take N) ms, cntS_comm (ns.take N) (ms.take N)] at e
    omega
  exact Nat.le_trans b (a ms)
theorem firsts_place {ns ms : List Int} {n : Nat} (h : n < ns.length * ms.length) : n < (ns.take (n + 1)).length * (ms.take (n + 1)).length := by
  have l1 : 0 < ns.length := Nat.pos_of_ne_zero fun e => by rw [e] at h; omega
  have l2 : 0 < ms.length := Nat.pos_of_ne_zero fun e => by rw [e] at h; omega
  rw [List.length_take, List.length_take]
  by_cases z1 : n + 1 ≤ ns.length
  · rw [Nat.min_eq_left z1]
    exact Nat.lt_of_lt_of_le (Nat.lt_succ_self n) (Nat.le_mul_of_pos_right _ (by omega))
  · by_cases z2 : n + 1 ≤ ms.length
    · rw [Nat.min_eq_left z2]
      exact Nat.lt_of_lt_of_le (Nat.lt_succ_self n) (Nat.le_mul_of_pos_left _ (by omega))
    · rw [Nat.min_eq_right (by omega), Nat.min_eq_right (by omega)]
      exact h
/-- the number at a place is one alone -/
theorem cut_one {ns ms : List Int} {n : Nat} {r q : Int} (a1 : cntS ns ms r ≤ n) (a2 : n < cntS ns ms (r + 1)) (b1 : cntS ns ms q ≤ n) (b2 : n < cntS ns ms (q + 1)) : r = q := by
  apply Classical.byContradiction
  intro no
  by_cases z : r < q
  · have := cntS_mono (ns := ns) (ms := ms) (show r + 1 ≤ q by omega)
    omega
  · have := cntS_mono (ns := ns) (ms := ms) (show q + 1 ≤ r by omega)
    omega
def spByLooks (C : Addr) (T : List (Addr × Str)) : L2.Sp := fun vs H Q _ => ∃ (g1 g2 l1 l2 : Addr) (t1 t2 : Int) (ns ms : List Int) (n : Nat), vs = [.ref g1, .ref g2, .int (n : Int)] ∧ GlassAt C H g1 l1 t1 ∧ GlassAt C H g2 l2 t2 ∧ g1 ≠ g2 ∧ H l1 = some (.lst (ns.map V.int)) ∧ H l2 = some (.lst (ms.map V.int)) ∧
  ns.Pairwise (· ≤ ·) ∧ ms.Pairwise (· ≤ ·) ∧ ns.length ≤ 1000 ∧ ms.length ≤ 1000 ∧ n < ns.length * ms.length ∧ Tabs T H ∧
  ∀ (r : Int) (H' : Hp), Mv T [g1, g2] H H' → GlassAt C H' g1 l1 (t1 + ((min ns.length (n + 1) : Nat) : Int)) → GlassAt C H' g2 l2 (t2 + ((min ms.length (n + 1) : Nat) : Int)) → cntS ns ms r ≤ n → n < cntS ns ms (r + 1) → Q (.int r) H'
def spByLooksR (K : PySem.W.Frag) (C CP : Addr) : L2.Sp := fun vs H _ E => ∃ (g1 g2 l1 l2 : Addr) (t1 t2 : Int) (ns ms : List Int) (x : V), vs = [.ref g1, .ref g2, x] ∧ GlassAt C H g1 l1 t1 ∧ GlassAt C H g2 l2 t2 ∧ H l1 = some (.lst (ns.map V.int)) ∧ H l2 = some (.lst (ms.map V.int)) ∧ ns.length ≤ 1000 ∧ ms.length ≤ 1000 ∧
  Bad K H x ((ns.length : Int) * (ms.length : Int)) ∧ E (.ref CP) none H
end Sp
namespace Sp
open PySem L2 LamX Tri Xc
def spRefused19 (K : PySem.W.Frag) (C : Addr) : L2.Sp := fun vs H Q _ => ∃ (p g1 g2 l1 l2 : Addr) (t1 t2 : Int) (ns ms : List Int) (x : V), vs = [.ref p, x] ∧ H p = some (.lst [.ref g1, .ref g2]) ∧ GlassAt C H g1 l1 t1 ∧ GlassAt C H g2 l2 t2 ∧ H l1 = some (.lst (ns.map V.int)) ∧ H l2 = some (.lst (ms.map V.int)) ∧ ns.length ≤ 1000 ∧ ms.length ≤ 1000 ∧
  Bad K H x ((ns.length : Int) * (ms.length : Int)) ∧ ∀ H', Same H H' → Q (.bl true) H'
end Sp
namespace Sp
open PySem L2 LamX Tri Xc
theorem glass_made {K : PySem.W.Frag} {C p g dx : Addr} {H : Hp} {xs : List V} {Q : VK} {E : XK} (hp : SqL K H p xs) (ng : H g = none) (nd : H dx = none) (ne : dx ≠ g) (q : ∀ (l : Addr) (H' : Hp), Same H H' → H l = none → l ≠ g → GlassAt C H' g l 0 → H' l = some (.lst xs) → Q .non H') :
    spGInit K C [.ref g, .ref p] (upd (upd H dx (.own g)) g (.ins C dx [])) Q E := by
  have s : Same H (upd (upd H dx (.own g)) g (.ins C dx [])) := fun b o e => by
    rw [upd_ne (ne_of_none e ng), upd_ne (ne_of_none e nd)]
    exact e
  refine ⟨g, dx, p, xs, rfl, upd_same, s.seq hp, fun l hl => ?_⟩
  have nlg : l ≠ g := fun z => by rw [z, upd_same] at hl; cases hl
  have nld : l ≠ dx := fun z => by rw [upd_ne nlg, z, upd_same] at hl; cases hl
  have hl0 : H l = none := by rw [upd_ne nlg, upd_ne nld] at hl; exact hl
  refine q l _ (fun b o e => ?_) hl0 nlg ⟨dx, upd_same⟩ (by rw [upd_ne nlg, upd_same])
  rw [upd_ne (ne_of_none e ng), upd_ne (ne_of_none e hl0)]
  exact s b o e
end Sp
namespace Sp
open PySem L2 LamX Tri Xc
theorem Ext.put {a p : Addr} {H0 H : Hp} {o : HO} (n : H0 p = none) (na : p ≠ a) (x : Ext a H0 H) : Ext a H0 (upd H p o) := by
  refine ⟨fun b u e m => ?_, fun h => ?_⟩
  · rw [upd_ne (ne_of_none e n)]
    exact x.keep b u e m
  · obtain ⟨u, v, e, r⟩ := x.hand h
    exact ⟨u, v, by rw [upd_ne na.symm]; exact e, r⟩
/-! all sums, sorted -/
def spSums18 (K : PySem.W.Frag) : L2.Sp := fun vs H Q _ => ∃ (p q : Addr) (ns ms : List Int), vs = [.ref p, .ref q] ∧ SqL K H p (ns.map V.int) ∧ SqL K H q (ms.map V.int) ∧ ns.length ≤ 300 ∧ ms.length ≤ 300 ∧
  ∀ (r : Addr) (us : List Int) (H' : Hp), Same H H' → H r = none → H' r = some (.lst (us.map V.int)) → us.Perm (ns.flatMap fun x => ms.map fun y => x + y) → us.Pairwise (· ≤ ·) → Q (.ref r) H'
theorem cntB_all_sums (ms : List Int) (m : Int) : ∀ ns : List Int, cntB (ns.flatMap fun x => ms.map fun y => x + y) m = cntS ns ms m
  | [] => rfl
  | x :: ns => by
    rw [List.flatMap_cons, cntS_cons, ← cntB_all_sums ms m ns]
    unfold cntB
    rw [List.countP_append, List.countP_map]
    congr 1
    refine List.countP_congr fun y _ => ?_
    show decide (x + y < m) = true ↔ decide (y < m - x) = true
    rw [decide_eq_true_iff, decide_eq_true_iff]
    omega
theorem all_sums_len (ms : List Int) : ∀ ns : List Int, (ns.flatMap fun x => ms.map fun y => x + y).length = ns.length * ms.length
  | [] => by simp
  | x :: ns => by
    rw [List.flatMap_cons, List.length_append, all_sums_len ms ns, List.length_map, List.length_cons, Nat.succ_mul]
    omega
theorem sums18_at {us ns ms : List Int} {n : Nat} {v : Int} (hp : us.Perm (ns.flatMap fun x => ms.map fun y => x + y)) (hs : us.Pairwise (· ≤ ·)) (h : us[n]? = some v) : cntS ns ms v ≤ n ∧ n < cntS ns ms (v + 1) := by
  have e : ∀ m, cntB us m = cntS ns ms m := fun m => by
    rw [← cntB_all_sums]
    exact hp.countP_eq _
  have h1 := cntB_lt hs (n := v) h
  have h2 := cntB_lt hs (n := v + 1) h
  rw [e] at h1 h2
  refine ⟨?_, h2.mp (by omega)⟩
  have : ¬ n < cntS ns ms v := fun z => by
    have := h1.mpr z
    omega
  omega
def spLooked (C : Addr) : L2.Sp := fun vs H Q _ => ∃ (a p : Addr) (ns : List Int), vs = [.ref a, .ref p] ∧ HandAt H a ∧ p ≠ a ∧ H p = some (.lst (ns.map V.int)) ∧ ns.length ≤ 300 ∧
  ∀ (g l : Addr) (t : Int) (H' : Hp), Ext a H H' → H g = none → g ≠ a → H l = none → l ≠ a → l ≠ g → 0 ≤ t → t ≤ 10 → GlassAt C H' g l t → H' l = some (.lst (ns.map V.int)) → Q (.ref g) H'
def spRight18 (T : List (Addr × Str)) : L2.Sp := fun vs H Q _ => ∃ (a p q : Addr) (ns ms : List Int) (n : Nat) (due : Int), vs = [.ref a, .ref p, .ref q, .int (n : Int), .int due] ∧ HandAt H a ∧ RowAt H a p ns ∧ RowAt H a q ms ∧ n < ns.length * ms.length ∧ Tabs T H ∧ cntS ns ms due ≤ n ∧ n < cntS ns ms (due + 1) ∧ ∀ H', Ex T a H H' → Q (.bl true) H'
end Sp
namespace Sp
open PySem L2 LamX Tri Xc
theorem Mv.toEx {T : List (Addr × Str)} {a g1 g2 : Addr} {H H' : Hp} (m : Mv T [a, g1, g2] H H') (h : HandAt H' a) (n1 : H g1 = none) (n2 : H g2 = none) : Ex T a H H' := by
  refine ⟨fun b o e t ne => m.of b o e t fun z => ?_, fun _ => h, m.tabs⟩
  simp only [List.mem_cons, List.not_mem_nil, or_false] at z
  rcases z with rfl | rfl | rfl
  · exact ne rfl
  · rw [n1] at e; cases e
  · rw [n2] at e; cases e
end Sp
namespace Sp
open PySem L2 LamX Tri Xc
theorem call_len_K {X : Cx} {K : PySem.W.Frag} (hK : X.K = K) : CallR X (.builtin "len") (fun xs H Q => ∃ p ys, xs = [.ref p] ∧ (SqL K H p ys ∨ SqT K H p ys) ∧ Q (.int (ys.length : Int)) H) := hK ▸ call_len_seq
end Sp
namespace Sp
open PySem L2 LamX Tri Xc
def spDeed17 (C : Addr) : L2.Sp := fun vs H Q _ => ∃ (a e g l o : Addr) (t : Int) (ns : List Int), vs = [.ref a, .ref e] ∧ HandAt H a ∧ H e = some (.lst [.ref g, .ref o, .int t]) ∧ GlassAt C H g l t ∧ H l = some (.lst (ns.map V.int)) ∧ H o = some (.lst (ns.map V.int)) ∧ e ≠ a ∧ l ≠ a ∧ o ≠ a ∧ l ≠ e ∧ o ≠ e ∧ ns.length ≤ 300 ∧
  ∀ (t' : Int) (H' : Hp), Mv [] [a, g, e] H H' → HandAt H' a → GlassAt C H' g l t' → H' e = some (.lst [.ref g, .ref o, .int t']) → Q (.bl true) H'
theorem tabs_none {H : Hp} : Tabs [] H := fun _ h => nomatch h
end Sp
namespace Sp
open PySem L2 LamX Tri Xc
theorem TyX.ext {K : PySem.W.Frag} {a : Addr} {H H' : Hp} {v : V} {t : Value} (x : Ext a H H') (h : HandAt H a) (ty : TyX K H v t) : TyX K H' v t := by
  have kp : ∀ {p : Addr} {o : HO}, H p = some o → (∀ l, o ≠ .lst l) → H' p = some o := fun {p o} e n => x.keep p o e fun z => by
    obtain ⟨u, w, e1, _⟩ := h
    rw [z, e1] at e
    exact n _ (Option.some.inj e).symm
  have kl : ∀ {p : Addr} {l : List V}, H p = some (.lst l) → ∃ l', H' p = some (.lst l') := fun {p l} e => by
    by_cases z : p = a
    · obtain ⟨u, w, e1, _⟩ := x.hand h
      exact ⟨_, by rw [z]; exact e1⟩
    · exact ⟨_, x.keep p _ e z⟩
  cases ty with
  | base b =>
    cases b with
    | non => exact .base .non
    | bl y => exact .base (.bl y)
    | int i => exact .base (.int i)
    | str y => exact .base (.str y)
    | flt y => exact .base (.flt y)
    | lst e => obtain ⟨l', e'⟩ := kl e; exact .base (.lst e')
    | frz e => exact .base (.frz (kp e fun _ z => nomatch z))
    | tup e => exact .base (.tup (kp e fun _ z => nomatch z))
    | dK e => exact .base (.dK (kp e fun _ z => nomatch z))
    | dT e => exact .base (.dT (kp e fun _ z => nomatch z))
    | ins e c1 c2 c3 c4 c5 => exact .base (.ins (kp e fun _ z => nomatch z) c1 c2 c3 c4 c5)
  | byt b => exact .byt b
  | set e => exact .set (kp e fun _ z => nomatch z)
  | kList e c => exact .kList e c
  | kTuple e c => exact .kTuple e c
  | kDict e c => exact .kDict e c
  | fTuple e => exact .fTuple (kp e fun _ z => nomatch z)
  | fDict e => exact .fDict (kp e fun _ z => nomatch z)
theorem Bad.ext {K : PySem.W.Frag} {a : Addr} {H H' : Hp} {x : V} {m : Int} (e : Ext a H H') (h : HandAt H a) (b : Bad K H x m) : Bad K H' x m := b.imp id fun ⟨t, n, y⟩ => ⟨t, n, TyX.ext e h y⟩
end Sp
namespace Sp
open PySem L2 LamX Tri Xc
/-- one that is held: its glass, its own row, how many looks are told -/
structure En where
  (e g l o : Addr) (ns : List Int)
structure En.At (C : Addr) (H : Hp) (x : En) (t u : Int) : Prop where
  he : H x.e = some (.lst [.ref x.g, .ref x.o, .int t])
  hg : GlassAt C H x.g x.l u
  hl : H x.l = some (.lst (x.ns.map V.int))
  ho : H x.o = some (.lst (x.ns.map V.int))
structure En.Off (a : Addr) (H0 : Hp) (x : En) : Prop where
  ea : x.e ≠ a
  ga : x.g ≠ a
  la : x.l ≠ a
  oa : x.o ≠ a
  le : x.l ≠ x.e
  oe : x.o ≠ x.e
  ln : x.ns.length ≤ 300
  ne : H0 x.e = none
  ng : H0 x.g = none
/-- what of x is not y's -/
structure En.Dj (x y : En) : Prop where
  e : x.e ≠ y.e
  g : x.g ≠ y.g
  l : x.l ≠ y.e
  o : x.o ≠ y.e
theorem En.At.same {C : Addr} {H H' : Hp} {x : En} {t u : Int} (s : Same H H') (h : x.At C H t u) : x.At C H' t u := ⟨s _ _ h.he, h.hg.same s, s _ _ h.hl, s _ _ h.ho⟩
theorem En.At.ext {C a : Addr} {H H' H0 : Hp} {x : En} {t u : Int} (s : Ext a H H') (f : x.Off a H0) (h : x.At C H t u) : x.At C H' t u := ⟨s.keep _ _ h.he f.ea, let ⟨d, e⟩ := h.hg; ⟨d, s.keep _ _ e f.ga⟩, s.keep _ _ h.hl f.la, s.keep _ _ h.ho f.oa⟩
/-- what is done to y leaves x -/
theorem En.At.mv {C a : Addr} {T : List (Addr × Str)} {H H' H0 : Hp} {x y : En} {t u t' u' : Int} (m : Mv T [a, y.g, y.e] H H') (f : x.Off a H0) (d : x.Dj y) (hy : y.At C H t' u') (h : x.At C H t u) : x.At C H' t u := by
  obtain ⟨dy, gy⟩ := hy.hg
  obtain ⟨dx, gx⟩ := h.hg
  have no : ∀ {b : Addr} {xs : List V}, H b = some (.lst xs) → b ≠ y.g := fun e z => by rw [z, gy] at e; cases e
  exact ⟨m.g h.he (by simp [f.ea, no h.he, d.e]), ⟨dx, m.g gx (by simp only [List.mem_cons, List.not_mem_nil, or_false, not_or]; exact ⟨f.ga, d.g, fun z => by rw [z, hy.he] at gx; cases gx⟩)⟩, m.g h.hl (by simp [f.la, no h.hl, d.l]), m.g h.ho (by simp [f.oa, no h.ho, d.o])⟩
theorem Nx.mv {T : List (Addr × Str)} {S : List Addr} {H0 H H' : Hp} (n : Nx T H0 H) (m : Mv T S H H') (h : ∀ b ∈ S, H0 b = none) : Nx T H0 H' :=
  ⟨fun b o e t => m.of b o (n.of b o e t) t fun z => (by rw [h b z] at e; cases e), fun t => m.tabs (n.tabs t)⟩
theorem Nx.putn {T : List (Addr × Str)} {H0 H : Hp} {p : Addr} {o o' : HO} (n : Nx T H0 H) (h : H0 p = none) (e : H p = some o) (t : NC o) : Nx T H0 (upd H p o') :=
  n.mv (S := [p]) (Mv.put e t (by simp)) fun b hb => by rw [List.mem_singleton.mp hb]; exact h
theorem Nx.ext {T : List (Addr × Str)} {a : Addr} {H0 H H' : Hp} (n : Nx T H0 H) (x : Ext a H H') (h : HandAt H a) (h0 : H0 a = none) : Nx T H0 H' :=
  n.mv (S := [a]) (Mv.ext x h (by simp)) fun b hb => by rw [List.mem_singleton.mp hb]; exact h0
/-- what is new now was new then -/
def Fr (H0 H : Hp) : Prop := ∀ b, H b = none → H0 b = none
theorem Fr.refl {H : Hp} : Fr H H := fun _ h => h
theorem Fr.same {H0 H H' : Hp} (f : Fr H0 H) (s : Same H H') : Fr H0 H' := fun b h => f b (s.free h)
theorem Fr.ext {a : Addr} {H0 H H' : Hp} (f : Fr H0 H) (x : Ext a H H') (h : HandAt H a) : Fr H0 H' := fun b e => f b (x.free (HandAt.ne (x.hand h) e) e)
theorem Fr.put {H0 H : Hp} {p : Addr} {o : HO} (f : Fr H0 H) : Fr H0 (upd H p o) := fun b h => by
  by_cases z : b = p
  · rw [z, upd_same] at h; cases h
  · rw [upd_ne z] at h; exact f b h
end Sp
namespace Sp
open PySem L2 LamX Tri Xc
theorem En.At.mine {C a : Addr} {T : List (Addr × Str)} {H H' H0 : Hp} {x : En} {t u t' u' : Int} (m : Mv T [a, x.g, x.e] H H') (f : x.Off a H0) (h : x.At C H t u) (G : GlassAt C H' x.g x.l u') (e : H' x.e = some (.lst [.ref x.g, .ref x.o, .int t'])) : x.At C H' t' u' := by
  obtain ⟨d, g⟩ := h.hg
  have no : ∀ {b : Addr} {xs : List V}, H b = some (.lst xs) → b ≠ x.g := fun e z => by rw [z, g] at e; cases e
  exact ⟨e, G, m.g h.hl (by simp [f.la, no h.hl, f.le]), m.g h.ho (by simp [f.oa, no h.ho, f.oe])⟩
/-- what stands elsewhere is put -/
theorem En.At.put {C p : Addr} {H : Hp} {x : En} {t u : Int} {xs : List V} {o : HO} (h : x.At C H t u) (hp : H p = some (.lst xs)) (e : x.e ≠ p) (l : x.l ≠ p) (o' : x.o ≠ p) : x.At C (upd H p o) t u := by
  obtain ⟨d, g⟩ := h.hg
  exact ⟨by rw [upd_ne e]; exact h.he, ⟨d, by rw [upd_ne (fun z => by rw [z, hp] at g; cases g)]; exact g⟩, by rw [upd_ne l]; exact h.hl, by rw [upd_ne o']; exact h.ho⟩
theorem HandAt.put {a p : Addr} {H : Hp} {o : HO} (h : HandAt H a) (n : p ≠ a) : HandAt (upd H p o) a := by
  obtain ⟨x, y, e, r⟩ := h
  exact ⟨x, y, by rw [upd_ne n.symm]; exact e, r⟩
theorem RowAt.put {a p q : Addr} {H : Hp} {ns : List Int} {o : HO} (h : RowAt H a p ns) (n : p ≠ q) : RowAt (upd H q o) a p ns := ⟨by rw [upd_ne n]; exact h.at_, h.ne, h.fine, h.len⟩
end Sp
namespace Sp
open PySem L2 LamX Tri Xc
def Dj2 (x y : En) : Prop := x.Dj y ∧ y.Dj x
def evs (es : List En) : List V := es.map fun x => V.ref x.e
end Sp

/-! xs[:0] = ys: another list's items are put ahead. -/
namespace Sl
open PySem PySem.Spec PyProof.Rows L2
theorem front_bounds (n : Nat) : sliceBounds none (some (0 : Int)) none n = (0, 0, 1) := by
  simp [sliceBounds]
  omega
section
variable {prog : Program} {w : World} {A : Around} {E : Value → Shared → Prop} {z : Shared}
theorem front_items {d b sl : Addr} {old new : Array Value} {n n2 : Nat} {hi : Value} {Q : Unit → Shared → Prop} (e : z.heap.get? d = some { cls := .type "list", data := .seq old n }) (e2 : z.heap.get? b = some { cls := .type "list", data := .seq new n2 }) (apart : d ≠ b)
    (hs : z.heap.IsSliceOf sl .none hi .none) (pu : IsPart hi (some (0 : Int))) (room : old.size + new.size ≤ sizeLine) (h : Q () { z with heap := z.heap.update d (Obj.mapSeq fun xs => new ++ xs) }) : wpAny (model prog w) A (setItem (.ref d) (.ref sl) (.ref b)) Q E z := by
  have D : z.heap.IsList d old := PySem.IsL.isList e
  have N : z.heap.IsList b new := PySem.IsL.isList e2
  obtain ⟨os, os1, os2, os3⟩ := id hs
  have tS : z.TypeIs (.ref sl) "slice" := ⟨os, os1, os2⟩
  have step : ¬ ((rawPart none == rawInt 0) = true) := Bool.false_ne_true
  have other : Builtin.List.listSameRef (.ref d) (.ref b) = false := by unfold Builtin.List.listSameRef; exact beq_eq_false_iff_ne.mpr apart
  have room2 : ((fun xs : Array Value => xs.extract 0 0 ++ new ++ xs.extract 0 xs.size) old).size ≤ sizeLine + 1 := by simp only [Array.size_append, Array.size_extract]; omega
  have same : ∀ xs : Array Value, xs.extract 0 0 ++ new ++ xs.extract 0 xs.size = new ++ xs := fun xs => by simp
  unfold setItem
  try (with_reducible refine wpAny_holding ?_)
  first | refine wpAny_bind (wpAny_pure ?_) | (skip)
  refine wpAny_bind (wpAny_sequenceKey D.typeIs (by decide) (wpAny_bind (wpAny_callSpecial?_slot (name := Str.ofString "__setitem__") D.typeIs slot_list_setitem (wpAny_call_entry slot_list_setitem D.typeIs entry_list_setitem ?_ (args_list_setitem _ _ _)))))
  show wpAny _ _ (Builtin.List.listSubscript? (.ref sl) >>= _) _ _ z
  refine wpAny_bind ?_; unfold Builtin.List.listSubscript?; refine wpAny_bind (wpAny_specialOf tS slice_no_index ?_); simp only [Option.isNone_none, if_true]; refine wpAny_pure ?_
  show wpAny _ _ (typeOf (.ref sl) >>= _) _ _ z
  refine wpAny_bind (wpAny_typeOf tS ?_)
  first | rw [if_neg (by decide)] | refine PySem.W.KFB.if_not (by decide) ?_
  rw [listSliceParts_eq]
  refine wpAny_bind (wpAny_bind (wpAny_field os1 os3 (x := .none) rfl (wpAny_bind (wpAny_listPart .none ?_))))
  rw [if_neg step]
  refine wpAny_bind (wpAny_field os1 os3 (x := .none) rfl (wpAny_bind (wpAny_listPart .none (wpAny_bind (wpAny_field os1 os3 (x := hi) rfl (wpAny_bind (wpAny_listPart pu (wpAny_pure ?_))))))))
  first | simp only [other, Bool.false_eq_true, if_false] | refine PySem.W.KFB.if_not other ?_ | (dsimp only; rw [if_neg (by rw [other]; exact Bool.false_ne_true)])
  refine wpAny_bind (m := Builtin.List.listAllItems (.ref b) "must assign iterable to extended slice") ?_; unfold Builtin.List.listAllItems
  refine wpAny_bind (wpAny_typeOf N.typeIs ?_)
  first | refine PySem.W.KFB.if_so (by decide) ?_ | rw [if_pos (by decide)] | simp only [beq_self_eq_true, Bool.true_or, if_true]
  unfold Builtin.List.listItems
  refine wpAny_bind (wpAny_seqItems e2 rfl (wpAny_pure (wpAny_bind (wpAny_bind (wpAny_seqItems e rfl (wpAny_pure ?_))))))
  refine wpAny_bind (wpAny_of_eq ((sliceIndices_raw none (some (0 : Int)) none old.size (by simp)).trans (congrArg (pure : Int × Int × Int → Sem (Int × Int × Int)) (front_bounds _))) ?_)
  show wpAny _ _ (if ((1 : Int) == 1) = true then _ else _) _ _ z
  rw [if_pos (by decide)]
  refine wpAny_bind (wpAny_rule ?_); first | simp only [notLongL room, Bool.false_eq_true, if_false] | refine PySem.W.KFB.if_not (notLongL room) ?_
  first | refine wpAny_bind (wpAny_pure ?_) | (skip)
  show wpAny _ _ (updateSeq d (fun xs => xs.extract 0 ((0 : Int)).toNat ++ new ++ xs.extract (max (0 : Int) (0 : Int)).toNat xs.size) >>= _) _ _ z
  refine wpAny_bind (wpAny_updateSeq (hz := Nat.le_trans (Nat.le_add_right _ _) room) (_hz' := room2) e rfl (wpAny_bind (wpAny_letGo ?_)))
  have h' : Q () { z with heap := z.heap.update d (Obj.mapSeq fun xs => xs.extract 0 0 ++ new ++ xs.extract 0 xs.size) } := by
    rw [show (fun xs : Array Value => xs.extract 0 0 ++ new ++ xs.extract 0 xs.size) = fun xs => new ++ xs from funext same]
    exact h
  first | exact wpAny_bind (wpAny_pure (wpAny_pure ⟨.none, rfl, wpAny_pure h'⟩)) | exact wpAny_pure ⟨.none, rfl, wpAny_pure h'⟩
end
section
variable {X : Cx} {o value : Expr} {hi : Option Expr} {tv ta : TE} {th : TO} {p1 p2 pos : Pos}
/-- o[:0] = value -/
def sFront (tv ta : TE) (th : TO) : TS := fun D σ H => tv σ H fun y H1 => ta σ H1 fun x H2 => th σ H2 fun u H3 => u = some 0 ∧ ∃ (d b : Addr) (xs ys : List V), x = .ref d ∧ y = .ref b ∧ H3 d = some (.lst xs) ∧ H3 b = some (.lst ys) ∧ d ≠ b ∧ xs.length + ys.length ≤ sizeLine ∧ D.nx σ (upd H3 d (.lst (ys ++ xs)))
theorem ps_front (ha : PE X o ta) (hv : PE X value tv) (hh : PO X hi th) (hs : swapsWith value (some (.Subscript o (.Slice none hi none p2) p1)) pos.line X.env = pure false) : PS X (.Assign [.Subscript o (.Slice none hi none p2) p1] value pos) (sFront tv ta th) := by
  refine ⟨fun pins z σ H D I h => ?_⟩
  refine wpAny_Assign_Subscript (thn (hv.run pins z σ H _ I h) fun r z1 ⟨y, H1, I1, ry, q1⟩ => thn (ha.run pins z1 σ H1 _ I1 q1) fun u z2 ⟨x, H2, I2, rx, q2⟩ => wpAny_Slice ?_) hs
  rw [evalPart_none]
  refine wpAny_pure (thn (hh.run pins z2 σ H2 _ I2 q2) fun vu z3 ⟨k, H3, I3, pu, e0, d, b, xs, ys, ex, ey, hd, hb, ne, room, q3⟩ => ?_)
  subst e0 ex ey
  obtain rfl : u = Value.ref d := rx
  obtain rfl : r = Value.ref b := ry
  refine wpAny_pure ?_
  have I4 : Inv X pins σ H3 { z3 with heap := z3.heap.push { cls := .type "slice", data := .fields #[.none, vu, .none] } } := I3.kept (t' := z3.toks) fun c ob q => Heap.get?_push_of_some _ q
  obtain ⟨_, its, n, r, hl, e⟩ := I4.lstM hd
  obtain ⟨_, its2, n2, r2, hl2, e2⟩ := I4.lstM hb
  refine front_items (sl := z3.heap.objs.size) e e2 ne (Heap.IsSliceOf.new ..) pu (by rw [List.size_toArray, List.size_toArray, ← r.length, ← r2.length]; exact room) ?_
  refine I4.lset (its' := its2 ++ its) (t' := z3.toks) hd e ?_ (Vals.append r2 r) (by rw [List.length_append]; omega) |> fun J => ⟨σ, _, J, q3⟩
  simp
end
end Sl

/-! three rows behind glass. -/
namespace Sp
open PySem L2 LamX Tri Xc
theorem rowP_fst (x : Int) (i : Nat) : ∀ (ms : List Int) (j : Nat), (rowP x i ms j).map (·.1) = ms.map fun y => x + y
  | [], _ => rfl
  | y :: ms, j => by
    show (x + y) :: (rowP x i ms (j + 1)).map (·.1) = _
    rw [rowP_fst x i ms (j + 1)]
    rfl
theorem allP_fst (ms : List Int) : ∀ (ns : List Int) (i : Nat), (allP ns i ms).map (·.1) = ns.flatMap fun x => ms.map fun y => x + y
  | [], _ => rfl
  | x :: ns, i => by
    show (rowP x i ms 0 ++ allP ns (i + 1) ms).map (·.1) = _
    rw [List.map_append, rowP_fst, allP_fst ms ns (i + 1), List.flatMap_cons]
theorem ord_cnt {ns ms : List Int} {L : List T3} (o : Tri.Ord ns ms L) {n : Nat} {w : T3} (h : L[n]? = some w) : cntS ns ms w.1 ≤ n ∧ n < cntS ns ms (w.1 + 1) := by
  have hp : (L.map (·.1)).Perm (ns.flatMap fun x => ms.map fun y => x + y) := by
    rw [← allP_fst ms ns 0]
    exact o.perm.map _
  have hs : (L.map (·.1)).Pairwise (· ≤ ·) := List.pairwise_map.mpr (o.sort.imp fun {a b} h => by unfold before at h; omega)
  exact sums18_at hp hs (by rw [List.getElem?_map, h]; rfl)
structure Gr where
  (g l r : Addr) (ns : List Int)
structure Gr.At (C : Addr) (H : Hp) (x : Gr) (t : Int) : Prop where
  hg : GlassAt C H x.g x.l t
  hl : H x.l = some (.lst (x.ns.map V.int))
  hr : H x.r = some (.lst (x.ns.map V.int))
structure Gr.Off (a : Addr) (H0 : Hp) (x : Gr) : Prop where
  ga : x.g ≠ a
  la : x.l ≠ a
  ra : x.r ≠ a
  ng : H0 x.g = none
  sd : x.ns.Pairwise (· ≤ ·)
  ln : x.ns.length ≤ 300
section
variable {T : List (Addr × Str)} {S : List Addr} {C a p : Addr} {H H' H0 : Hp} {x y z : Gr} {t u : Int} {xs : List V}
theorem Mv.lst (m : Mv T S H H') (hS : ∀ b ∈ S, b = a ∨ ∃ D dx fs, H b = some (.ins D dx fs)) (h : H p = some (.lst xs)) (n : p ≠ a) : H' p = some (.lst xs) :=
  m.g h fun z => by
    rcases hS p z with e | ⟨D, dx, fs, e⟩
    · exact n e
    · rw [e] at h; cases h
theorem Gr.At.same (s : Same H H') (h : x.At C H t) : x.At C H' t := ⟨h.hg.same s, s _ _ h.hl, s _ _ h.hr⟩
theorem Gr.At.ext (s : Ext a H H') (f : x.Off a H0) (h : x.At C H t) : x.At C H' t := ⟨let ⟨d, e⟩ := h.hg; ⟨d, s.keep _ _ e f.ga⟩, s.keep _ _ h.hl f.la, s.keep _ _ h.hr f.ra⟩
/-- what was looked at -/
theorem Gr.At.mine (m : Mv T S H H') (hS : ∀ b ∈ S, b = a ∨ ∃ D dx fs, H b = some (.ins D dx fs)) (f : x.Off a H0) (h : x.At C H t) (G : GlassAt C H' x.g x.l u) : x.At C H' u := ⟨G, m.lst hS h.hl f.la, m.lst hS h.hr f.ra⟩
/-- what was not -/
theorem Gr.At.mv (m : Mv T S H H') (hS : ∀ b ∈ S, b = a ∨ ∃ D dx fs, H b = some (.ins D dx fs)) (f : x.Off a H0) (h : x.At C H t) (n : x.g ∉ S) : x.At C H' t := ⟨h.hg.mv m n, m.lst hS h.hl f.la, m.lst hS h.hr f.ra⟩
end
def spRefused20 (K : PySem.W.Frag) (C : Addr) : L2.Sp := fun vs H Q _ => ∃ (p g1 g2 l1 l2 : Addr) (t1 t2 : Int) (ns ms : List Int) (m : Int), vs = [.ref p, .int m] ∧ H p = some (.tup [.ref g1, .ref g2]) ∧ GlassAt C H g1 l1 t1 ∧ GlassAt C H g2 l2 t2 ∧ H l1 = some (.lst (ns.map V.int)) ∧ H l2 = some (.lst (ms.map V.int)) ∧ ns.length ≤ 1000 ∧ ms.length ≤ 1000 ∧
  Bad K H (.int m) ((ns.length : Int) * (ms.length : Int)) ∧ ∀ H', Same H H' → Q (.bl true) H'
def spLook20 (T : List (Addr × Str)) (C : Addr) : L2.Sp := fun vs H Q _ => ∃ (a : Addr) (x : Gr) (t : Int) (H0 : Hp), vs = [.ref a, .ref x.r, .ref x.g] ∧ HandAt H a ∧ x.At C H t ∧ x.Off a H0 ∧ 0 < x.ns.length ∧ ∀ (u : Int) (H' : Hp), Mv T [a, x.g] H H' → HandAt H' a → GlassAt C H' x.g x.l u → Q (.bl true) H'
def spSum20 (T : List (Addr × Str)) (C : Addr) : L2.Sp := fun vs H Q _ => ∃ (a tp tg : Addr) (x y : Gr) (t u : Int) (H0 : Hp), vs = [.ref a, .ref tp, .ref tg] ∧ HandAt H a ∧ H tp = some (.tup [.ref x.r, .ref y.r]) ∧ H tg = some (.tup [.ref x.g, .ref y.g]) ∧ x.At C H t ∧ y.At C H u ∧ x.Off a H0 ∧ y.Off a H0 ∧ x.g ≠ y.g ∧ 0 < x.ns.length * y.ns.length ∧ Tabs T H ∧
  ∀ (t' u' : Int) (H' : Hp), Mv T [a, x.g, y.g] H H' → HandAt H' a → GlassAt C H' x.g x.l t' → GlassAt C H' y.g y.l u' → Q (.bl true) H'
end Sp
namespace Sp
open PySem L2 LamX Tri Xc
theorem ix_tupK {X : Cx} {K : PySem.W.Frag} (hK : X.K = K) : IxR X (rIxT K) := hK ▸ ix_tup
end Sp
namespace Sp
def GDj (x y : Gr) : Prop := x.g ≠ y.g
end Sp

/-! laws that draw from a list: all stays but that list, which gets shorter. -/
namespace Sp
open PySem L2 LamX Tri
/-- the list of draws -/
def DrawAt (H : Hp) (a : Addr) : Prop := ∃ ds : List Int, H a = some (.lst (ds.map V.int)) ∧ ds.length ≤ 240 ∧ ∀ x ∈ ds, 0 ≤ x ∧ x < 1000
structure ExtD (a : Addr) (H H' : Hp) : Prop where
  keep : ∀ b o, H b = some o → b ≠ a → H' b = some o
  hand : DrawAt H a → DrawAt H' a
section
variable {a b p : Addr} {H H' H1 H2 : Hp} {ns : List Int} {xs : List V} {K : PySem.W.Frag} {T : List (Addr × Str)}
theorem ExtD.refl : ExtD a H H := ⟨fun _ _ h _ => h, fun h => h⟩
theorem ExtD.trans (e : ExtD a H H1) (f : ExtD a H1 H2) : ExtD a H H2 := ⟨fun b o h n => f.keep b o (e.keep b o h n) n, fun h => f.hand (e.hand h)⟩
theorem DrawAt.same (s : Same H H') (h : DrawAt H a) : DrawAt H' a := by
  obtain ⟨ds, e, r⟩ := h
  exact ⟨ds, s _ _ e, r⟩
theorem ExtD.same (s : Same H H') : ExtD a H H' := ⟨fun b o h _ => s b o h, fun h => h.same s⟩
theorem ExtD.new {o : HO} (h : H p = none) : ExtD a H (upd H p o) := .same (same_new h)
theorem DrawAt.ne (h : DrawAt H a) (n : H p = none) : p ≠ a := by
  obtain ⟨ds, e, r⟩ := h
  exact fun z => by rw [z, e] at n; cases n
theorem ExtD.made (e : ExtD a H H') (n : H a = none) : Same H H' := fun b o h => e.keep b o h (fun z => by rw [z, n] at h; cases h)
theorem ExtD.free (e : ExtD a H H') (n : b ≠ a) (h : H' b = none) : H b = none := by
  cases q : H b with
  | none => rfl
  | some o => rw [e.keep b o q n] at h; cases h
theorem seqExtD (e : ExtD a H H') (n : p ≠ a) (h : SqL K H p xs) : SqL K H' p xs := by
  rcases h with (h | ⟨o, h⟩) | h
  · exact .inl (.inl (e.keep _ _ h n))
  · exact .inl (.inr ⟨o, e.keep _ _ h n⟩)
  · exact .inr h
theorem RowAt.upD (r : RowAt H a p ns) (e : ExtD a H H') : RowAt H' a p ns := ⟨e.keep _ _ r.at_ r.ne, r.ne, r.fine, r.len⟩
theorem Nums.upD (n : Nums H a p ns) (e : ExtD a H H') : Nums H' a p ns := ⟨e.keep _ _ n.1 n.2, n.2⟩
theorem Nx.draws (n : Nx T H H') (h : DrawAt H a) : DrawAt H' a := by
  obtain ⟨ds, e, r⟩ := h
  exact ⟨ds, n.g e, r⟩
theorem tabs_draws (h : DrawAt H a) (e : ExtD a H H') (t : Tabs T H) : Tabs T H' := fun q hq => by
  obtain ⟨ds, e0, _⟩ := h
  obtain ⟨ps, h1, h2, h3⟩ := t q hq
  refine ⟨ps, e.keep _ _ h1 (fun z => ?_), h2, fun pos cv hc => ?_⟩
  · rw [z, e0] at h1
    cases h1
  · obtain ⟨c, c1, c2⟩ := h3 pos cv hc
    refine ⟨c, c1, e.keep _ _ c2 fun z => ?_⟩
    rw [z, e0] at c2
    unfold CodeO at c2
    cases c2
/-- all but the draws and the tables -/
structure ExD (T : List (Addr × Str)) (a : Addr) (H H' : Hp) : Prop where
  of : ∀ b o, H b = some o → NT o → b ≠ a → H' b = some o
  hand : DrawAt H a → DrawAt H' a
  tabs : Tabs T H → Tabs T H'
theorem ExD.nx (n : Nx T H H') : ExD T a H H' := ⟨fun b o h t _ => n.of b o h t, n.draws, n.tabs⟩
theorem ExD.same (s : Same H H') : ExD T a H H' := .nx (.same s)
theorem ExD.ext (e : ExtD a H H') (h : DrawAt H a) : ExD T a H H' := ⟨fun b o q _ n => e.keep b o q n, e.hand, tabs_draws h e⟩
theorem ExD.trans (e : ExD T a H H1) (f : ExD T a H1 H2) : ExD T a H H2 := ⟨fun b o h t n => f.of b o (e.of b o h t n) t n, fun h => f.hand (e.hand h), fun h => f.tabs (e.tabs h)⟩
theorem ExD.made (e : ExD T a H H') (n : H a = none) : Nx T H H' := ⟨fun b o h t => e.of b o h t (fun z => by rw [z, n] at h; cases h), e.tabs⟩
theorem ExD.row (e : ExD T a H H') (r : RowAt H a p ns) : RowAt H' a p ns := ⟨e.of _ _ r.at_ trivial r.ne, r.ne, r.fine, r.len⟩
theorem ext_appD {D : Addr} {H0 : Hp} (nD : H0 D = none) (nDa : D ≠ a) (e : ExtD a H0 H) : ExtD a H0 (upd H D (.lst xs)) := ⟨fun c o hc hca => by
    rw [upd_ne (ne_of_none hc nD)]
    exact e.keep c o hc hca, fun hh => by
    obtain ⟨ds, e1, r⟩ := e.hand hh
    exact ⟨ds, by rw [upd_ne nDa.symm]; exact e1, r⟩⟩
theorem RowAt.freed (r : RowAt H a p ns) {c : Addr} : p ≠ c → RowAt H c p ns := fun n => ⟨r.at_, n, r.fine, r.len⟩
end
def spDraws (K : PySem.W.Frag) : L2.Sp := fun vs H Q _ => ∃ (s : Addr) (ns : List Int), vs = [.ref s] ∧ SqL K H s (ns.map V.int) ∧ ns.length ≤ 63 ∧ ∀ (d : Addr) (H' : Hp), Same H H' → H d = none → DrawAt H' d → Q (.ref d) H'
def spTake : L2.Sp := fun vs H Q _ => ∃ (a : Addr) (n : Int), vs = [.ref a, .int n] ∧ DrawAt H a ∧ 0 < n ∧ ∀ r H', ExtD a H H' → 0 ≤ r → r < n → r < 1000 → Q (.int r) H'
def spRowD : L2.Sp := fun vs H Q _ => ∃ (a : Addr) (m : Nat), vs = [.ref a, .int (m : Int)] ∧ DrawAt H a ∧ m ≤ 300 ∧ ∀ (p : Addr) (ns : List Int) (H' : Hp), ExtD a H H' → H p = none → H' p = some (.lst (ns.map V.int)) → ns.length ≤ m → Fine ns → Q (.ref p) H'
/-! steps of a row -/
def OkB (b ms : Int) : Prop := (0 < b ∧ b ≤ 1000 ∧ b - 1 ≤ ms) ∨ (100000 ≤ b ∧ b ≤ ms)
def baseL : List Int := [1, 2, 3, 10, 1000, 100000, 1000000000, 3322259136212]
theorem okB_big {b : Int} (h : b ∈ baseL) : OkB b 3322259136212 := by
  unfold baseL at h
  simp only [List.mem_cons, List.not_mem_nil, or_false] at h
  unfold OkB
  omega
theorem okB_step {b ms t : Int} (h : OkB b ms) (t0 : 0 ≤ t) (t1 : t < 9973) : ∃ s, atI [V.int (t % b), V.int (t * (b / 9973) + t % 7)] (if decide (1000 < b) = true then (1 : Int) else 0) = some (.int s) ∧ 0 ≤ s ∧ s ≤ ms := by
  rcases h with ⟨h1, h2, h3⟩ | ⟨h1, h2⟩
  · rw [if_neg (by simp; omega)]
    have a1 := Int.emod_nonneg t (show b ≠ 0 by omega)
    have a2 := Int.emod_lt_of_pos t h1
    exact ⟨_, at0, a1, by omega⟩
  · rw [if_pos (by simp; omega)]
    have q0 : 0 ≤ b / 9973 := Int.ediv_nonneg (by omega) (by omega)
    have m1 := Int.mul_le_mul_of_nonneg_right (show t ≤ 9972 by omega) q0
    have m2 := Int.mul_nonneg t0 q0
    exact ⟨_, at1, by omega, by omega⟩
/-- a test of any kind: told once what holds behind it, either way -/
theorem test_split {T : (Bool → Hp → Prop) → Prop} {B : Bool → Hp → Prop} (I J : Hp → Prop) (key : ∀ K : Bool → Hp → Prop, (∀ H1, I H1 → K true H1) → (∀ H1, J H1 → K false H1) → T K) (h1 : ∀ H1, I H1 → B true H1) (h2 : ∀ H1, J H1 → B false H1) : T B := key B h1 h2
/-- an if among statements, its test told once -/
theorem if_split {c : TT} {t u z : TS} {D : Ends} {σ : L2.St} {H : Hp} (I J : Hp → Prop) (key : ∀ K : Bool → Hp → Prop, (∀ H1, I H1 → K true H1) → (∀ H1, J H1 → K false H1) → c σ H K) (h1 : ∀ H1, I H1 → t { D with nx := z D } σ H1) (h2 : ∀ H1, J H1 → u { D with nx := z D } σ H1) : tSeq (tIfS c t u) z D σ H :=
  key (fun b H1 => if b = true then t { D with nx := z D } σ H1 else u { D with nx := z D } σ H1) (fun H1 h => by rw [if_pos rfl]; exact h1 H1 h) fun H1 h => by rw [if_neg (by decide)]; exact h2 H1 h
theorem if_one {c : TT} {t u : TS} {D : Ends} {σ : L2.St} {H : Hp} (I J : Hp → Prop) (key : ∀ K : Bool → Hp → Prop, (∀ H1, I H1 → K true H1) → (∀ H1, J H1 → K false H1) → c σ H K) (h1 : ∀ H1, I H1 → t D σ H1) (h2 : ∀ H1, J H1 → u D σ H1) : tIfS c t u D σ H :=
  key (fun b H1 => if b = true then t D σ H1 else u D σ H1) (fun H1 h => by rw [if_pos rfl]; exact h1 H1 h) fun H1 h => by rw [if_neg (by decide)]; exact h2 H1 h
/-- x if c else y, stored; its test told once -/
theorem exp_split {c : TT} {ta tb : TE} {g : TG} {D : Ends} {σ : L2.St} {H : Hp} (I J : Hp → Prop) (key : ∀ K : Bool → Hp → Prop, (∀ H1, I H1 → K true H1) → (∀ H1, J H1 → K false H1) → c σ H K) (h1 : ∀ H1, I H1 → ta σ H1 fun x H2 => g x σ H2 D.nx) (h2 : ∀ H1, J H1 → tb σ H1 fun x H2 => g x σ H2 D.nx) : tAsg (tIf c ta tb) g D σ H :=
  key (fun b H1 => if b = true then ta σ H1 (fun x H2 => g x σ H2 D.nx) else tb σ H1 fun x H2 => g x σ H2 D.nx) (fun H1 h => by rw [if_pos rfl]; exact h1 H1 h) fun H1 h => by rw [if_neg (by decide)]; exact h2 H1 h
end Sp

/-! places of pairs, papers. -/
namespace Sp
open PySem L2 LamX Tri
/-- the place of a pair in the order of sums -/
def placeS (ns ms : List Int) (i j : Nat) (x y : Int) : Nat := cntS ns ms (x + y) + ((ns.take i).map fun z => ms.count (x + y - z)).sum + (ms.take j).count y
/-- among the likes of its number, so many stand ahead -/
theorem place_count {ms : List Int} (hs : ms.Pairwise (· ≤ ·)) {j : Nat} {y : Int} (hy : ms[j]? = some y) : cntB ms y + (ms.take j).count y = j := by
  have lt := (cntB_lt (n := y + 1) hs hy).mp (by omega)
  have nx := cntB_next ms y
  have ge : ¬ j < cntB ms y := fun c => by have := (cntB_lt (n := y) hs hy).mpr c; omega
  obtain ⟨k, rfl⟩ : ∃ k, j = cntB ms y + k := ⟨j - cntB ms y, by omega⟩
  rw [(like_at hs (k := k) (by omega)).2]
theorem cut_sub {ns : List Int} (lo hi : Option Int) : ∃ ms : List Int, cutV (ns.map V.int) lo hi = ms.map V.int ∧ ms.Sublist ns := by
  refine ⟨(ns.drop (HT.sIx ns.length 0 lo)).take (HT.sIx ns.length ns.length hi - HT.sIx ns.length 0 lo), ?_, (List.take_sublist _ _).trans (List.drop_sublist _ _)⟩
  unfold cutV
  rw [List.length_map, List.map_take, List.map_drop]
theorem Fine.sub {ns ms : List Int} (f : Fine ns) (h : ms.Sublist ns) : Fine ms := ⟨f.1.sublist h, fun x hx => f.2 x (h.subset hx)⟩
def spPairGood (K : PySem.W.Frag) : L2.Sp := fun vs H Q _ => ∃ (t p q : Addr) (xs ys : List V) (i j : Nat), vs = [.ref t, .ref p, .ref q] ∧ H t = some (.tup [.int (i : Int), .int (j : Int)]) ∧ SqL K H p xs ∧ SqL K H q ys ∧ i < xs.length ∧ j < ys.length ∧ Q .non H
def spPlaceOf (K : PySem.W.Frag) : L2.Sp := fun vs H Q _ => ∃ (p q t : Addr) (ns ms : List Int) (i j : Nat) (x y : Int), vs = [.ref p, .ref q, .ref t] ∧ SqL K H p (ns.map V.int) ∧ SqL K H q (ms.map V.int) ∧ ns.Pairwise (· ≤ ·) ∧ ms.Pairwise (· ≤ ·) ∧ H t = some (.tup [.int (i : Int), .int (j : Int)]) ∧ ns.length ≤ 1000 ∧ ms.length ≤ 1000 ∧ ns[i]? = some x ∧ ms[j]? = some y ∧
  ∀ H', Same H H' → Q (.int (placeS ns ms i j x y : Nat)) H'
def belowL (ns ms : List Int) (n : Int) : List Int := ns.map fun x => ((cntB ms (n - x) : Nat) : Int)
theorem belowL_len (ns ms : List Int) (n : Int) : (belowL ns ms n).length = ns.length := List.length_map _
theorem belowL_sum (ms : List Int) (n : Int) : ∀ ns : List Int, (belowL ns ms n).sum = ((cntS ns ms n : Nat) : Int)
  | [] => rfl
  | x :: ns => by
    show (_ :: belowL ns ms n).sum = _
    rw [List.sum_cons, belowL_sum ms n ns, cntS_cons, Int.natCast_add]
theorem belowL_at {ns ms : List Int} {n x : Int} {i : Nat} (h : ns[i]? = some x) : (belowL ns ms n)[i]? = some ((cntB ms (n - x) : Nat) : Int) := by
  unfold belowL
  rw [List.getElem?_map, h]
  rfl
def spBelowL (K : PySem.W.Frag) : L2.Sp := fun vs H Q _ => ∃ (p q : Addr) (ns ms : List Int) (n : Int), vs = [.ref p, .ref q, .int n] ∧ SqL K H p (ns.map V.int) ∧ SqL K H q (ms.map V.int) ∧ ns.Pairwise (· ≤ ·) ∧ ms.Pairwise (· ≤ ·) ∧ ns.length ≤ 1000 ∧
  ∀ (r : Addr) (H' : Hp), Same H H' → H r = none → H' r = some (.lst ((belowL ns ms n).map V.int)) → Q (.ref r) H'
def spWhole1 : L2.Sp := fun vs H Q _ => ∃ n : Int, vs = [.int n] ∧ Q (.bl true) H
def spSmall42 (K : PySem.W.Frag) : L2.Sp := fun vs H Q _ => ∃ (p q : Addr) (ns ms : List Int), vs = [.ref p, .ref q] ∧ SqL K H p (ns.map V.int) ∧ SqL K H q (ms.map V.int) ∧ ns.Pairwise (· ≤ ·) ∧ ms.Pairwise (· ≤ ·) ∧ ns.length ≤ 300 ∧ ms.length ≤ 300 ∧ ∀ H', Same H H' → Q (.bl true) H'
/-- what the law adds up, row by row -/
def stairs (ns ms : List Int) (s : Int) (i j : Nat) (k : Nat) : Int := (((ns.take k).map fun z => ((cntB ms (s - z) : Nat) : Int)).sum + (((ns.take k).take i).map fun z => ((ms.count (s - z) : Nat) : Int)).sum) + (if i < k then (j : Int) - ((cntB ms (s - (ns.getD i 0)) : Nat) : Int) else 0)
theorem stairs_all {ns ms : List Int} (sm : ms.Pairwise (· ≤ ·)) {i j : Nat} {x y : Int} (hx : ns[i]? = some x) (hy : ms[j]? = some y) : stairs ns ms (x + y) i j ns.length = ((placeS ns ms i j x y : Nat) : Int) := by
  have li := (List.getElem?_eq_some_iff.mp hx).1
  have g : ns.getD i 0 = x := by rw [List.getD_eq_getElem?_getD, hx]; rfl
  have tc := place_count sm hy
  have c1 : ∀ l : List Int, (l.map fun z => ((cntB ms (x + y - z) : Nat) : Int)).sum = ((cntS l ms (x + y) : Nat) : Int) := fun l => belowL_sum ms (x + y) l
  have c2 : ∀ l : List Int, (l.map fun z => ((ms.count (x + y - z) : Nat) : Int)).sum = (((l.map fun z => ms.count (x + y - z)).sum : Nat) : Int) := by
    intro l
    induction l with
    | nil => rfl
    | cons z l ih => rw [List.map_cons, List.sum_cons, List.map_cons, List.sum_cons, ih, Int.natCast_add]
  unfold stairs placeS
  rw [take_all, if_pos li, g, c1, c2, show x + y - x = y from by omega]
  omega
theorem stairs_next {ns ms : List Int} {s z : Int} {i j k : Nat} (h : ns[k]? = some z) : stairs ns ms s i j (k + 1) = stairs ns ms s i j k + ((cntB ms (s - z) : Nat) : Int) + (if k < i then ((cntB ms (s + 1 - z) : Nat) : Int) - ((cntB ms (s - z) : Nat) : Int) else 0) + (if k = i then (j : Int) - ((cntB ms (s - z) : Nat) : Int) else 0) := by
  have lk := (List.getElem?_eq_some_iff.mp h).1
  have lt : (ns.take k).length = k := by rw [List.length_take]; omega
  have nx := cntB_next ms (s - z)
  unfold stairs
  rw [take_snoc h, List.map_append, List.sum_append]
  simp only [List.map_cons, List.map_nil, List.sum_cons, List.sum_nil]
  rcases Nat.lt_trichotomy k i with c | c | c
  · have t1 : (ns.take k ++ [z]).take i = ns.take k ++ [z] := List.take_of_length_le (by rw [List.length_append, lt]; simp; omega)
    have t2 : (ns.take k).take i = ns.take k := List.take_of_length_le (by omega)
    rw [t1, t2, if_neg (by omega), if_neg (by omega), if_pos c, if_neg (by omega), List.map_append, List.sum_append]
    simp only [List.map_cons, List.map_nil, List.sum_cons, List.sum_nil]
    rw [show s + 1 - z = s - z + 1 from by omega]
    omega
  · subst c
    have g : ns.getD k 0 = z := by rw [List.getD_eq_getElem?_getD, h]; rfl
    rw [List.take_append_of_le_length (by omega), if_pos (by omega), if_neg (by omega), if_neg (by omega), if_pos rfl, g]
    omega
  · rw [List.take_append_of_le_length (by omega), if_pos (by omega), if_pos c, if_neg (by omega), if_neg (by omega)]
    omega
/-! numbers that are asked for -/
theorem op_mul_str {X : Cx} : OpR X (binaryOp .Mult) (fun x y H Q => ∃ (i : Str) (n : Int), x = .str i ∧ y = .int n ∧ MulOk i n ∧ Q (.str (Txt.mul i n)) H) := by
  intro pins s σ H x y v u Q I rx ry h
  obtain ⟨i, n, rfl, rfl, ok, q⟩ := h
  obtain ⟨t, rfl⟩ := rx
  obtain ⟨t', rfl⟩ := ry
  exact SB.mul ok fun t' tk => ⟨.str (Txt.mul i n), H, I.tok _, ⟨_, rfl⟩, q⟩
theorem noughts_ok : ∀ k : Fin 41, (decide (((k.val : Nat) : Int) < -(2 ^ 63 : Int)) || decide (((k.val : Nat) : Int) ≥ 2 ^ 63)) = false ∧ PySem.intText? (("1" : Str) ++ Txt.mul "0" ((k.val : Nat) : Int)) = some (10 ^ k.val) ∧ (("1" : Str) ++ Txt.mul "0" ((k.val : Nat) : Int)).length ≤ 640 ∧ ("1" : Str).length + (Txt.mul "0" ((k.val : Nat) : Int)).length ≤ sizeLine := by decide +kernel
theorem noughts_mul {n : Int} (h0 : 0 ≤ n) (h1 : n < 41) : MulOk "0" n := by
  obtain ⟨k, rfl⟩ : ∃ k : Nat, n = (k : Int) := ⟨n.toNat, by omega⟩
  refine ⟨(noughts_ok ⟨k, by omega⟩).1, fun h2 _ => ?_, fun _ _ => ?_⟩
  · have e : (("0" : Str).length : Int) = 1 := by decide
    rw [e]
    have : (1 : Int) ≤ (2 ^ 63 - 1) / (k : Int) := by
      rw [Int.le_ediv_iff_mul_le (by omega)]
      omega
    omega
  · have e : ("0" : Str).length = 1 := by decide
    rw [e, Nat.one_mul]
    have : (k : Int).toNat ≤ 41 := by omega
    unfold Builtin.Str.tooLong
    simp only [decide_eq_false_iff_not, Nat.not_lt]
    exact Nat.le_trans this (by decide)
theorem noughts {n : Int} (h0 : 0 ≤ n) (h1 : n < 41) : PySem.intText? (("1" : Str) ++ Txt.mul "0" n) = some (10 ^ n.toNat) ∧ (("1" : Str) ++ Txt.mul "0" n).length ≤ 640 ∧ ("1" : Str).length + (Txt.mul "0" n).length ≤ sizeLine := by
  obtain ⟨k, rfl⟩ : ∃ k : Nat, n = (k : Int) := ⟨n.toNat, by omega⟩
  have := (noughts_ok ⟨k, by omega⟩).2
  exact this
theorem ten_pow {n : Int} (h0 : 0 ≤ n) (h1 : n < 41) : -(2 ^ 200) < (10 : Int) ^ n.toNat ∧ (10 : Int) ^ n.toNat < 2 ^ 200 := by
  have h : ∀ k : Fin 41, -(2 ^ 200) < (10 : Int) ^ k.val ∧ (10 : Int) ^ k.val < 2 ^ 200 := by decide +kernel
  exact h ⟨n.toNat, by omega⟩
def spAskedD : L2.Sp := fun vs H Q _ => ∃ (a p q : Addr) (ns ms : List Int), vs = [.ref a, .ref p, .ref q] ∧ DrawAt H a ∧ RowAt H a p ns ∧ RowAt H a q ms ∧ ∀ (n : Int) (H' : Hp), ExtD a H H' → Q (.int n) H'
def spSums2 (K : PySem.W.Frag) : L2.Sp := fun vs H Q _ => ∃ (p q : Addr) (ns ms : List Int) (n : Int), vs = [.ref p, .ref q, .int n] ∧ SqL K H p (ns.map V.int) ∧ SqL K H q (ms.map V.int) ∧ ns.Pairwise (· ≤ ·) ∧ ms.Pairwise (· ≤ ·) ∧ ns.length ≤ 1000 ∧ ∀ H', Same H H' → Q (.int (cntS ns ms n : Nat)) H'
def spPlacesOf (K : PySem.W.Frag) : L2.Sp := fun vs H Q _ => ∃ (p q : Addr) (ns ms : List Int) (n : Int), vs = [.ref p, .ref q, .int n] ∧ SqL K H p (ns.map V.int) ∧ SqL K H q (ms.map V.int) ∧ ns.Pairwise (· ≤ ·) ∧ ms.Pairwise (· ≤ ·) ∧ ∀ t, H t = none → Q (.ref t) (upd H t (.tup [.int (cntS ns ms n : Nat), .int (cntS ns ms (n + 1) : Nat)]))
def spWholes2 (K : PySem.W.Frag) : L2.Sp := fun vs H Q _ => ∃ (t : Addr) (zs : List Int), vs = [.ref t, .int (zs.length : Int)] ∧ H t = some (.tup (zs.map V.int)) ∧ zs.length ≤ 100 ∧ ∀ H', Same H H' → Q (.bl true) H'
abbrev dtup (zs : List Int) : PyData := .tuple (zs.map PyData.int)
theorem dp_tup {K : PySem.W.Frag} {H : Hp} {t : Addr} {zs : List Int} (h : H t = some (.tup (zs.map V.int))) : Dp K H (.ref t) (dtup zs) := .tup (.inl (.inl h)) (dpAll_ints zs)
theorem shaped_tup (zs : List Int) : SeqAt.shaped (dtup zs) = true := by
  unfold SeqAt.shaped
  rw [PyData.canLay0, lay_ints, PyData.depth, dep_ints]
  rfl
theorem eqv_tup (zs ys : List Int) : PyData.eqv (dtup zs) (dtup ys) = decide (zs = ys) := by rw [PyData.eqv, eqvAll_ints]
/-! papers -/
theorem shows_no {ms : List Int} (hs : ms.Pairwise (· ≤ ·)) {n y : Int} {k : Nat} (h : ms[k]? = some y) (hy : n ≤ y) : ¬ k + 1 = cntB ms n := fun e => by
  have := (cntB_lt (n := n) hs h).mpr (by omega)
  omega
theorem shows_at {ms : List Int} (hs : ms.Pairwise (· ≤ ·)) {n : Int} {k : Nat} (h1 : ∀ (j : Nat) (y : Int), j + 1 = k → ms[j]? = some y → y < n) (hk : k ≤ ms.length) : (k = ms.length → k = cntB ms n) ∧ ∀ y, ms[k]? = some y → (n ≤ y ↔ k = cntB ms n) := by
  have le := cntB_le ms n
  have ge : k ≤ cntB ms n := by
    cases k with
    | zero => exact Nat.zero_le _
    | succ j =>
      obtain ⟨y, hy⟩ : ∃ y, ms[j]? = some y := ⟨_, List.getElem?_eq_getElem (by omega)⟩
      exact (cntB_lt (n := n) hs hy).mp (h1 j y rfl hy)
  refine ⟨fun e => by omega, fun y hy => ?_⟩
  have := cntB_lt (n := n) hs hy
  constructor
  · intro h
    have : ¬ y < n := by omega
    omega
  · intro e
    have : ¬ k < cntB ms n := by omega
    omega
def spShows (K : PySem.W.Frag) : L2.Sp := fun vs H Q _ => ∃ (x : V) (q : Addr) (ms : List Int) (n : Int), vs = [x, .ref q, .int n] ∧ SqL K H q (ms.map V.int) ∧ ms.Pairwise (· ≤ ·) ∧ ((∃ v, x = .int v ∧ Q (.bl (decide (v = ((cntB ms n : Nat) : Int)))) H) ∨ (NoInt K H x ∧ Q (.bl false) H))
def spPaperOf (K : PySem.W.Frag) : L2.Sp := fun vs H Q _ => ∃ (p q : Addr) (ns ms : List Int) (n : Int), vs = [.ref p, .ref q, .int n] ∧ SqL K H p (ns.map V.int) ∧ SqL K H q (ms.map V.int) ∧ ms.Pairwise (· ≤ ·) ∧ ns.length ≤ 1000 ∧
  ∀ (r : Addr) (H' : Hp), Same H H' → H r = none → H' r = some (.lst ((belowL ns ms n).map V.int)) → Q (.ref r) H'
/-- what by_paper tells -/
def paperTold (b : Bool) (m : Int) : V := if b = true then .int m else .non
def spByPaper (K : PySem.W.Frag) : L2.Sp := fun vs H Q _ => ∃ (p q : Addr) (ns ms : List Int) (n : Int) (x : V), vs = [.ref p, .ref q, .int n, x] ∧ SqL K H p (ns.map V.int) ∧ SqL K H q (ms.map V.int) ∧ ms.Pairwise (· ≤ ·) ∧ ns.length ≤ 1000 ∧
  ((∃ (t : Addr) (xs : List V), x = .ref t ∧ SqL K H t xs ∧ (∀ y ∈ xs, Kn K H y) ∧ ∀ (b : Bool) (H' : Hp), (b = true ↔ xs = (belowL ns ms n).map V.int) → Same H H' → Q (paperTold b ((cntS ns ms n : Nat) : Int)) H') ∨
  (∃ T, T ∈ ["int", "bool", "str", "NoneType", "tuple", "dict"] ∧ TyX K H x (.type T) ∧ Q .non H))
def spRight45 (K : PySem.W.Frag) : L2.Sp := fun vs H Q _ => ∃ (p q : Addr) (ns ms : List Int) (n : Int), vs = [.ref p, .ref q, .int n] ∧ SqL K H p (ns.map V.int) ∧ SqL K H q (ms.map V.int) ∧ ns.Pairwise (· ≤ ·) ∧ ms.Pairwise (· ≤ ·) ∧ ns.length ≤ 300 ∧ ms.length ≤ 300 ∧ ∀ H', Same H H' → Q (.bl true) H'
end Sp

namespace Sp
open PySem L2 LamX Tri
/-! ### differences, otherwise -/
def cntR (x : Int) (ms : List Int) (n : Int) : Nat := ms.countP fun y => decide (x - y < n)
theorem cntD_cons (x : Int) (ns ms : List Int) (n : Int) : cntD (x :: ns) ms n = cntR x ms n + cntD ns ms n := by
  unfold cntD
  rw [List.map_cons, List.sum_cons]
  rfl
theorem cntR_cons (x y : Int) (ms : List Int) (n : Int) : cntR x (y :: ms) n = cntR x ms n + (if x - y < n then 1 else 0) := by
  unfold cntR
  rw [List.countP_cons]
  by_cases h : x - y < n
  · rw [if_pos (decide_eq_true h), if_pos h]
  · rw [if_neg (by simpa using h), if_neg h]
def cntC (y : Int) (ns : List Int) (n : Int) : Nat := ns.countP fun x => decide (x - y < n)
theorem cntC_cons (y x : Int) (ns : List Int) (n : Int) : cntC y (x :: ns) n = cntC y ns n + (if x - y < n then 1 else 0) := by
  unfold cntC
  rw [List.countP_cons]
  by_cases h : x - y < n
  · rw [if_pos (decide_eq_true h), if_pos h]
  · rw [if_neg (by simpa using h), if_neg h]
theorem cntD_cons_r : ∀ (ns : List Int) (y : Int) (ms : List Int) (n : Int), cntD ns (y :: ms) n = cntC y ns n + cntD ns ms n
  | [], _, _, _ => rfl
  | x :: ns, y, ms, n => by
    rw [cntD_cons, cntD_cons, cntD_cons_r ns y ms n, cntR_cons, cntC_cons]
    omega
theorem cntD_append (ns ks ms : List Int) (n : Int) : cntD (ns ++ ks) ms n = cntD ns ms n + cntD ks ms n := by
  unfold cntD
  rw [List.map_append, List.sum_append]
theorem cntD_append_r (ns : List Int) (n : Int) (ks : List Int) : ∀ ms : List Int, cntD ns (ms ++ ks) n = cntD ns ms n + cntD ns ks n
  | [] => by
    have h : cntD ns [] n = 0 := by
      induction ns with
      | nil => rfl
      | cons x ns ih => rw [cntD_cons, ih]; rfl
    rw [List.nil_append, h, Nat.zero_add]
  | y :: ms => by
    rw [List.cons_append, cntD_cons_r, cntD_cons_r, cntD_append_r ns n ks ms]
    omega
theorem cntD_perm {ns ks : List Int} (h : ns.Perm ks) (ms : List Int) (n : Int) : cntD ns ms n = cntD ks ms n := (h.map _).sum_nat
theorem cntD_perm_r {ms ks : List Int} (h : ms.Perm ks) (n : Int) : ∀ ns : List Int, cntD ns ms n = cntD ns ks n
  | [] => rfl
  | x :: ns => by
    rw [cntD_cons, cntD_cons, cntD_perm_r h n ns]
    unfold cntR
    rw [h.countP_eq]
theorem cntD_shift (b : Int) : ∀ (ns ms : List Int) (n : Int), cntD (ns.map fun x => x + b) ms (n + b) = cntD ns ms n
  | [], _, _ => rfl
  | x :: ns, ms, n => by
    rw [List.map_cons, cntD_cons, cntD_cons, cntD_shift b ns ms n]
    congr 1
    unfold cntR
    congr 1
    funext y
    rw [decide_eq_decide]
    omega
theorem cntR_shift (x b n : Int) : ∀ ms : List Int, cntR (x + b) (ms.map fun y => y + b) n = cntR x ms n
  | [] => rfl
  | y :: ms => by
    rw [List.map_cons, cntR_cons, cntR_cons, cntR_shift x b n ms]
    rw [show x + b - (y + b) = x - y from by omega]
theorem cntD_both (b : Int) (ms : List Int) (n : Int) : ∀ ns : List Int, cntD (ns.map fun x => x + b) (ms.map fun y => y + b) n = cntD ns ms n
  | [] => rfl
  | x :: ns => by rw [List.map_cons, cntD_cons, cntD_cons, cntD_both b ms n ns, cntR_shift]
theorem cntR_flip (x n : Int) : ∀ ms : List Int, cntR x ms n + cntC x ms (1 - n) = ms.length
  | [] => rfl
  | y :: ms => by
    have := cntR_flip x n ms
    rw [cntR_cons, cntC_cons, List.length_cons]
    by_cases h : x - y < n
    · rw [if_pos h, if_neg (by omega)]
      omega
    · rw [if_neg h, if_pos (by omega)]
      omega
theorem cntD_flip (ms : List Int) (n : Int) : ∀ ns : List Int, cntD ms ns (1 - n) + cntD ns ms n = ns.length * ms.length
  | [] => by
    have h : cntD ms [] (1 - n) = 0 := by
      induction ms with
      | nil => rfl
      | cons x ns ih => rw [cntD_cons, ih]; rfl
    rw [h, List.length_nil, Nat.zero_mul]
    rfl
  | x :: ns => by
    have h1 := cntD_flip ms n ns
    have h2 := cntR_flip x n ms
    rw [cntD_cons_r, cntD_cons, List.length_cons, Nat.add_mul, Nat.one_mul]
    omega
theorem cntD_mono {ns ms : List Int} {a b : Int} (h : a ≤ b) : cntD ns ms a ≤ cntD ns ms b := by
  induction ns with
  | nil => exact Nat.le_refl _
  | cons x ns ih =>
    rw [cntD_cons, cntD_cons]
    exact Nat.add_le_add (List.countP_mono_left fun y _ hy => decide_eq_true (by have := of_decide_eq_true hy; omega)) ih
theorem cntW_mono {ns : List Int} {a b : Int} (h : a ≤ b) : cntW ns a ≤ cntW ns b := by
  induction ns with
  | nil => exact Nat.le_refl _
  | cons z zs ih =>
    show zs.countP _ + cntW zs a ≤ zs.countP _ + cntW zs b
    exact Nat.add_le_add (List.countP_mono_left fun y _ hy => decide_eq_true (by have := of_decide_eq_true hy; omega)) ih
/-- an earlier one less a later one below n -/
def cntV : List Int → Int → Nat
  | [], _ => 0
  | x :: xs, n => cntR x xs n + cntV xs n
theorem cntC_W (x : Int) (xs : List Int) (n : Int) : cntW (x :: xs) n = cntC x xs n + cntW xs n := rfl
theorem cntD_self (n : Int) : ∀ ns : List Int, cntD ns ns n = cntW ns n + cntV ns n + (if 0 < n then ns.length else 0)
  | [] => by
    show 0 = 0 + 0 + _
    split <;> rfl
  | x :: xs => by
    rw [cntD_cons, cntD_cons_r, cntD_self n xs, cntR_cons, cntC_W, List.length_cons]
    show _ = _ + (cntR x xs n + cntV xs n) + _
    rw [show x - x = 0 from by omega]
    split <;> omega
theorem cntV_W (n : Int) : ∀ ns : List Int, 2 * (cntV ns (1 - n) + cntW ns n) = ns.length * (ns.length - 1)
  | [] => rfl
  | x :: xs => by
    have h1 := cntV_W n xs
    have h2 := cntR_flip x (1 - n) xs
    rw [show 1 - (1 - n) = n from by omega] at h2
    rw [cntC_W, List.length_cons, Nat.add_sub_cancel]
    show 2 * ((cntR x xs (1 - n) + cntV xs (1 - n)) + _) = _
    cases hl : xs.length with
    | zero =>
      rw [hl] at h1 h2
      omega
    | succ m =>
      rw [hl, Nat.add_sub_cancel] at h1
      rw [hl] at h2
      have : (m + 1) * m + 2 * (m + 1) = (m + 1 + 1) * (m + 1) := by
        rw [Nat.mul_comm (m + 1) m, ← Nat.add_mul]
      omega
theorem cntW_low {ns : List Int} (hs : ns.Pairwise (· ≤ ·)) {n : Int} (h : n ≤ 0) : cntW ns n = 0 := by
  have h1 := cntW_mono (ns := ns) h
  rw [cntW_none hs] at h1
  omega
/-- all ordered differences of a row against those within it -/
theorem within_both {ns : List Int} (hs : ns.Pairwise (· ≤ ·)) {n : Int} (h : 0 < n) : cntD ns ns n = cntD ns ns (1 - n) + 2 * cntW ns n + ns.length := by
  have h1 := cntV_W n ns
  have h2 := cntV_W (1 - n) ns
  rw [show 1 - (1 - n) = n from by omega, cntW_low hs (show 1 - n ≤ 0 by omega)] at h2
  rw [cntD_self, cntD_self, if_pos h, if_neg (by omega), cntW_low hs (show 1 - n ≤ 0 by omega)]
  omega
theorem within_joined {ns ms js : List Int} (h1 : ns.Pairwise (· ≤ ·)) (h2 : ms.Pairwise (· ≤ ·)) (h3 : js.Pairwise (· ≤ ·)) (hp : js.Perm (ns ++ ms)) {n : Int} (h : 0 < n) : cntW js n + cntD ns ms (1 - n) = cntW ns n + cntW ms n + cntD ns ms n := by
  have e : ∀ k, cntD js js k = cntD ns ns k + cntD ns ms k + (cntD ms ns k + cntD ms ms k) := fun k => by
    rw [cntD_perm hp, cntD_append, cntD_perm_r hp, cntD_perm_r hp, cntD_append_r, cntD_append_r]
  have a1 := within_both h3 h
  have a2 := within_both h1 h
  have a3 := within_both h2 h
  rw [e, e] at a1
  have l : js.length = ns.length + ms.length := by rw [hp.length_eq, List.length_append]
  have f1 := cntD_flip ms n ns
  have f2 := cntD_flip ms (1 - n) ns
  rw [show 1 - (1 - n) = n from by omega] at f2
  omega
/-- a place tells between which numbers its difference stands -/
theorem ord_between {ns ms : List Int} {L : List T3} (o : Tri.Ord ns ms L) {n : Nat} {w : T3} (h : L[n]? = some w) : cntS ns ms w.1 ≤ n ∧ n < cntS ns ms (w.1 + 1) := by
  obtain ⟨i, j, x, y, hx, hy, rfl, hn⟩ := ord_at o h
  have hi := (List.getElem?_eq_some_iff.mp hx).1
  have hj := (List.getElem?_eq_some_iff.mp hy).1
  refine ⟨by show cntS ns ms (x + y) ≤ n; omega, ?_⟩
  show n < cntS ns ms (x + y + 1)
  rw [cntS_next]
  have e1 : (ns.map fun z => ms.count (x + y - z)).sum = ((ns.take i).map fun z => ms.count (x + y - z)).sum + (ms.count y + ((ns.drop (i + 1)).map fun z => ms.count (x + y - z)).sum) := by
    have e0 : ns = ns.take i ++ x :: ns.drop (i + 1) := by
      have h1 := List.drop_eq_getElem_cons hi
      rw [(List.getElem?_eq_some_iff.mp hx).2] at h1
      rw [← h1, List.take_append_drop]
    have e2 := congrArg (fun l => (l.map fun z => ms.count (x + y - z)).sum) e0
    simp only [List.map_append, List.sum_append, List.map_cons, List.sum_cons] at e2
    rw [show x + y - x = y from by omega] at e2
    exact e2
  have e3 : (ms.take j).count y < ms.count y := by
    have e4 : ms.count y = (ms.take (j + 1)).count y + (ms.drop (j + 1)).count y := by rw [← List.count_append, List.take_append_drop]
    rw [take_snoc hy, List.count_append] at e4
    simp at e4
    omega
  omega
theorem diff_between {ns ms : List Int} {L : List T3} (o : Tri.Ord ns (negs ms) L) {n : Nat} {w : T3} (h : L[n]? = some w) : cntD ns ms w.1 ≤ n ∧ n < cntD ns ms (w.1 + 1) := by
  have := ord_between o h
  rw [negs_cntS, negs_cntS] at this
  exact this
theorem between_one {f : Int → Nat} (mono : ∀ a b, a ≤ b → f a ≤ f b) {n : Nat} {a b : Int} (h1 : f a ≤ n ∧ n < f (a + 1)) (h2 : f b ≤ n ∧ n < f (b + 1)) : a = b := by
  rcases Int.lt_trichotomy a b with c | c | c
  · have := mono (a + 1) b c
    omega
  · exact c
  · have := mono (b + 1) a c
    omega
theorem ord_step {ns ms : List Int} {L : List T3} (o : Tri.Ord ns ms L) {n : Nat} {v w : T3} (h1 : L[n]? = some v) (h2 : L[n + 1]? = some w) : before v w := by
  have nd : L.Nodup := o.perm.nodup_iff.mpr (allP_nodup ms ns 0)
  obtain ⟨k1, e1⟩ := List.getElem?_eq_some_iff.mp h1
  obtain ⟨k2, e2⟩ := List.getElem?_eq_some_iff.mp h2
  have s := (List.pairwise_iff_getElem.mp o.sort) n (n + 1) k1 k2 (Nat.lt_succ_self _)
  have ne := (List.pairwise_iff_getElem.mp nd) n (n + 1) k1 k2 (Nat.lt_succ_self _)
  rw [e1, e2] at s ne
  rcases before_or s with c | c
  · exact c
  · exact absurd c ne
/-- the last pair within a row: the greatest difference -/
theorem last_within {ns : List Int} (hs : ns.Pairwise (· ≤ ·)) {a b : Int} (ha : ns[0]? = some a) (hb : ns[ns.length - 1]? = some b) {N i j : Nat} {x d : Int} (h2 : 1 < ns.length) (hN : 2 * (N + 1) = ns.length * (ns.length - 1)) (hij : i < j) (hx : ns[i]? = some x) (hy : ns[j]? = some (x + d)) (e : N = aheadW ns i j x d) : d = b - a := by
  have hi := (List.getElem?_eq_some_iff.mp hx).1
  have hj := (List.getElem?_eq_some_iff.mp hy).1
  have low : ∀ z ∈ ns, a ≤ z := fun z hz => by obtain ⟨k, hk⟩ := List.mem_iff_getElem?.mp hz; exact sorted_le hs ha hk (Nat.zero_le _)
  have top : ∀ z ∈ ns, z ≤ b := fun z hz => by obtain ⟨k, hk⟩ := List.mem_iff_getElem?.mp hz; exact sorted_le hs hk hb (by have := (List.getElem?_eq_some_iff.mp hk).1; omega)
  have b1 := low x (List.mem_of_getElem? hx)
  have b2 := top (x + d) (List.mem_of_getElem? hy)
  have all := cntW_all (ns := ns) (N := b - a + 1) fun p hp q hq => by have := low p hp; have := top q hq; omega
  have nx := cntW_next (b - a) ns
  -- a like of the greatest stands there
  have one : 1 ≤ likeW ns (b - a) ns.length := by
    cases ns with
    | nil => simp at h2
    | cons z zs =>
      obtain rfl : z = a := Option.some.inj ha
      rw [List.length_cons, likeW_cons, show z + (b - z) = b from by omega]
      have m : b ∈ zs := by
        rw [List.length_cons] at hb h2
        rw [show zs.length + 1 - 1 = (zs.length - 1) + 1 from by omega, List.getElem?_cons_succ] at hb
        exact List.mem_of_getElem? hb
      have := List.count_pos_iff.mpr m
      omega
  by_cases c : d = b - a
  · exact c
  · exfalso
    -- fewer are ahead of it than that
    have inn : aheadW ns i j x d < cntW ns (d + 1) := by
      have e1 : (ns.drop (i + 1))[j - (i + 1)]? = some (x + d) := by
        rw [List.getElem?_drop, show i + 1 + (j - (i + 1)) = j from by omega]
        exact hy
      have e3 : (ns.drop (i + 1)).count (x + d) = ((ns.drop (i + 1)).take (j - (i + 1) + 1)).count (x + d) + ((ns.drop (i + 1)).drop (j - (i + 1) + 1)).count (x + d) := by rw [← List.count_append, List.take_append_drop]
      rw [take_snoc e1, List.count_append] at e3
      simp at e3
      have lm : likeW ns d (i + 1) ≤ likeW ns d ns.length := by
        rw [← spansW_take (ns := ns) (d := d) (i := i + 1) hi, ← spansW_all]
        exact lenOf_le _ _
      rw [likeW_succ d hx] at lm
      rw [cntW_next]
      unfold aheadW
      omega
    have := cntW_mono (ns := ns) (show d + 1 ≤ b - a by omega)
    omega
theorem within_between {ns : List Int} {i j : Nat} {x d : Int} (hij : i < j) (hx : ns[i]? = some x) (hy : ns[j]? = some (x + d)) : cntW ns d ≤ aheadW ns i j x d ∧ aheadW ns i j x d < cntW ns (d + 1) := by
  have hi := (List.getElem?_eq_some_iff.mp hx).1
  refine ⟨by unfold aheadW; omega, ?_⟩
  have e1 : (ns.drop (i + 1))[j - (i + 1)]? = some (x + d) := by
    rw [List.getElem?_drop, show i + 1 + (j - (i + 1)) = j from by omega]
    exact hy
  have e3 : (ns.drop (i + 1)).count (x + d) = ((ns.drop (i + 1)).take (j - (i + 1) + 1)).count (x + d) + ((ns.drop (i + 1)).drop (j - (i + 1) + 1)).count (x + d) := by rw [← List.count_append, List.take_append_drop]
  rw [take_snoc e1, List.count_append] at e3
  simp at e3
  have lm : likeW ns d (i + 1) ≤ likeW ns d ns.length := by
    rw [← spansW_take (ns := ns) (d := d) (i := i + 1) hi, ← spansW_all]
    exact lenOf_le _ _
  rw [likeW_succ d hx] at lm
  rw [cntW_next]
  unfold aheadW
  omega
theorem lex_before {v w : T3} (h : before v w) : HT.lexLt [v.1, v.2.1, v.2.2] [w.1, w.2.1, w.2.2] = true := by
  obtain ⟨a, b, c⟩ := v
  obtain ⟨x, y, z⟩ := w
  unfold before at h
  dsimp only at h
  show HT.lexLt [a, b, c] [x, y, z] = true
  simp only [HT.lexLt_cons, HT.lexLt_nil_nil]
  by_cases h1 : a = x
  · rw [if_pos h1]
    by_cases h2 : b = y
    · rw [if_pos h2, if_neg (by omega)]
      exact decide_eq_true (by omega)
    · rw [if_neg h2]
      exact decide_eq_true (by omega)
  · rw [if_neg h1]
    exact decide_eq_true (by omega)
/-! ### the promises of law 26 -/
def spCR (K : PySem.W.Frag) : L2.Sp := fun vs H Q _ => ∃ (p q : Addr) (ns ms : List Int) (n m : Int), vs = [.ref p, .ref q, .int n, .int m] ∧ SqL K H p (ns.map V.int) ∧ SqL K H q (ms.map V.int) ∧ ns.Pairwise (· ≤ ·) ∧ ms.Pairwise (· ≤ ·) ∧ ns.length ≤ 300 ∧ ms.length ≤ 300 ∧ ∀ H', Same H H' → Q (.bl true) H'
def spWR (K : PySem.W.Frag) : L2.Sp := fun vs H Q _ => ∃ (p : Addr) (ns : List Int) (n : Int), vs = [.ref p, .int n] ∧ SqL K H p (ns.map V.int) ∧ ns.Pairwise (· ≤ ·) ∧ ns.length ≤ 300 ∧ ∀ H', Same H H' → Q (.bl true) H'
def spJR (K : PySem.W.Frag) (T : List (Addr × Str)) : L2.Sp := fun vs H Q _ => ∃ (p q : Addr) (ns ms : List Int) (n : Int), vs = [.ref p, .ref q, .int n] ∧ H p = some (.lst (ns.map V.int)) ∧ H q = some (.lst (ms.map V.int)) ∧ ns.Pairwise (· ≤ ·) ∧ ms.Pairwise (· ≤ ·) ∧ ns.length ≤ 300 ∧ ms.length ≤ 300 ∧ Tabs T H ∧ ∀ H', Nx T H H' → Q (.bl true) H'
def spOR (K : PySem.W.Frag) (T : List (Addr × Str)) : L2.Sp := fun vs H Q _ => ∃ (p q : Addr) (ns ms : List Int) (n : Nat) (z : Int), vs = [.ref p, .ref q, .int (n : Int), .int z] ∧ SqL K H p (ns.map V.int) ∧ SqL K H q (ms.map V.int) ∧ ns.Pairwise (· ≤ ·) ∧ ms.Pairwise (· ≤ ·) ∧ ns.length ≤ 300 ∧ ms.length ≤ 300 ∧ n < ns.length * ms.length ∧ Tabs T H ∧ ∀ H', Nx T H H' → Q (.bl true) H'
end Sp

/-! ranks and papers, with the so-manieth sum. -/
namespace Sp
open PySem L2 LamX Tri
def spPR47 (K : PySem.W.Frag) (T : List (Addr × Str)) : L2.Sp := fun vs H Q _ => ∃ (p q : Addr) (ns ms : List Int) (n : Nat), vs = [.ref p, .ref q, .int (n : Int)] ∧ SqL K H p (ns.map V.int) ∧ SqL K H q (ms.map V.int) ∧ ns.Pairwise (· ≤ ·) ∧ ms.Pairwise (· ≤ ·) ∧ ns.length ≤ 300 ∧ ms.length ≤ 300 ∧ n < ns.length * ms.length ∧ Tabs T H ∧ ∀ H', Nx T H H' → Q (.bl true) H'
def spNR47 (K : PySem.W.Frag) (T : List (Addr × Str)) : L2.Sp := fun vs H Q _ => ∃ (p q : Addr) (ns ms : List Int) (n : Int), vs = [.ref p, .ref q, .int n] ∧ SqL K H p (ns.map V.int) ∧ SqL K H q (ms.map V.int) ∧ ns.Pairwise (· ≤ ·) ∧ ms.Pairwise (· ≤ ·) ∧ ns.length ≤ 300 ∧ ms.length ≤ 300 ∧ Tabs T H ∧ ∀ H', Nx T H H' → Q (.bl true) H'
theorem cntS_top (ns ms : List Int) (n : Int) : cntS ns ms n ≤ ns.length * ms.length := by
  induction ns with
  | nil => rw [List.length_nil, Nat.zero_mul]; exact Nat.le_refl _
  | cons x ns ih =>
    rw [cntS_cons, List.length_cons, Nat.add_mul, Nat.one_mul]
    have := cntB_le ms (n - x)
    omega
/-- ahead of all sums of a number stand lesser ones, behind them greater ones, and these are just it -/
theorem sum_less {ns ms : List Int} {L : List T3} (o : Tri.Ord ns ms L) {n : Int} {k : Nat} {w : T3} (h : L[k]? = some w) (hk : k < cntS ns ms n) : w.1 < n := by
  have b := ord_between o h
  by_cases c : w.1 < n
  · exact c
  · have := cntS_mono (ns := ns) (ms := ms) (show n ≤ w.1 by omega)
    omega
theorem sum_more {ns ms : List Int} {L : List T3} (o : Tri.Ord ns ms L) {n : Int} {k : Nat} {w : T3} (h : L[k]? = some w) (hk : cntS ns ms n ≤ k) : n ≤ w.1 := by
  have b := ord_between o h
  by_cases c : n ≤ w.1
  · exact c
  · have := cntS_mono (ns := ns) (ms := ms) (show w.1 + 1 ≤ n by omega)
    omega
end Sp

/-! walks: what stands ahead of a place, row by row; a part of the order; the class Walk. -/
namespace Wk
open PySem L2
/-- turns of any kind: B is told what is wanted behind a turn -/
theorem turns {J : It} {n : Nat} {G : Hp → Prop} {Y : Nat → Hp → V → Hp → Prop} (w : L2.Walk J n G Y) {B : V → Hp → (Hp → Prop) → Prop} {Qd : Hp → Prop} {H0 : Hp} (Pv : Nat → Hp → Prop) (h0 : Pv 0 H0) (hG : ∀ i H, i ≤ n → Pv i H → G H) (hs : ∀ i x H H', i < n → Pv i H → Y i H x H' → B x H' (Pv (i + 1))) (hd : ∀ H, Pv n H → Qd H) :
    ∃ W : Nat → Nat → Hp → Prop, (∃ m, W 0 m H0) ∧ ∀ i m H, W i m H → (J.stop i H ∧ Qd H) ∨ (J.go i H ∧ ∃ N : Hp → Prop, (∀ H', N H' → ∃ m', m' < m ∧ W (i + 1) m' H') ∧ ∀ x H', J.yld i H x H' → B x H' N) := by
  refine ⟨fun i m H => m = n - i ∧ i ≤ n ∧ Pv i H, ⟨n, by simp, Nat.zero_le _, h0⟩, fun i m H h => ?_⟩
  obtain ⟨rfl, hi, p⟩ := h
  have g := hG i H hi p
  by_cases c : i < n
  · exact .inr ⟨w.goes i H c g, Pv (i + 1), fun H' p' => ⟨n - (i + 1), by omega, rfl, c, p'⟩, fun x H' y => hs i x H H' c p (w.yields i H x H' c g y)⟩
  · obtain rfl : i = n := by omega
    exact .inl ⟨w.stops H g, hd H p⟩
end Wk
namespace Sp
open PySem L2 LamX Tri Xc
theorem ord_nodup {ns ms : List Int} {L : List T3} (o : Tri.Ord ns ms L) : L.Nodup := o.perm.nodup_iff.mpr (allP_nodup ms ns 0)
theorem before_irr (v : T3) : ¬ before v v := by unfold before; omega
/-- places are as pairs are -/
theorem ord_idx {ns ms : List Int} {L : List T3} (o : Tri.Ord ns ms L) {m n : Nat} {v w : T3} (hv : L[m]? = some v) (hw : L[n]? = some w) : m < n ↔ before v w := by
  obtain ⟨l1, e1⟩ := List.getElem?_eq_some_iff.mp hv
  obtain ⟨l2, e2⟩ := List.getElem?_eq_some_iff.mp hw
  constructor
  · intro c
    have h := List.pairwise_iff_getElem.mp o.sort m n l1 l2 c
    rw [e1, e2] at h
    rcases before_or h with k | k
    · exact k
    · have := List.pairwise_iff_getElem.mp (ord_nodup o) m n l1 l2 c
      rw [e1, e2] at this
      exact absurd k this
  · intro h
    rcases Nat.lt_trichotomy m n with c | c | c
    · exact c
    · subst c
      rw [e1] at e2
      rw [e2] at h
      exact absurd h (before_irr _)
    · have h2 := List.pairwise_iff_getElem.mp o.sort n m l2 l1 c
      rw [e1, e2] at h2
      exact absurd h h2
/-- how many pairs of each row stand ahead of a place -/
structure Ahd (ns ms : List Int) (L : List T3) (n : Nat) (bs : List Nat) : Prop where
  len : bs.length = ns.length
  le : ∀ b ∈ bs, b ≤ ms.length
  at_ : ∀ (i j m b : Nat) (x y : Int), ns[i]? = some x → ms[j]? = some y → bs[i]? = some b → L[m]? = some (x + y, (i : Int), (j : Int)) → (m < n ↔ j < b)
theorem ahd_all {ns ms : List Int} {L : List T3} (o : Tri.Ord ns ms L) : Ahd ns ms L L.length (List.replicate ns.length ms.length) := by
  refine ⟨by simp, fun b hb => by rw [List.eq_of_mem_replicate hb]; exact Nat.le_refl _, fun i j m b x y hx hy hb hm => ?_⟩
  have e : b = ms.length := List.eq_of_mem_replicate (List.mem_of_getElem? hb)
  rw [e]
  exact ⟨fun _ => (List.getElem?_eq_some_iff.mp hy).1, fun _ => (List.getElem?_eq_some_iff.mp hm).1⟩
def ahdN (ns ms : List Int) (s : Int) (i0 j0 : Nat) : List Nat := (ns.take i0).map (fun x => cntB ms (s - x + 1)) ++ [j0] ++ (ns.drop (i0 + 1)).map fun x => cntB ms (s - x)
theorem ahd_at {ns ms : List Int} {L : List T3} (o : Tri.Ord ns ms L) (sm : ms.Pairwise (· ≤ ·)) {n i0 j0 : Nat} {x0 y0 : Int} (hx0 : ns[i0]? = some x0) (hy0 : ms[j0]? = some y0) (hw : L[n]? = some (x0 + y0, (i0 : Int), (j0 : Int))) : Ahd ns ms L n (ahdN ns ms (x0 + y0) i0 j0) := by
  have li := (List.getElem?_eq_some_iff.mp hx0).1
  have lj := (List.getElem?_eq_some_iff.mp hy0).1
  have lt : ((ns.take i0).map fun x => cntB ms (x0 + y0 - x + 1)).length = i0 := by rw [List.length_map, List.length_take]; omega
  refine ⟨?_, fun b hb => ?_, fun i j m b x y hx hy hb hm => ?_⟩
  · unfold ahdN
    rw [List.length_append, List.length_append, lt, List.length_map, List.length_drop]
    simp
    omega
  · unfold ahdN at hb
    simp only [List.mem_append, List.mem_map, List.mem_singleton] at hb
    rcases hb with (⟨x, _, rfl⟩ | rfl) | ⟨x, _, rfl⟩
    · exact cntB_le _ _
    · omega
    · exact cntB_le _ _
  · rw [ord_idx o hm hw]
    unfold ahdN at hb
    rw [List.append_assoc] at hb
    rcases Nat.lt_trichotomy i i0 with c | c | c
    · rw [List.getElem?_append_left (by rw [lt]; exact c), List.getElem?_map, List.getElem?_take, if_pos c, hx] at hb
      obtain rfl := Option.some.inj hb
      have h := cntB_lt sm (n := x0 + y0 - x + 1) hy
      rw [← h]
      unfold before
      constructor
      · rintro (k | ⟨k, _⟩)
        · have k : x + y < x0 + y0 := k
          omega
        · have k : x + y = x0 + y0 := k
          omega
      · intro k
        by_cases z : x + y = x0 + y0
        · exact .inr ⟨z, .inl (show (i : Int) < (i0 : Int) by omega)⟩
        · exact .inl (show x + y < x0 + y0 by omega)
    · subst c
      rw [List.getElem?_append_right (by rw [lt]; exact Nat.le_refl _), lt, Nat.sub_self] at hb
      obtain rfl : j0 = b := Option.some.inj hb
      rw [hx] at hx0
      obtain rfl := Option.some.inj hx0
      have inc : ∀ {p q : Nat} {u v : Int}, ms[p]? = some u → ms[q]? = some v → p ≤ q → u ≤ v := fun h1 h2 h3 => sorted_le sm h1 h2 h3
      unfold before
      constructor
      · rintro (k | ⟨k, k2⟩)
        · have k : x + y < x + y0 := k
          by_cases z : j < j0
          · exact z
          · have := inc hy0 hy (by omega)
            omega
        · rcases k2 with k2 | ⟨_, k2⟩
          · have k2 : (i : Int) < (i : Int) := k2
            omega
          · have k2 : (j : Int) < (j0 : Int) := k2
            omega
      · intro k
        have := inc hy hy0 (by omega)
        by_cases z : y = y0
        · exact .inr ⟨show x + y = x + y0 by omega, .inr ⟨rfl, show (j : Int) < (j0 : Int) by omega⟩⟩
        · exact .inl (show x + y < x + y0 by omega)
    · rw [List.getElem?_append_right (by rw [lt]; omega), lt] at hb
      obtain ⟨d, rfl⟩ : ∃ d, i = i0 + 1 + d := ⟨i - (i0 + 1), by omega⟩
      rw [show i0 + 1 + d - i0 = d + 1 from by omega] at hb
      have hb : ((ns.drop (i0 + 1)).map fun x => cntB ms (x0 + y0 - x))[d]? = some b := hb
      rw [List.getElem?_map, List.getElem?_drop, hx] at hb
      obtain rfl := Option.some.inj hb
      have h := cntB_lt sm (n := x0 + y0 - x) hy
      rw [← h]
      unfold before
      constructor
      · rintro (k | ⟨k, k2⟩)
        · have k : x + y < x0 + y0 := k
          omega
        · rcases k2 with k2 | ⟨k2, _⟩
          · have k2 : ((i0 + 1 + d : Nat) : Int) < (i0 : Int) := k2
            omega
          · have k2 : ((i0 + 1 + d : Nat) : Int) = (i0 : Int) := k2
            omega
      · intro k
        exact .inl (show x + y < x0 + y0 by omega)
/-! the pairs between two places -/
def rowW (ms : List Int) (x : Int) (i b k : Nat) : List T3 := (List.range k).map fun q => (x + ms.getD (b + q) 0, (i : Int), ((b + q : Nat) : Int))
def allW (ns ms : List Int) (bs es : List Nat) (n : Nat) : List T3 := (List.range n).flatMap fun i => rowW ms (ns.getD i 0) i (bs.getD i 0) (es.getD i 0 - bs.getD i 0)
theorem rowW_snoc (ms : List Int) (x : Int) (i b k : Nat) : rowW ms x i b (k + 1) = rowW ms x i b k ++ [(x + ms.getD (b + k) 0, (i : Int), ((b + k : Nat) : Int))] := by
  unfold rowW
  rw [List.range_succ, List.map_append]
  rfl
theorem allW_snoc (ns ms : List Int) (bs es : List Nat) (n : Nat) : allW ns ms bs es (n + 1) = allW ns ms bs es n ++ rowW ms (ns.getD n 0) n (bs.getD n 0) (es.getD n 0 - bs.getD n 0) := by
  unfold allW
  rw [List.range_succ, List.flatMap_append]
  simp
theorem mem_allW {ns ms : List Int} {bs es : List Nat} {n : Nat} {v : T3} : v ∈ allW ns ms bs es n ↔ ∃ i < n, ∃ q < es.getD i 0 - bs.getD i 0, v = (ns.getD i 0 + ms.getD (bs.getD i 0 + q) 0, (i : Int), ((bs.getD i 0 + q : Nat) : Int)) := by
  unfold allW rowW
  simp only [List.mem_flatMap, List.mem_range, List.mem_map]
  constructor
  · rintro ⟨i, hi, q, hq, rfl⟩
    exact ⟨i, hi, q, hq, rfl⟩
  · rintro ⟨i, hi, q, hq, rfl⟩
    exact ⟨i, hi, q, hq, rfl⟩
theorem nodup_allW (ns ms : List Int) (bs es : List Nat) : ∀ n, (allW ns ms bs es n).Nodup
  | 0 => List.Pairwise.nil
  | n + 1 => by
    rw [allW_snoc]
    refine List.pairwise_append.mpr ⟨nodup_allW ns ms bs es n, ?_, fun u hu v hv => ?_⟩
    · unfold rowW
      refine List.pairwise_map.mpr (List.pairwise_lt_range.imp fun {a b} h e => ?_)
      have : ((bs.getD n 0 + a : Nat) : Int) = ((bs.getD n 0 + b : Nat) : Int) := congrArg (fun t : T3 => t.2.2) e
      omega
    · obtain ⟨i, hi, q, _, rfl⟩ := mem_allW.mp hu
      unfold rowW at hv
      obtain ⟨k, _, rfl⟩ := List.mem_map.mp hv
      intro e
      have : (i : Int) = (n : Int) := congrArg (fun t : T3 => t.2.1) e
      omega
theorem nodup_perm {l1 l2 : List T3} (h1 : l1.Nodup) (h2 : l2.Nodup) (h : ∀ v, v ∈ l1 ↔ v ∈ l2) : l1.Perm l2 := by
  refine List.perm_iff_count.mpr fun a => ?_
  rw [h1.count, h2.count]
  by_cases c : a ∈ l1
  · rw [if_pos c, if_pos ((h a).mp c)]
  · rw [if_neg c, if_neg fun z => c ((h a).mpr z)]
/-- sorted, these are a part of the order -/
theorem window {ns ms : List Int} {L W : List T3} (o : Tri.Ord ns ms L) {b e : Nat} {bs es : List Nat} (hb : Ahd ns ms L b bs) (he : Ahd ns ms L e es) (p : W.Perm (allW ns ms bs es ns.length)) (s : W.Pairwise fun a b => ¬ before b a) : W = (L.drop b).take (e - b) := by
  have sub : ((L.drop b).take (e - b)).Sublist L := (List.take_sublist _ _).trans (List.drop_sublist _ _)
  have mem : ∀ v, v ∈ (L.drop b).take (e - b) ↔ ∃ m, b ≤ m ∧ m < e ∧ L[m]? = some v := fun v => by
    rw [List.mem_iff_getElem?]
    constructor
    · rintro ⟨k, hk⟩
      rw [List.getElem?_take] at hk
      split at hk
      · rw [List.getElem?_drop] at hk
        exact ⟨b + k, by omega, by omega, hk⟩
      · cases hk
    · rintro ⟨m, h1, h2, h3⟩
      exact ⟨m - b, by rw [List.getElem?_take, if_pos (by omega), List.getElem?_drop, show b + (m - b) = m from by omega]; exact h3⟩
  refine (p.trans (nodup_perm (nodup_allW ns ms bs es _) ((ord_nodup o).sublist sub) fun v => ?_)).eq_of_pairwise (fun x y _ _ h1 h2 => by
    rcases before_or h1 with k | k
    · exact absurd k h2
    · exact k) s (o.sort.sublist sub)
  rw [mem, mem_allW]
  constructor
  · rintro ⟨i, hi, q, hq, rfl⟩
    obtain ⟨x, hx⟩ : ∃ x, ns[i]? = some x := ⟨_, List.getElem?_eq_getElem hi⟩
    obtain ⟨b', hb'⟩ : ∃ x, bs[i]? = some x := ⟨_, List.getElem?_eq_getElem (by rw [hb.len]; exact hi)⟩
    obtain ⟨e', he'⟩ : ∃ x, es[i]? = some x := ⟨_, List.getElem?_eq_getElem (by rw [he.len]; exact hi)⟩
    have g1 : ns.getD i 0 = x := by rw [List.getD_eq_getElem?_getD, hx]; rfl
    have g2 : bs.getD i 0 = b' := by rw [List.getD_eq_getElem?_getD, hb']; rfl
    have g3 : es.getD i 0 = e' := by rw [List.getD_eq_getElem?_getD, he']; rfl
    rw [g2, g3] at hq
    rw [g1, g2]
    have l2 := he.le e' (List.mem_of_getElem? he')
    obtain ⟨y, hy⟩ : ∃ y, ms[b' + q]? = some y := ⟨_, List.getElem?_eq_getElem (by omega)⟩
    have g4 : ms.getD (b' + q) 0 = y := by rw [List.getD_eq_getElem?_getD, hy]; rfl
    rw [g4]
    have inL : (x + y, (i : Int), ((b' + q : Nat) : Int)) ∈ L := o.perm.mem_iff.mpr (allP_mem.mpr ⟨i, b' + q, x, y, hx, hy, by rw [Nat.zero_add]⟩)
    obtain ⟨m, hm⟩ := List.mem_iff_getElem?.mp inL
    refine ⟨m, ?_, (he.at_ i (b' + q) m e' x y hx hy he' hm).mpr (by omega), hm⟩
    have := hb.at_ i (b' + q) m b' x y hx hy hb' hm
    omega
  · rintro ⟨m, h1, h2, hm⟩
    obtain ⟨i, j, x, y, hx, hy, rfl⟩ := allP_mem.mp (o.perm.mem_iff.mp (List.mem_of_getElem? hm))
    rw [Nat.zero_add] at hm ⊢
    have hi := (List.getElem?_eq_some_iff.mp hx).1
    obtain ⟨b', hb'⟩ : ∃ x, bs[i]? = some x := ⟨_, List.getElem?_eq_getElem (by rw [hb.len]; exact hi)⟩
    obtain ⟨e', he'⟩ : ∃ x, es[i]? = some x := ⟨_, List.getElem?_eq_getElem (by rw [he.len]; exact hi)⟩
    have g1 : ns.getD i 0 = x := by rw [List.getD_eq_getElem?_getD, hx]; rfl
    have g2 : bs.getD i 0 = b' := by rw [List.getD_eq_getElem?_getD, hb']; rfl
    have g3 : es.getD i 0 = e' := by rw [List.getD_eq_getElem?_getD, he']; rfl
    have k1 := hb.at_ i j m b' x y hx hy hb' hm
    have k2 := he.at_ i j m e' x y hx hy he' hm
    refine ⟨i, hi, j - b', by rw [g2, g3]; omega, ?_⟩
    rw [g1, g2, show b' + (j - b') = j from by omega]
    have g4 : ms.getD j 0 = y := by rw [List.getD_eq_getElem?_getD, hy]; rfl
    rw [g4]
end Sp
namespace Ob
open PySem PySem.Spec PyProof.Rows L2
theorem pe_fldK {X : Cx} {K : PySem.W.Frag} {e : Expr} {f : Str} {pos : Pos} {ta : TE} (hK : X.K = K) (he : PE X e ta) (hb : attributeBase e f X.env (eval e X.env) = eval e X.env) : PE X (.Attribute e f pos) (tFld K ta f) := hK ▸ pe_fld he hb
end Ob
namespace Sp
open PySem L2 LamX Tri Xc
theorem lk_no {k k' : Str} {v : V} {l : List (Str × V)} (h : (k == k') = false) : List.lookup k ((k', v) :: l) = List.lookup k l := by rw [List.lookup_cons, h]
theorem lk_yes {k : Str} {v : V} {l : List (Str × V)} : List.lookup k ((k, v) :: l) = some v := by rw [List.lookup_cons, beq_self_eq_true]
theorem pf_no {k k' : Str} {v v' : V} {l : List (Str × V)} (h : ¬ k' = k) : putF k v ((k', v') :: l) = (k', v') :: putF k v l := by
  show (if k' = k then _ else _) = _
  rw [if_neg h]
theorem pf_yes {k : Str} {v v' : V} {l : List (Str × V)} : putF k v ((k, v') :: l) = (k, v) :: l := by
  show (if k = k then _ else _) = _
  rw [if_pos rfl]
def wf (m : Int) (l1 l2 : Addr) (pl b : Int) (lp : Addr) : List (Str × V) := [("_many", .int m), ("_one", .ref l1), ("_other", .ref l2), ("_place", .int pl), ("_begin", .int b), ("_pairs", .ref lp)]
section
variable {m pl b x : Int} {l1 l2 lp q : Addr}
theorem wf_many : (wf m l1 l2 pl b lp).lookup ("_many" : Str) = some (.int m) := lk_yes
theorem wf_one : (wf m l1 l2 pl b lp).lookup ("_one" : Str) = some (.ref l1) := (lk_no (by decide +kernel)).trans lk_yes
theorem wf_other : (wf m l1 l2 pl b lp).lookup ("_other" : Str) = some (.ref l2) := ((lk_no (by decide +kernel)).trans (lk_no (by decide +kernel))).trans lk_yes
theorem wf_place : (wf m l1 l2 pl b lp).lookup ("_place" : Str) = some (.int pl) := (((lk_no (by decide +kernel)).trans (lk_no (by decide +kernel))).trans (lk_no (by decide +kernel))).trans lk_yes
theorem wf_begin : (wf m l1 l2 pl b lp).lookup ("_begin" : Str) = some (.int b) := ((((lk_no (by decide +kernel)).trans (lk_no (by decide +kernel))).trans (lk_no (by decide +kernel))).trans (lk_no (by decide +kernel))).trans lk_yes
theorem wf_pairs : (wf m l1 l2 pl b lp).lookup ("_pairs" : Str) = some (.ref lp) := (((((lk_no (by decide +kernel)).trans (lk_no (by decide +kernel))).trans (lk_no (by decide +kernel))).trans (lk_no (by decide +kernel))).trans (lk_no (by decide +kernel))).trans lk_yes
theorem wf_no {k : Str} (h1 : (k == ("_many" : Str)) = false) (h2 : (k == ("_one" : Str)) = false) (h3 : (k == ("_other" : Str)) = false) (h4 : (k == ("_place" : Str)) = false) (h5 : (k == ("_begin" : Str)) = false) (h6 : (k == ("_pairs" : Str)) = false) : (wf m l1 l2 pl b lp).lookup k = none :=
  (((((((lk_no h1).trans (lk_no h2)).trans (lk_no h3)).trans (lk_no h4)).trans (lk_no h5)).trans (lk_no h6)).trans rfl)
theorem wf_setplace : putF "_place" (.int x) (wf m l1 l2 pl b lp) = wf m l1 l2 x b lp := by
  unfold wf
  rw [pf_no (by decide +kernel), pf_no (by decide +kernel), pf_no (by decide +kernel), pf_yes]
theorem wf_setbegin : putF "_begin" (.int x) (wf m l1 l2 pl b lp) = wf m l1 l2 pl x lp := by
  unfold wf
  rw [pf_no (by decide +kernel), pf_no (by decide +kernel), pf_no (by decide +kernel), pf_no (by decide +kernel), pf_yes]
theorem wf_setpairs : putF "_pairs" (.ref q) (wf m l1 l2 pl b lp) = wf m l1 l2 pl b q := by
  unfold wf
  rw [pf_no (by decide +kernel), pf_no (by decide +kernel), pf_no (by decide +kernel), pf_no (by decide +kernel), pf_no (by decide +kernel), pf_yes]
end
structure WkT (K : PySem.W.Frag) (C : Addr) : Prop where
  cl : Cls K C
  n1 : NoAttr K C "_many"
  n2 : NoAttr K C "_one"
  n3 : NoAttr K C "_other"
  n4 : NoAttr K C "_place"
  n5 : NoAttr K C "_begin"
  n6 : NoAttr K C "_pairs"
/-- a walk at g: n pairs are behind it; some part of the order is sorted already -/
structure WkRaw (Av : List Addr) (C : Addr) (H : Hp) (g : Addr) (ns ms : List Int) (L : List T3) (n : Nat) (dx l1 l2 lp : Addr) (b : Nat) (us : List Addr) : Prop where
  hg : H g = some (.ins C dx (wf ((L.length : Nat) : Int) l1 l2 (n : Int) (b : Int) lp))
  h1 : H l1 = some (.lst (ns.map V.int))
  h2 : H l2 = some (.lst (ms.map V.int))
  hp : H lp = some (.lst (us.map V.ref))
  tr : Trip H us ((L.drop b).take us.length)
  le : n ≤ L.length
  a1 : l1 ∉ Av
  a2 : l2 ∉ Av
  ap : lp ∉ Av
def WkAt (Av : List Addr) (C : Addr) (H : Hp) (g : Addr) (ns ms : List Int) (L : List T3) (n : Nat) : Prop := ∃ (dx l1 l2 lp : Addr) (b : Nat) (us : List Addr), WkRaw Av C H g ns ms L n dx l1 l2 lp b us
section
variable {T : List (Addr × Str)} {S Av : List Addr} {C g a : Addr} {H H' : Hp} {ns ms : List Int} {L : List T3} {n b : Nat} {dx l1 l2 lp : Addr} {us : List Addr}
theorem WkRaw.same (s : Same H H') (w : WkRaw Av C H g ns ms L n dx l1 l2 lp b us) : WkRaw Av C H' g ns ms L n dx l1 l2 lp b us := ⟨s _ _ w.hg, s _ _ w.h1, s _ _ w.h2, s _ _ w.hp, w.tr.up s, w.le, w.a1, w.a2, w.ap⟩
theorem WkRaw.nx (s : Nx T H H') (w : WkRaw Av C H g ns ms L n dx l1 l2 lp b us) : WkRaw Av C H' g ns ms L n dx l1 l2 lp b us := ⟨s.g w.hg, s.g w.h1, s.g w.h2, s.g w.hp, s.trip w.tr, w.le, w.a1, w.a2, w.ap⟩
/-- what stands avoided, or is an instance, or holds no list of it, may change -/
theorem WkRaw.mv (m : Mv T S H H') (hS : ∀ c ∈ S, c ∈ Av ∨ ∃ D dx fs, H c = some (.ins D dx fs)) (nt : ∀ c ∈ S, ∀ xs, H c ≠ some (.tup xs)) (ng : g ∉ S) (w : WkRaw Av C H g ns ms L n dx l1 l2 lp b us) : WkRaw Av C H' g ns ms L n dx l1 l2 lp b us := by
  have k : ∀ {p : Addr} {xs : List V}, H p = some (.lst xs) → p ∉ Av → p ∉ S := fun {p xs} e na z => by
    rcases hS p z with c | ⟨D, d, fs, c⟩
    · exact na c
    · rw [c] at e; cases e
  exact ⟨m.g w.hg ng, m.g w.h1 (k w.h1 w.a1), m.g w.h2 (k w.h2 w.a2), m.g w.hp (k w.hp w.ap), ⟨w.tr.len, fun j t x e1 e2 => m.g (w.tr.at_ j t x e1 e2) fun z => nt t z _ (w.tr.at_ j t x e1 e2)⟩, w.le, w.a1, w.a2, w.ap⟩
theorem WkAt.same (s : Same H H') (w : WkAt Av C H g ns ms L n) : WkAt Av C H' g ns ms L n := let ⟨dx, l1, l2, lp, b, us, r⟩ := w; ⟨dx, l1, l2, lp, b, us, r.same s⟩
theorem WkAt.mv (m : Mv T S H H') (hS : ∀ c ∈ S, c ∈ Av ∨ ∃ D dx fs, H c = some (.ins D dx fs)) (nt : ∀ c ∈ S, ∀ xs, H c ≠ some (.tup xs)) (ng : g ∉ S) (w : WkAt Av C H g ns ms L n) : WkAt Av C H' g ns ms L n := let ⟨dx, l1, l2, lp, b, us, r⟩ := w; ⟨dx, l1, l2, lp, b, us, r.mv m hS nt ng⟩
/-- the hand draws -/
theorem WkAt.ext (x : Ext a H H') (h : HandAt H a) (ia : a ∈ Av) (w : WkAt Av C H g ns ms L n) : WkAt Av C H' g ns ms L n := by
  obtain ⟨u, v, e, _⟩ := h
  refine w.mv (T := []) (S := [a]) ⟨fun b o q _ n => x.keep b o q fun z => n (by rw [z]; simp), fun _ => tabs_none⟩ (fun c hc => by rw [List.mem_singleton.mp hc]; exact .inl ia) (fun c hc xs z => by rw [List.mem_singleton.mp hc, e] at z; cases z) fun z => ?_
  obtain ⟨dx, l1, l2, lp, b, us, r⟩ := w
  have := r.hg
  rw [List.mem_singleton.mp z, e] at this
  cases this
end
def spAhd (K : PySem.W.Frag) (T : List (Addr × Str)) : L2.Sp := fun vs H Q _ => ∃ (p q : Addr) (ns ms : List Int) (L : List T3) (n : Nat), vs = [.ref p, .ref q, .int (n : Int)] ∧ SqL K H p (ns.map V.int) ∧ SqL K H q (ms.map V.int) ∧ ns.Pairwise (· ≤ ·) ∧ ms.Pairwise (· ≤ ·) ∧ ns.length ≤ 1000 ∧ ms.length ≤ 1000 ∧ Tabs T H ∧ Tri.Ord ns ms L ∧ n ≤ L.length ∧
  ∀ (r : Addr) (bs : List Nat) (H' : Hp), Nx T H H' → H' r = some (.lst ((bs.map fun (k : Nat) => (k : Int)).map V.int)) → Ahd ns ms L n bs → Q (.ref r) H'
end Sp
namespace Sp
open PySem L2 LamX Tri Xc
theorem rep_ints (m : Nat) : ∀ n : Nat, (List.replicate n [V.int (m : Int)]).flatten = ((List.replicate n m).map fun (k : Nat) => (k : Int)).map V.int
  | 0 => rfl
  | n + 1 => by
    rw [List.replicate_succ, List.replicate_succ, List.flatten_cons, rep_ints m n]
    rfl
/-- what must not be taken for a walk's own stands there -/
def Avd (Av : List Addr) (H : Hp) : Prop := ∀ c ∈ Av, ∃ o, H c = some o ∧ NT o
theorem Avd.new {Av : List Addr} {H : Hp} {p : Addr} (a : Avd Av H) (n : H p = none) : p ∉ Av := fun z => by
  obtain ⟨o, e, _⟩ := a p z
  rw [n] at e
  cases e
theorem Avd.same {Av : List Addr} {H H' : Hp} (a : Avd Av H) (s : Same H H') : Avd Av H' := fun c h => let ⟨o, e, t⟩ := a c h; ⟨o, s _ _ e, t⟩
theorem Avd.nx {T : List (Addr × Str)} {Av : List Addr} {H H' : Hp} (a : Avd Av H) (s : Nx T H H') : Avd Av H' := fun c h => let ⟨o, e, t⟩ := a c h; ⟨o, s.g e t, t⟩
theorem Avd.put {Av : List Addr} {H : Hp} {p : Addr} {o : HO} (a : Avd Av H) (t : NT o) : Avd Av (upd H p o) := fun c h => by
  by_cases z : c = p
  · exact ⟨o, by rw [z, upd_same], t⟩
  · obtain ⟨u, e, t'⟩ := a c h
    exact ⟨u, by rw [upd_ne z]; exact e, t'⟩
def spWInit (K : PySem.W.Frag) (C : Addr) : L2.Sp := fun vs H Q _ => ∃ (g dx p q : Addr) (ns ms : List Int) (n : Nat), vs = [.ref g, .ref p, .ref q, .int (n : Int)] ∧ H g = some (.ins C dx []) ∧ SqL K H p (ns.map V.int) ∧ SqL K H q (ms.map V.int) ∧ ns.length ≤ 1000 ∧ ms.length ≤ 1000 ∧ n ≤ ns.length * ms.length ∧
  ∀ (l1 l2 lp : Addr) (H' : Hp), H l1 = none → H l2 = none → H lp = none → (∀ b o, H b = some o → b ≠ g → H' b = some o) → H' g = some (.ins C dx (wf ((ns.length * ms.length : Nat) : Int) l1 l2 (n : Int) 0 lp)) → H' l1 = some (.lst (ns.map V.int)) → H' l2 = some (.lst (ms.map V.int)) → H' lp = some (.lst []) → Q .non H'
def spWLeft (C : Addr) : L2.Sp := fun vs H Q _ => ∃ (Av : List Addr) (g : Addr) (ns ms : List Int) (L : List T3) (n : Nat), vs = [.ref g] ∧ WkAt Av C H g ns ms L n ∧ Q (.int (((L.length : Nat) : Int) - (n : Int))) H
def spWSort (C : Addr) (T : List (Addr × Str)) : L2.Sp := fun vs H Q _ => ∃ (Av : List Addr) (g : Addr) (ns ms : List Int) (L : List T3) (n p : Nat), vs = [.ref g, .int (p : Int)] ∧ WkAt Av C H g ns ms L n ∧ Tri.Ord ns ms L ∧ ns.Pairwise (· ≤ ·) ∧ ms.Pairwise (· ≤ ·) ∧ ns.length ≤ 300 ∧ ms.length ≤ 300 ∧ p < L.length ∧ Tabs T H ∧ Avd Av H ∧
  ∀ (dx l1 l2 lp : Addr) (b : Nat) (us : List Addr) (H' : Hp), Mv T [g] H H' → WkRaw Av C H' g ns ms L n dx l1 l2 lp b us → b ≤ p → p < b + us.length → Q .non H'
def spWPair (C : Addr) (T : List (Addr × Str)) : L2.Sp := fun vs H Q _ => ∃ (Av : List Addr) (g : Addr) (ns ms : List Int) (L : List T3) (n p : Nat) (w : T3), vs = [.ref g, .int (p : Int)] ∧ WkAt Av C H g ns ms L n ∧ Tri.Ord ns ms L ∧ ns.Pairwise (· ≤ ·) ∧ ms.Pairwise (· ≤ ·) ∧ ns.length ≤ 300 ∧ ms.length ≤ 300 ∧ L[p]? = some w ∧ Tabs T H ∧ Avd Av H ∧
  ∀ (t : Addr) (H' : Hp), Mv T [g] H H' → WkAt Av C H' g ns ms L n → H' t = some (.tup (tri w)) → Q (.ref t) H'
def spWOn (C : Addr) (T : List (Addr × Str)) : L2.Sp := fun vs H Q _ => ∃ (Av : List Addr) (g : Addr) (ns ms : List Int) (L : List T3) (n : Nat), vs = [.ref g] ∧ WkAt Av C H g ns ms L n ∧ Tri.Ord ns ms L ∧ ns.Pairwise (· ≤ ·) ∧ ms.Pairwise (· ≤ ·) ∧ ns.length ≤ 300 ∧ ms.length ≤ 300 ∧ Tabs T H ∧ Avd Av H ∧
  (n = L.length → Q .non H) ∧ ∀ (w : T3) (t : Addr) (H' : Hp), L[n]? = some w → Mv T [g] H H' → WkAt Av C H' g ns ms L (n + 1) → H' t = some (.tup (tri w)) → Q (.ref t) H'
def spWBack (C : Addr) (T : List (Addr × Str)) : L2.Sp := fun vs H Q _ => ∃ (Av : List Addr) (g : Addr) (ns ms : List Int) (L : List T3) (n : Nat), vs = [.ref g] ∧ WkAt Av C H g ns ms L n ∧ Tri.Ord ns ms L ∧ ns.Pairwise (· ≤ ·) ∧ ms.Pairwise (· ≤ ·) ∧ ns.length ≤ 300 ∧ ms.length ≤ 300 ∧ Tabs T H ∧ Avd Av H ∧
  (n = 0 → Q .non H) ∧ ∀ (m : Nat) (w : T3) (t : Addr) (H' : Hp), n = m + 1 → L[m]? = some w → Mv T [g] H H' → WkAt Av C H' g ns ms L m → H' t = some (.tup (tri w)) → Q (.ref t) H'
/-- a new walk -/
theorem walk_made {K : PySem.W.Frag} {C p q g dx : Addr} {H : Hp} {ns ms : List Int} {L : List T3} {n : Nat} {Q : VK} {E : XK} (hp : SqL K H p (ns.map V.int)) (hq : SqL K H q (ms.map V.int)) (o : Tri.Ord ns ms L) (b1 : ns.length ≤ 1000) (b2 : ms.length ≤ 1000) (hn : n ≤ L.length) (ng : H g = none) (nd : H dx = none) (ne : dx ≠ g) (Av : List Addr) (av : Avd Av H)
    (k : ∀ H', Same H H' → WkAt Av C H' g ns ms L n → Q .non H') : spWInit K C [.ref g, .ref p, .ref q, .int (n : Int)] (upd (upd H dx (.own g)) g (.ins C dx [])) Q E := by
  have s : Same H (upd (upd H dx (.own g)) g (.ins C dx [])) := fun b o e => by
    rw [upd_ne (ne_of_none e ng), upd_ne (ne_of_none e nd)]
    exact e
  refine ⟨g, dx, p, q, ns, ms, n, rfl, upd_same, s.seq hp, s.seq hq, b1, b2, by rw [← o.len]; exact hn, fun l1 l2 lp H' n1 n2 np keep eg e1 e2 ep => ?_⟩
  have s' : Same H H' := fun b u e => keep b u (s b u e) (ne_of_none e ng)
  refine k H' s' ⟨dx, l1, l2, lp, 0, [], ?_, e1, e2, ep, ?_, hn, av.new (s.free n1), av.new (s.free n2), av.new (s.free np)⟩
  · rw [eg, o.len]
    rfl
  · exact Trip.nil
end Sp
namespace Sp
open PySem L2 LamX Tri Xc
structure Kg (g : Addr) (H H' : Hp) : Prop where
  keep : ∀ b o, H b = some o → b ≠ g → H' b = some o
  free : ∀ b, H' b = none → H b = none
theorem Kg.refl {g : Addr} {H : Hp} : Kg g H H := ⟨fun _ _ h _ => h, fun _ h => h⟩
theorem Kg.put {g : Addr} {H H' : Hp} {o : HO} (k : Kg g H H') : Kg g H (upd H' g o) := ⟨fun b u e n => by rw [upd_ne n]; exact k.keep b u e n, fun b e => by
  by_cases z : b = g
  · rw [z, upd_same] at e; cases e
  · rw [upd_ne z] at e; exact k.free b e⟩
theorem Kg.new {g l : Addr} {H H' : Hp} {o : HO} (k : Kg g H H') (n : H' l = none) : Kg g H (upd H' l o) := ⟨fun b u e m => by
    rw [upd_ne (ne_of_none (k.keep b u e m) n)]
    exact k.keep b u e m, fun b e => by
  by_cases z : b = l
  · rw [z, upd_same] at e; cases e
  · rw [upd_ne z] at e; exact k.free b e⟩
theorem Kg.seq {K : PySem.W.Frag} {g p C dx : Addr} {fs : List (Str × V)} {H H' : Hp} {xs : List V} (k : Kg g H H') (eg : H g = some (.ins C dx fs)) (hp : SqL K H p xs) : SqL K H' p xs := by
  rcases hp with (h | ⟨o, h⟩) | h
  · exact .inl (.inl (k.keep _ _ h fun z => by rw [z, eg] at h; cases h))
  · exact .inl (.inr ⟨o, k.keep _ _ h fun z => by rw [z, eg] at h; cases h⟩)
  · exact .inr h
end Sp
namespace Sp
open PySem L2 LamX Tri Xc
theorem rowW_len (ms : List Int) (x : Int) (i b k : Nat) : (rowW ms x i b k).length = k := by
  unfold rowW
  rw [List.length_map, List.length_range]
theorem allW_len {ns ms : List Int} {bs es : List Nat} (h : ∀ e ∈ es, e ≤ ms.length) : ∀ n, (allW ns ms bs es n).length ≤ n * ms.length
  | 0 => Nat.zero_le _
  | n + 1 => by
    rw [allW_snoc, List.length_append, rowW_len, Nat.succ_mul]
    have h1 := allW_len (ns := ns) (bs := bs) h n
    have h2 : es.getD n 0 ≤ ms.length := by
      rw [List.getD_eq_getElem?_getD]
      cases e : es[n]? with
      | none => exact Nat.zero_le _
      | some v => exact h v (List.mem_of_getElem? e)
    omega
end Sp
namespace Sp
open PySem L2 LamX Tri Xc
theorem WkRaw.step {Av : List Addr} {C g : Addr} {H : Hp} {ns ms : List Int} {L : List T3} {n b m : Nat} {dx l1 l2 lp : Addr} {us : List Addr} (w : WkRaw Av C H g ns ms L n dx l1 l2 lp b us) (hm : m ≤ L.length) : WkRaw Av C (upd H g (.ins C dx (wf ((L.length : Nat) : Int) l1 l2 (m : Int) (b : Int) lp))) g ns ms L m dx l1 l2 lp b us := by
  have k : ∀ {p : Addr} {xs : List V}, H p = some (.lst xs) → p ≠ g := fun e z => by rw [z, w.hg] at e; cases e
  refine ⟨upd_same, by rw [upd_ne (k w.h1)]; exact w.h1, by rw [upd_ne (k w.h2)]; exact w.h2, by rw [upd_ne (k w.hp)]; exact w.hp, ⟨w.tr.len, fun j t x e1 e2 => ?_⟩, hm, w.a1, w.a2, w.ap⟩
  have e := w.tr.at_ j t x e1 e2
  rw [upd_ne (fun z => by rw [z, w.hg] at e; cases e)]
  exact e
end Sp
namespace Sp
open PySem L2 LamX Tri Xc
theorem Avd.mv {T : List (Addr × Str)} {S Av : List Addr} {H H' : Hp} (a : Avd Av H) (m : Mv T S H H') (n : ∀ c ∈ Av, c ∉ S) : Avd Av H' := fun c h => let ⟨o, e, t⟩ := a c h; ⟨o, m.g e (n c h) t, t⟩
theorem Avd.ext {a : Addr} {Av : List Addr} {H H' : Hp} (v : Avd Av H) (x : Ext a H H') (h : HandAt H a) : Avd Av H' := fun c k => by
  by_cases z : c = a
  · obtain ⟨u, w, e, _⟩ := x.hand h
    exact ⟨.lst [.int u, .int w], by rw [z]; exact e, trivial⟩
  · obtain ⟨o, e, t⟩ := v c k
    exact ⟨o, x.keep _ _ e z, t⟩
def spStep14 (C : Addr) (T : List (Addr × Str)) : L2.Sp := fun vs H Q _ => ∃ (Av : List Addr) (g d : Addr) (ns ms : List Int) (L : List T3) (us : List Addr) (n : Nat) (back : Bool), vs = [.ref g, .ref d, .int (n : Int), .bl back] ∧ WkAt Av C H g ns ms L n ∧ Tri.Ord ns ms L ∧ Fine ns ∧ Fine ms ∧ ns.length ≤ 300 ∧ ms.length ≤ 300 ∧ H d = some (.lst (us.map V.ref)) ∧ Trip H us L ∧ Tabs T H ∧ Avd Av H ∧
  ∀ (m : Nat) (H' : Hp), Mv T [g] H H' → WkAt Av C H' g ns ms L m → Q (.int (m : Int)) H'
end Sp

namespace Sp
open PySem L2 LamX Tri Xc
def spRight13 (T : List (Addr × Str)) : L2.Sp := fun vs H Q _ => ∃ (p q r : Addr) (ns ms : List Int) (L : List T3) (us : List Addr) (n k : Nat), vs = [.ref p, .ref q, .ref r, .int (n : Int), .int (k : Int)] ∧ H p = some (.lst (ns.map V.int)) ∧ H q = some (.lst (ms.map V.int)) ∧ Fine ns ∧ Fine ms ∧ ns.length ≤ 300 ∧ ms.length ≤ 300 ∧ Tri.Ord ns ms L ∧ H r = some (.lst (us.map V.ref)) ∧ Trip H us L ∧ n ≤ L.length ∧ k ≤ 1000 ∧ Tabs T H ∧ ∀ H', Nx T H H' → Q (.bl true) H'
end Sp

/-! a live pair of rows, and what changes beside it. -/
namespace Sp
open PySem L2 LamX Tri Xc
/-- all stays but the lists at S, and the tables grow -/
structure Lv (T : List (Addr × Str)) (S : List Addr) (H H' : Hp) : Prop where
  of : ∀ b o, H b = some o → NT o → ((∃ xs, o = .lst xs) → b ∉ S) → H' b = some o
  tabs : Tabs T H → Tabs T H'
section
variable {T : List (Addr × Str)} {S S' : List Addr} {K : PySem.W.Frag} {H H' H1 H2 : Hp} {a p b : Addr} {ns : List Int} {xs : List V} {o o' : HO}
theorem Lv.nx (n : Nx T H H') : Lv T S H H' := ⟨fun b o h t _ => n.of b o h t, n.tabs⟩
theorem Lv.same (s : Same H H') : Lv T S H H' := .nx (.same s)
theorem Lv.refl : Lv T S H H := .nx .refl
theorem Lv.trans (e : Lv T S H H1) (f : Lv T S H1 H2) : Lv T S H H2 := ⟨fun b o h t n => f.of b o (e.of b o h t n) t n, fun h => f.tabs (e.tabs h)⟩
theorem Lv.mono (e : Lv T S H H') (m : ∀ b ∈ S, b ∈ S') : Lv T S' H H' := ⟨fun b o h t n => e.of b o h t fun z w => n z (m b w), e.tabs⟩
theorem Lv.ext (e : ExtD a H H') (h : DrawAt H a) (m : a ∈ S) : Lv T S H H' := ⟨fun b o q t n => e.keep b o q fun z => by
    obtain ⟨ds, ed, _⟩ := h
    subst z
    rw [ed] at q
    cases q
    exact n ⟨_, rfl⟩ m, tabs_draws h e⟩
theorem Lv.put (h : H p = some (.lst xs)) (m : p ∈ S) : Lv T S H (upd H p o') := ⟨fun b u e _ n => by
    by_cases z : b = p
    · subst z
      rw [h] at e
      cases e
      exact absurd m (n ⟨_, rfl⟩)
    · rw [upd_ne z]
      exact e, tabs_put h trivial⟩
theorem Lv.lst (e : Lv T S H H') (h : H p = some (.lst xs)) (n : p ∉ S) : H' p = some (.lst xs) := e.of _ _ h trivial fun _ => n
theorem Lv.tup (e : Lv T S H H') (h : H p = some (.tup xs)) : H' p = some (.tup xs) := e.of _ _ h trivial fun ⟨_, z⟩ => nomatch z
theorem Lv.ins {C dx : Addr} {fs : List (Str × V)} (e : Lv T S H H') (h : H p = some (.ins C dx fs)) : H' p = some (.ins C dx fs) := e.of _ _ h trivial fun ⟨_, z⟩ => nomatch z
theorem Lv.made (e : Lv T S H H') (n : ∀ b ∈ S, H b = none) : Nx T H H' := ⟨fun b o h t => e.of b o h t fun _ z => (by rw [n b z] at h; cases h), e.tabs⟩
/-- what is new now was new ahead -/
theorem Lv.seq (e : Lv T S H H') (n : p ∉ S) (h : H p = some (.lst xs)) : SqL K H' p xs := SqL.new (e.lst h n)
theorem Lv.draws (e : Lv T S H H') (n : a ∉ S) (h : DrawAt H a) : DrawAt H' a := by
  obtain ⟨ds, e1, r⟩ := h
  exact ⟨ds, e.lst e1 n, r⟩
end
/-! rows put into, taken out of -/
abbrev R2 := List Int × List Int
def sideR (s : R2) (b : Bool) : List Int := if b = true then s.2 else s.1
def setR (s : R2) (b : Bool) (l : List Int) : R2 := if b = true then (s.1, l) else (l, s.2)
def insR (l : List Int) (n : Int) : List Int := l.take (cntB l n) ++ n :: l.drop (cntB l n)
def delR (l : List Int) (n : Int) : List Int := l.eraseIdx (cntB l n)
def Small (n : Int) : Prop := -1000000000000000 ≤ n ∧ n ≤ 1000000000000000
structure Gd2 (s : R2) : Prop where
  f1 : Fine s.1
  f2 : Fine s.2
  l1 : s.1.length ≤ 300
  l2 : s.2.length ≤ 300
theorem Gd2.fine {s : R2} (g : Gd2 s) (b : Bool) : Fine (sideR s b) := by cases b; exact g.f1; exact g.f2
theorem Gd2.len {s : R2} (g : Gd2 s) (b : Bool) : (sideR s b).length ≤ 300 := by cases b; exact g.l1; exact g.l2
theorem Gd2.set {s : R2} (g : Gd2 s) (b : Bool) {l : List Int} (f : Fine l) (h : l.length ≤ 300) : Gd2 (setR s b l) := by
  cases b
  · exact ⟨f, g.f2, h, g.l2⟩
  · exact ⟨g.f1, f, g.l1, h⟩
theorem side_set (s : R2) (b : Bool) (l : List Int) : sideR (setR s b l) b = l := by cases b <;> rfl
theorem set_set (s : R2) (b : Bool) (l m : List Int) : setR (setR s b l) b m = setR s b m := by cases b <;> rfl
theorem set_side (s : R2) (b : Bool) : setR s b (sideR s b) = s := by cases b <;> rfl
theorem ins_perm (l : List Int) (n : Int) : (insR l n).Perm (n :: l) := by
  unfold insR
  have := List.perm_middle (a := n) (l₁ := l.take (cntB l n)) (l₂ := l.drop (cntB l n))
  rw [List.take_append_drop] at this
  exact this
theorem ins_len (l : List Int) (n : Int) : (insR l n).length = l.length + 1 := (ins_perm l n).length_eq
theorem cut_below {l : List Int} (hs : l.Pairwise (· ≤ ·)) (n : Int) : (∀ x ∈ l.take (cntB l n), x < n) ∧ ∀ x ∈ l.drop (cntB l n), n ≤ x := by
  constructor
  · intro x hx
    obtain ⟨i, hi⟩ := List.mem_iff_getElem?.mp hx
    rw [List.getElem?_take] at hi
    split at hi
    · exact (cntB_lt (n := n) hs hi).mpr (by assumption)
    · cases hi
  · intro x hx
    obtain ⟨i, hi⟩ := List.mem_iff_getElem?.mp hx
    rw [List.getElem?_drop] at hi
    have := cntB_lt (n := n) hs hi
    omega
theorem ins_sorted {l : List Int} (hs : l.Pairwise (· ≤ ·)) (n : Int) : (insR l n).Pairwise (· ≤ ·) := by
  obtain ⟨h1, h2⟩ := cut_below hs n
  unfold insR
  refine List.pairwise_append.mpr ⟨hs.sublist (List.take_sublist _ _), List.pairwise_cons.mpr ⟨h2, hs.sublist (List.drop_sublist _ _)⟩, fun x hx y hy => ?_⟩
  have a := h1 x hx
  rcases List.mem_cons.mp hy with e | hy
  · omega
  · have := h2 y hy
    omega
theorem ins_fine {l : List Int} (f : Fine l) {n : Int} (h : Small n) : Fine (insR l n) := ⟨ins_sorted f.1 n, fun x hx => by
  rcases List.mem_cons.mp ((ins_perm l n).mem_iff.mp hx) with e | hx
  · rw [e]; exact h
  · exact f.2 x hx⟩
theorem del_fine {l : List Int} (f : Fine l) (n : Int) : Fine (delR l n) := ⟨f.1.sublist (List.eraseIdx_sublist _ _), fun x hx => f.2 x ((List.eraseIdx_sublist _ _).subset hx)⟩
theorem del_len {l : List Int} {n : Int} (h : cntB l n < l.length) : (delR l n).length + 1 = l.length := by
  unfold delR
  rw [List.length_eraseIdx_of_lt h]
  omega
/-- the number stands in the row: at the place of the count -/
theorem stands_at {l : List Int} (hs : l.Pairwise (· ≤ ·)) {n : Int} : (l[cntB l n]? = some n) ↔ n ∈ l := by
  constructor
  · exact fun h => List.mem_of_getElem? h
  · intro h
    obtain ⟨i, hi⟩ := List.mem_iff_getElem?.mp h
    have h1 := cntB_lt (n := n) hs hi
    have h2 := (List.getElem?_eq_some_iff.mp hi).1
    obtain ⟨x, hx⟩ : ∃ x, l[cntB l n]? = some x := ⟨_, List.getElem?_eq_getElem (by omega)⟩
    have h3 := cntB_lt (n := n) hs hx
    have h4 := sorted_le hs hx hi (by omega)
    have h5 : x = n := by omega
    rw [← h5] at hx ⊢
    exact h5 ▸ hx
theorem cnt_ins {l : List Int} (n : Int) : cntB (insR l n) n = cntB l n := by
  rw [cntB_perm (ins_perm l n), cntB_cons, if_neg (by omega)]
  rfl
/-- put in and taken out again -/
theorem del_ins (l : List Int) (n : Int) : delR (insR l n) n = l := by
  unfold delR
  rw [cnt_ins]
  unfold insR
  have hl := cntB_le l n
  rw [List.eraseIdx_append_of_length_le (by rw [List.length_take]; omega), List.length_take, Nat.min_eq_left hl, Nat.sub_self]
  show l.take (cntB l n) ++ l.drop (cntB l n) = l
  exact List.take_append_drop _ _
theorem cnt_del {l : List Int} (hs : l.Pairwise (· ≤ ·)) {n : Int} (h : l[cntB l n]? = some n) : cntB (delR l n) n = cntB l n := by
  obtain ⟨h1, h2⟩ := cut_below hs n
  have hl := (List.getElem?_eq_some_iff.mp h).1
  unfold delR
  rw [List.eraseIdx_eq_take_drop_succ, cntB_append]
  have a : cntB (l.take (cntB l n)) n = cntB l n := by
    rw [cntB_all h1, List.length_take]
    omega
  have b : cntB (l.drop (cntB l n + 1)) n = 0 := cntB_none fun y hy => h2 y ((List.drop_sublist_drop_left l (Nat.le_succ _)).subset hy)
  rw [a, b]
  rfl
/-- taken out and put in again -/
theorem ins_del {l : List Int} (hs : l.Pairwise (· ≤ ·)) {n : Int} (h : l[cntB l n]? = some n) : insR (delR l n) n = l := by
  have hc := cnt_del hs h
  have hl := (List.getElem?_eq_some_iff.mp h).1
  unfold insR
  rw [hc]
  unfold delR
  rw [List.eraseIdx_eq_take_drop_succ, List.take_append_of_le_length (by rw [List.length_take]; omega), List.take_of_length_le (by rw [List.length_take]; omega), List.drop_append_of_le_length (by rw [List.length_take]; omega), List.drop_of_length_le (by rw [List.length_take]; omega), List.nil_append]
  have e : l.drop (cntB l n) = n :: l.drop (cntB l n + 1) := by
    rw [List.drop_eq_getElem_cons hl]
    congr 1
    exact (List.getElem?_eq_some_iff.mp h).2
  rw [← e, List.take_append_drop]
/-- sorted rows of the same numbers are one -/
theorem sort_one2 {l m : List Int} (hp : l.Perm m) (h1 : l.Pairwise (· ≤ ·)) (h2 : m.Pairwise (· ≤ ·)) : l = m := hp.eq_of_pairwise (fun a b _ _ x y => Int.le_antisymm x y) h1 h2
/-- behind its likes it is put in the same -/
theorem ins_behind {l : List Int} (hs : l.Pairwise (· ≤ ·)) (n : Int) : l.take (cntB l (n + 1)) ++ n :: l.drop (cntB l (n + 1)) = insR l n := by
  obtain ⟨h1, h2⟩ := cut_below hs (n + 1)
  have p : (l.take (cntB l (n + 1)) ++ n :: l.drop (cntB l (n + 1))).Perm (n :: l) := by
    have := List.perm_middle (a := n) (l₁ := l.take (cntB l (n + 1))) (l₂ := l.drop (cntB l (n + 1)))
    rw [List.take_append_drop] at this
    exact this
  refine sort_one2 (p.trans (ins_perm l n).symm) ?_ (ins_sorted hs n)
  refine List.pairwise_append.mpr ⟨hs.sublist (List.take_sublist _ _), List.pairwise_cons.mpr ⟨fun x hx => by have := h2 x hx; omega, hs.sublist (List.drop_sublist _ _)⟩, fun x hx y hy => ?_⟩
  have a := h1 x hx
  rcases List.mem_cons.mp hy with e | hy
  · omega
  · have := h2 y hy
    omega
/-! the log of what was done -/
abbrev LEnt := Bool × Int × Bool
def und (e : LEnt) (s : R2) : R2 := setR s e.1 (if e.2.2 = true then delR (sideR s e.1) e.2.1 else insR (sideR s e.1) e.2.1)
def Lg : List LEnt → R2 → List R2 → Prop
  | [], _, [] => True
  | e :: log, s, p :: hist => und e s = p ∧ (e.2.2 = true → cntB (sideR s e.1) e.2.1 < (sideR s e.1).length) ∧ Gd2 p ∧ Lg log p hist
  | _, _, _ => False
def lf (T D : Addr) : List (Str × V) := [("_rows", .ref T), ("_done", .ref D)]
theorem rd_ : ¬ (("_rows" : Str) = "_done") := by decide +kernel
theorem lf_rows (T D : Addr) : (lf T D).lookup ("_rows" : Str) = some (.ref T) := rfl
theorem lf_done (T D : Addr) : (lf T D).lookup ("_done" : Str) = some (.ref D) := by
  show List.lookup ("_done" : Str) [(("_rows" : Str), V.ref T), ("_done", .ref D)] = _
  rw [List.lookup_cons, show (("_done" : Str) == ("_rows" : Str)) = false from beq_eq_false_iff_ne.mpr fun z => rd_ z.symm]
  rfl
theorem lf_new (T D : Addr) : putF "_done" (.ref D) (putF "_rows" (.ref T) []) = lf T D := by
  show (if ("_rows" : Str) = "_done" then _ else (("_rows" : Str), V.ref T) :: putF "_done" (V.ref D) []) = lf T D
  rw [if_neg rd_]
  rfl
theorem lf_no {m : Str} (T D : Addr) (h1 : ¬ m = "_rows") (h2 : ¬ m = "_done") : (lf T D).lookup m = none := by
  show List.lookup m [(("_rows" : Str), V.ref T), ("_done", .ref D)] = _
  rw [List.lookup_cons, show (m == ("_rows" : Str)) = false from beq_eq_false_iff_ne.mpr h1]
  show List.lookup m [(("_done" : Str), V.ref D)] = _
  rw [List.lookup_cons, show (m == ("_done" : Str)) = false from beq_eq_false_iff_ne.mpr h2]
  rfl
def entV (r0 r1 : Addr) (e : LEnt) : List V := [.ref (if e.1 = true then r1 else r0), .int e.2.1, .bl e.2.2]
structure LvRaw (C : Addr) (H : Hp) (g dx T D r0 r1 : Addr) (ts : List Addr) (log : List LEnt) (s : R2) (hist : List R2) : Prop where
  hg : H g = some (.ins C dx (lf T D))
  hT : H T = some (.tup [.ref r0, .ref r1])
  h0 : H r0 = some (.lst (s.1.map V.int))
  h1 : H r1 = some (.lst (s.2.map V.int))
  hD : H D = some (.lst (ts.map V.ref))
  len : ts.length = log.length
  at_ : ∀ (j : Nat) (t : Addr) (e : LEnt), ts[j]? = some t → log.reverse[j]? = some e → H t = some (.tup (entV r0 r1 e))
  lg : Lg log s hist
  n01 : r0 ≠ r1
  nD0 : D ≠ r0
  nD1 : D ≠ r1
  gd : Gd2 s
def LiveAt (C : Addr) (H : Hp) (g r0 r1 D : Addr) (s : R2) (hist : List R2) : Prop := ∃ (dx T : Addr) (ts : List Addr) (log : List LEnt), LvRaw C H g dx T D r0 r1 ts log s hist
/-- what the top has written of the class -/
structure LiT (K : PySem.W.Frag) (C : Addr) : Prop where
  cl : Cls K C
  nR : NoAttr K C "_rows"
  nD : NoAttr K C "_done"
section
variable {C g dx T D r0 r1 : Addr} {H H' : Hp} {TT : List (Addr × Str)} {S : List Addr} {s : R2} {hist : List R2} {ts : List Addr} {log : List LEnt}
theorem LvRaw.lv (m : Lv TT S H H') (n0 : r0 ∉ S) (n1 : r1 ∉ S) (nD : D ∉ S) (l : LvRaw C H g dx T D r0 r1 ts log s hist) : LvRaw C H' g dx T D r0 r1 ts log s hist :=
  ⟨m.ins l.hg, m.tup l.hT, m.lst l.h0 n0, m.lst l.h1 n1, m.lst l.hD nD, l.len, fun j t e a b => m.tup (l.at_ j t e a b), l.lg, l.n01, l.nD0, l.nD1, l.gd⟩
theorem LiveAt.lv (m : Lv TT S H H') (n0 : r0 ∉ S) (n1 : r1 ∉ S) (nD : D ∉ S) (l : LiveAt C H g r0 r1 D s hist) : LiveAt C H' g r0 r1 D s hist := let ⟨dx, T, ts, log, r⟩ := l; ⟨dx, T, ts, log, r.lv m n0 n1 nD⟩
theorem LiveAt.same (e : Same H H') (l : LiveAt C H g r0 r1 D s hist) : LiveAt C H' g r0 r1 D s hist := l.lv (TT := []) (S := []) (.same e) (fun z => nomatch z) (fun z => nomatch z) fun z => nomatch z
theorem LiveAt.gd (l : LiveAt C H g r0 r1 D s hist) : Gd2 s := let ⟨_, _, _, _, r⟩ := l; r.gd
theorem lg_len : ∀ {log : List LEnt} {s : R2} {hist : List R2}, Lg log s hist → log.length = hist.length
  | [], _, [], _ => rfl
  | [], _, _ :: _, h => h.elim
  | _ :: _, _, [], h => h.elim
  | _ :: log, _, _ :: hist, h => by rw [List.length_cons, List.length_cons, lg_len h.2.2.2]
end
/-! promises of the methods -/
def rowV (r0 r1 : Addr) (b : Bool) : Addr := if b = true then r1 else r0
def spLInit (K : PySem.W.Frag) (C : Addr) : L2.Sp := fun vs H Q _ => ∃ (g dx p q : Addr) (s : R2), vs = [.ref g, .ref p, .ref q] ∧ H g = some (.ins C dx []) ∧ SqL K H p (s.1.map V.int) ∧ SqL K H q (s.2.map V.int) ∧ Gd2 s ∧
  ∀ (r0 r1 D : Addr) (H' : Hp), H r0 = none → H r1 = none → H D = none → (∀ b u, H b = some u → b ≠ g → H' b = some u) → LiveAt C H' g r0 r1 D s [] → Q .non H'
def spLRow (C : Addr) : L2.Sp := fun vs H Q _ => ∃ (g r0 r1 D : Addr) (b : Bool) (s : R2) (hist : List R2), vs = [.ref g, .int (if b = true then 1 else 0)] ∧ LiveAt C H g r0 r1 D s hist ∧ Q (.ref (rowV r0 r1 b)) H
def spLPut (C : Addr) : L2.Sp := fun vs H Q _ => ∃ (g r0 r1 D : Addr) (b : Bool) (n : Int) (s : R2) (hist : List R2), vs = [.ref g, .int (if b = true then 1 else 0), .int n] ∧ LiveAt C H g r0 r1 D s hist ∧ Small n ∧ (sideR s b).length < 300 ∧ hist.length ≤ 90000 ∧
  ∀ H', (∀ TT, Lv TT [r0, r1, D] H H') → LiveAt C H' g r0 r1 D (setR s b (insR (sideR s b) n)) (s :: hist) → Q .non H'
def spLTake (C : Addr) : L2.Sp := fun vs H Q _ => ∃ (g r0 r1 D : Addr) (b : Bool) (n : Int) (s : R2) (hist : List R2), vs = [.ref g, .int (if b = true then 1 else 0), .int n] ∧ LiveAt C H g r0 r1 D s hist ∧ n ∈ sideR s b ∧ hist.length ≤ 90000 ∧
  ∀ H', (∀ TT, Lv TT [r0, r1, D] H H') → LiveAt C H' g r0 r1 D (setR s b (delR (sideR s b) n)) (s :: hist) → Q .non H'
def spLUndo (C : Addr) : L2.Sp := fun vs H Q _ => ∃ (g r0 r1 D : Addr) (s : R2) (hist : List R2), vs = [.ref g] ∧ LiveAt C H g r0 r1 D s hist ∧
  (hist = [] → Q (.bl false) H) ∧ ∀ p rest H', hist = p :: rest → (∀ TT, Lv TT [r0, r1, D] H H') → LiveAt C H' g r0 r1 D p rest → Q (.bl true) H'
def spLRows (C : Addr) : L2.Sp := fun vs H Q _ => ∃ (g r0 r1 D : Addr) (s : R2) (hist : List R2), vs = [.ref g] ∧ LiveAt C H g r0 r1 D s hist ∧
  ∀ (t p q : Addr) (H' : Hp), Same H H' → H t = none → H p = none → H q = none → p ≠ q → H' t = some (.tup [.ref p, .ref q]) → H' p = some (.lst (s.1.map V.int)) → H' q = some (.lst (s.2.map V.int)) → Q (.ref t) H'
def spLBelow (C : Addr) : L2.Sp := fun vs H Q _ => ∃ (g r0 r1 D : Addr) (n : Int) (s : R2) (hist : List R2), vs = [.ref g, .int n] ∧ LiveAt C H g r0 r1 D s hist ∧ Q (.int ((cntS s.1 s.2 n : Nat) : Int)) H
def spLAt (C : Addr) (TT : List (Addr × Str)) : L2.Sp := fun vs H Q _ => ∃ (g r0 r1 D : Addr) (n : Nat) (s : R2) (hist : List R2) (L : List T3) (w : T3), vs = [.ref g, .int (n : Int)] ∧ LiveAt C H g r0 r1 D s hist ∧ Tabs TT H ∧ Tri.Ord s.1 s.2 L ∧ L[n]? = some w ∧ ∀ (t : Addr) (H' : Hp), Nx TT H H' → H' t = some (.tup (tri w)) → Q (.ref t) H'
def spStands (K : PySem.W.Frag) : L2.Sp := fun vs H Q _ => ∃ (p : Addr) (ns : List Int) (n : Int), vs = [.ref p, .int n] ∧ SqL K H p (ns.map V.int) ∧ ns.Pairwise (· ≤ ·) ∧ ns.length ≤ 1000 ∧ Q (.bl (decide (n ∈ ns))) H
def spPutIn : L2.Sp := fun vs H Q _ => ∃ (p : Addr) (ns : List Int) (n : Int), vs = [.ref p, .int n] ∧ H p = some (.lst (ns.map V.int)) ∧ ns.Pairwise (· ≤ ·) ∧ ns.length ≤ 1000 ∧ Q .non (upd H p (.lst ((insR ns n).map V.int)))
def spTakeOut : L2.Sp := fun vs H Q _ => ∃ (p : Addr) (ns : List Int) (n : Int), vs = [.ref p, .int n] ∧ H p = some (.lst (ns.map V.int)) ∧ ns.Pairwise (· ≤ ·) ∧ ns.length ≤ 1000 ∧ cntB ns n < ns.length ∧ Q .non (upd H p (.lst ((delR ns n).map V.int)))
end Sp
namespace Sp
open PySem L2 LamX Tri Xc
theorem map_erase {α β : Type} (f : α → β) : ∀ (l : List α) (j : Nat), (l.map f).eraseIdx j = (l.eraseIdx j).map f
  | [], _ => rfl
  | _ :: _, 0 => rfl
  | x :: l, j + 1 => by
    show f x :: (l.map f).eraseIdx j = f x :: (l.eraseIdx j).map f
    rw [map_erase f l j]
end Sp
namespace Sp
open PySem L2 LamX Tri Xc
theorem cut_pre (xs : List V) (k : Nat) : cutV xs none (some (k : Int)) = xs.take k := by
  have h := cut_mid xs 0 k
  have e : cutV xs none (some (k : Int)) = cutV xs (some ((0 : Nat) : Int)) (some (k : Int)) := by
    unfold cutV
    rw [show HT.sIx xs.length 0 none = HT.sIx xs.length 0 (some ((0 : Nat) : Int)) from by
      cases xs with
      | nil => rfl
      | cons x xs => rfl]
  rw [e, h, List.drop_zero, Nat.sub_zero]
theorem cut_suf (xs : List V) (k : Nat) : cutV xs (some (k : Int)) none = xs.drop k := by
  have h := cut_mid xs k xs.length
  have e : cutV xs (some (k : Int)) none = cutV xs (some (k : Int)) (some (xs.length : Int)) := by
    unfold cutV
    have : HT.sIx xs.length xs.length none = HT.sIx xs.length xs.length (some (xs.length : Int)) := by
      show xs.length = _
      unfold HT.sIx
      simp
      intro z
      omega
    rw [this]
  rw [e, h, List.take_of_length_le (by rw [List.length_drop]; omega)]
def spInL (K : PySem.W.Frag) : L2.Sp := fun vs H Q _ => ∃ (p : Addr) (ns : List Int) (n : Int), vs = [.ref p, .int n] ∧ SqL K H p (ns.map V.int) ∧ ns.Pairwise (· ≤ ·) ∧ ns.length ≤ 1000 ∧ ∀ (r : Addr) (H' : Hp), Same H H' → H r = none → H' r = some (.lst ((insR ns n).map V.int)) → Q (.ref r) H'
def spOutL (K : PySem.W.Frag) : L2.Sp := fun vs H Q _ => ∃ (p : Addr) (ns : List Int) (n : Int), vs = [.ref p, .int n] ∧ SqL K H p (ns.map V.int) ∧ ns.Pairwise (· ≤ ·) ∧ ns.length ≤ 1000 ∧ n ∈ ns ∧ ∀ (r : Addr) (H' : Hp), Same H H' → H r = none → H' r = some (.lst ((delR ns n).map V.int)) → Q (.ref r) H'
def spNumL : L2.Sp := fun vs H Q _ => ∃ (a p : Addr) (ns : List Int), vs = [.ref a, .ref p] ∧ DrawAt H a ∧ H p = some (.lst (ns.map V.int)) ∧ p ≠ a ∧ ns.length ≤ 1000 ∧ Fine ns ∧ ∀ (n : Int) (H' : Hp), ExtD a H H' → Small n → Q (.int n) H'
/-- two rows held by a list -/
def Both (S : List Addr) (H : Hp) (b : Addr) (s : R2) : Prop := b ∉ S ∧ ∃ p q, H b = some (.lst [.ref p, .ref q]) ∧ p ∉ S ∧ q ∉ S ∧ H p = some (.lst (s.1.map V.int)) ∧ H q = some (.lst (s.2.map V.int))
theorem Both.lv {T : List (Addr × Str)} {S : List Addr} {H H' : Hp} {b : Addr} {s : R2} (m : Lv T S H H') (h : Both S H b s) : Both S H' b s := by
  obtain ⟨nb, p, q, e, np, nq, h1, h2⟩ := h
  exact ⟨nb, p, q, m.lst e nb, np, nq, m.lst h1 np, m.lst h2 nq⟩
structure Wd (C : Addr) (T : List (Addr × Str)) (M : List Addr) (H : Hp) (a g st pl r0 r1 D : Addr) (s : R2) (hist : List R2) : Prop where
  draws : DrawAt H a
  live : LiveAt C H g r0 r1 D s hist
  state : ∃ (b : Addr) (bs : List Addr), H st = some (.lst [.ref b, .ref pl]) ∧ H pl = some (.lst (bs.map V.ref)) ∧ Both (a :: r0 :: r1 :: D :: st :: pl :: M) H b s ∧ bs.length = hist.length ∧ ∀ (j : Nat) (c : Addr) (x : R2), bs[j]? = some c → hist.reverse[j]? = some x → Both (a :: r0 :: r1 :: D :: st :: pl :: M) H c x
  exM : ∀ c ∈ M, ∃ xs, H c = some (.lst xs)
  nd : (a :: r0 :: r1 :: D :: st :: pl :: M).Nodup
  tabs : Tabs T H
section
variable {C : Addr} {T : List (Addr × Str)} {M : List Addr} {H H' : Hp} {a g st pl r0 r1 D p : Addr} {s : R2} {hist : List R2}
theorem Wd.ex (w : Wd C T M H a g st pl r0 r1 D s hist) : ∀ c ∈ (a :: r0 :: r1 :: D :: st :: pl :: M), ∃ xs, H c = some (.lst xs) := fun c hc => by
  obtain ⟨b, bs, e1, e2, _⟩ := w.state
  obtain ⟨dx, TT, ts, log, R⟩ := w.live
  obtain ⟨ds, e3, _⟩ := w.draws
  simp only [List.mem_cons] at hc
  rcases hc with rfl | rfl | rfl | rfl | rfl | rfl | hc
  · exact ⟨_, e3⟩
  · exact ⟨_, R.h0⟩
  · exact ⟨_, R.h1⟩
  · exact ⟨_, R.hD⟩
  · exact ⟨_, e1⟩
  · exact ⟨_, e2⟩
  · exact w.exM c hc
theorem Wd.new (w : Wd C T M H a g st pl r0 r1 D s hist) (h : H p = none) : p ∉ (a :: r0 :: r1 :: D :: st :: pl :: M) := fun hc => by
  obtain ⟨xs, e⟩ := w.ex p hc
  rw [h] at e
  cases e
/-- nothing of it is touched -/
theorem Wd.lv (w : Wd C T M H a g st pl r0 r1 D s hist) {S : List Addr} (m : Lv T S H H') (h : ∀ c ∈ (a :: r0 :: r1 :: D :: st :: pl :: M), c ∉ S) (h2 : ∀ c ∈ S, H c = none) : Wd C T M H' a g st pl r0 r1 D s hist := by
  have m' : Lv T (a :: r0 :: r1 :: D :: st :: pl :: M) H H' := .nx (m.made h2)
  obtain ⟨b, bs, e1, e2, e3, e4, e5⟩ := w.state
  exact ⟨m.draws (h a (by simp)) w.draws, w.live.lv m (h r0 (by simp)) (h r1 (by simp)) (h D (by simp)), ⟨b, bs, m.lst e1 (h st (by simp)), m.lst e2 (h pl (by simp)), e3.lv m', e4, fun j c x p q => (e5 j c x p q).lv m'⟩, fun c hc => let ⟨xs, e⟩ := w.exM c hc; ⟨xs, m.lst e (h c (by simp [hc]))⟩, w.nd, m.tabs w.tabs⟩
theorem Wd.nx (w : Wd C T M H a g st pl r0 r1 D s hist) (n : Nx T H H') : Wd C T M H' a g st pl r0 r1 D s hist := w.lv (S := []) (.nx n) (fun _ _ z => nomatch z) fun _ z => nomatch z
theorem Wd.same (w : Wd C T M H a g st pl r0 r1 D s hist) (n : Same H H') : Wd C T M H' a g st pl r0 r1 D s hist := w.nx (.same n)
/-- only the draws -/
theorem Wd.ext (w : Wd C T M H a g st pl r0 r1 D s hist) (x : ExtD a H H') : Wd C T M H' a g st pl r0 r1 D s hist := by
  have m1 : Lv T [a] H H' := .ext x w.draws (by simp)
  have m' : Lv T (a :: r0 :: r1 :: D :: st :: pl :: M) H H' := .ext x w.draws (by simp)
  obtain ⟨b, bs, e1, e2, e3, e4, e5⟩ := w.state
  have na := (List.nodup_cons.mp w.nd).1
  have ne : ∀ c ∈ (r0 :: r1 :: D :: st :: pl :: M), c ∉ [a] := fun c hc z => na (by rw [← List.mem_singleton.mp z]; exact hc)
  exact ⟨x.hand w.draws, w.live.lv m1 (ne _ (by simp)) (ne _ (by simp)) (ne _ (by simp)), ⟨b, bs, m1.lst e1 (ne _ (by simp)), m1.lst e2 (ne _ (by simp)), e3.lv m', e4, fun j c x p q => (e5 j c x p q).lv m'⟩, fun c hc => let ⟨xs, e⟩ := w.exM c hc; ⟨xs, m1.lst e (ne _ (by simp [hc]))⟩, w.nd, tabs_draws w.draws x w.tabs⟩
end
end Sp
namespace Sp
open PySem L2 LamX Tri Xc
/-! data of lists of two rows -/
abbrev db (s : R2) : PyData := .list [di s.1, di s.2]
theorem dp_db {K : PySem.W.Frag} {S : List Addr} {H : Hp} {b : Addr} {s : R2} (h : Both S H b s) : Dp K H (.ref b) (db s) := by
  obtain ⟨_, p, q, e, _, _, h1, h2⟩ := h
  exact dp_two e (SqL.new h1) (SqL.new h2)
theorem dpAll_db {K : PySem.W.Frag} {S : List Addr} {H : Hp} : ∀ {bs : List Addr} {ss : List R2}, bs.length = ss.length → (∀ (j : Nat) (c : Addr) (x : R2), bs[j]? = some c → ss[j]? = some x → Both S H c x) → DpAll K H (bs.map V.ref) (ss.map db)
  | [], [], _, _ => .nil
  | [], _ :: _, h, _ => by cases h
  | _ :: _, [], h, _ => by cases h
  | b :: bs, s :: ss, h, g => .cons (dp_db (g 0 b s rfl rfl)) (dpAll_db (Nat.succ.inj h) fun j c x h1 h2 => g (j + 1) c x h1 h2)
theorem lay_db : ∀ ss : List R2, PyData.canLayAll0 (ss.map db) = true
  | [] => by rw [List.map_nil, PyData.canLayAll0]
  | s :: ss => by
    have h : PyData.canLay0 (db s) = true := by
      rw [PyData.canLay0, PyData.canLayAll0, PyData.canLayAll0, PyData.canLayAll0, PyData.canLay0, PyData.canLay0, lay_ints, lay_ints]
      rfl
    rw [List.map_cons, PyData.canLayAll0, lay_db ss, h]
    rfl
theorem dep_db : ∀ ss : List R2, PyData.depthAll (ss.map db) ≤ 10
  | [] => by rw [List.map_nil, PyData.depthAll]; omega
  | s :: ss => by
    have := dep_db ss
    rw [List.map_cons, PyData.depthAll, PyData.depth, PyData.depthAll, PyData.depthAll, PyData.depthAll, PyData.depth, PyData.depth, dep_ints, dep_ints]
    omega
theorem shaped_pile (ss : List R2) : SeqAt.shaped (.list (ss.map db)) = true := by
  unfold SeqAt.shaped
  have h1 : PyData.canLay0 (.list (ss.map db)) = true := by rw [PyData.canLay0, lay_db]
  have h2 := dep_db ss
  have h3 : PyData.depth (.list (ss.map db)) ≤ 12 := by rw [PyData.depth]; omega
  rw [h1, Bool.true_and, decide_eq_true_iff]
  omega
theorem eqv_pile (ss : List R2) : PyData.eqv (.list (ss.map db)) (di []) = decide (ss = []) := by
  cases ss <;> rfl
def spDeed (K : PySem.W.Frag) (C : Addr) (T : List (Addr × Str)) : L2.Sp := fun vs H Q _ => ∃ (M : List Addr) (a g st pl r0 r1 D : Addr) (s : R2) (hist : List R2), vs = [.ref a, .ref g, .ref st] ∧ Wd C T M H a g st pl r0 r1 D s hist ∧ hist.length ≤ 80000 ∧
  ∀ (s' : R2) (hist' : List R2) (H' : Hp), Lv T [a, r0, r1, D, st, pl] H H' → Wd C T M H' a g st pl r0 r1 D s' hist' → hist'.length ≤ hist.length + 1 → Q (.bl true) H'
end Sp
namespace Sp
theorem in3 {a r0 r1 D st pl c : PySem.Addr} {M : List PySem.Addr} (h : c ∈ [r0, r1, D]) : c ∈ (a :: r0 :: r1 :: D :: st :: pl :: M) := by
  simp only [List.mem_cons, List.not_mem_nil, or_false] at h
  rcases h with rfl | rfl | rfl <;> simp
theorem in2 {a r0 r1 D st pl c : PySem.Addr} {M : List PySem.Addr} (h : c ∈ [st, pl]) : c ∈ (a :: r0 :: r1 :: D :: st :: pl :: M) := by
  simp only [List.mem_cons, List.not_mem_nil, or_false] at h
  rcases h with rfl | rfl <;> simp
theorem in4 {a r0 r1 D st pl c : PySem.Addr} {M : List PySem.Addr} (h : c ∈ [a, r0, r1, D]) : c ∈ (a :: r0 :: r1 :: D :: st :: pl :: M) := by
  simp only [List.mem_cons, List.not_mem_nil, or_false] at h
  rcases h with rfl | rfl | rfl | rfl <;> simp
theorem in6 {a r0 r1 D st pl c : PySem.Addr} {M : List PySem.Addr} (h : c ∈ [a, r0, r1, D, st, pl]) : c ∈ (a :: r0 :: r1 :: D :: st :: pl :: M) := by
  simp only [List.mem_cons, List.not_mem_nil, or_false] at h
  rcases h with rfl | rfl | rfl | rfl | rfl | rfl <;> simp
end Sp
namespace Sp
open PySem L2 LamX Tri Xc
def spLPair (K : PySem.W.Frag) : L2.Sp := fun vs H Q _ => ∃ (p q : Addr) (ns ms : List Int) (n : Nat) (L : List T3) (w : T3), vs = [.ref p, .ref q, .int (n : Int)] ∧ SqL K H p (ns.map V.int) ∧ SqL K H q (ms.map V.int) ∧ ns.Pairwise (· ≤ ·) ∧ ms.Pairwise (· ≤ ·) ∧ ns.length ≤ 1000 ∧ ms.length ≤ 1000 ∧
  Tri.Ord ns ms L ∧ L[n]? = some w ∧ ∀ (t : Addr) (H' : Hp), Same H H' → H t = none → H' t = some (.tup (tri w)) → Q (.ref t) H'
theorem last_one (l : List Int) (h : 0 < l.length) : ∃ z, z ∈ l ∧ l[l.length - 1]? = some z ∧ atI (l.map V.int) (-1) = some (.int z) := by
  rcases List.eq_nil_or_concat l with e | ⟨m, v, e⟩
  · rw [e] at h; simp at h
  · refine ⟨v, by rw [e]; simp, by rw [e]; simp, ?_⟩
    rw [e, List.concat_eq_append, List.map_append]
    exact atI_last _ _
def csum (ns ms : List Int) (r : Int) (i : Nat) : Nat := ((ns.take i).map fun z => ms.count (r - z)).sum
theorem csum_next {ns ms : List Int} {r x : Int} {i : Nat} (h : ns[i]? = some x) : csum ns ms r (i + 1) = csum ns ms r i + ms.count (r - x) := by
  unfold csum
  rw [take_snoc h, List.map_append, List.sum_append]
  rfl
end Sp
namespace Sp
open PySem L2 LamX Tri Xc
/-- one that is held: what was told, and a copy of it -/
def HeldE (S : List Addr) (H : Hp) (e : Addr) : Prop := ∃ (t k p q p' q' : Addr) (us ws : List Int), H e = some (.tup [.ref t, .ref k]) ∧ H t = some (.tup [.ref p, .ref q]) ∧ p ∉ S ∧ q ∉ S ∧ H p = some (.lst (us.map V.int)) ∧ H q = some (.lst (ws.map V.int)) ∧
  k ∉ S ∧ H k = some (.lst [.ref p', .ref q']) ∧ p' ∉ S ∧ q' ∉ S ∧ H p' = some (.lst (us.map V.int)) ∧ H q' = some (.lst (ws.map V.int))
theorem HeldE.lv {T : List (Addr × Str)} {S : List Addr} {H H' : Hp} {e : Addr} (m : Lv T S H H') (h : HeldE S H e) : HeldE S H' e := by
  obtain ⟨t, k, p, q, p', q', us, ws, a1, a2, n1, n2, a3, a4, n3, a5, n4, n5, a6, a7⟩ := h
  exact ⟨t, k, p, q, p', q', us, ws, m.tup a1, m.tup a2, n1, n2, m.lst a3 n1, m.lst a4 n2, n3, m.lst a5 n3, n4, n5, m.lst a6 n4, m.lst a7 n5⟩
def Held (S : List Addr) (H : Hp) (hd : Addr) (hs : List Addr) : Prop := H hd = some (.lst (hs.map V.ref)) ∧ ∀ e ∈ hs, HeldE S H e
def spDoor (K : PySem.W.Frag) (C : Addr) (T : List (Addr × Str)) : L2.Sp := fun vs H Q _ => ∃ (M : List Addr) (a g st pl r0 r1 D hd b : Addr) (s : R2) (hist : List R2) (hs : List Addr) (way : Int), vs = [.ref a, .ref g, .ref b, .int way, .ref hd] ∧ Wd C T M H a g st pl r0 r1 D s hist ∧ hd ∈ M ∧
  Both (a :: r0 :: r1 :: D :: st :: pl :: M) H b s ∧ Held (a :: r0 :: r1 :: D :: st :: pl :: M) H hd hs ∧ hs.length ≤ 80000 ∧
  ∀ (hs' : List Addr) (H' : Hp), Lv T [a, hd] H H' → Wd C T M H' a g st pl r0 r1 D s hist → Held (a :: r0 :: r1 :: D :: st :: pl :: M) H' hd hs' → hs'.length ≤ hs.length + 1 → Q (.bl true) H'
/-- only the draws and one of the rest -/
theorem Wd.at_hd {C : Addr} {T : List (Addr × Str)} {M : List Addr} {H H' : Hp} {a g st pl r0 r1 D hd : Addr} {s : R2} {hist : List R2} (w : Wd C T M H a g st pl r0 r1 D s hist) (hm : hd ∈ M) (m : Lv T [hd] H H') (eh : ∃ xs, H' hd = some (.lst xs)) : Wd C T M H' a g st pl r0 r1 D s hist := by
  have m' : Lv T (a :: r0 :: r1 :: D :: st :: pl :: M) H H' := m.mono fun c hc => by
    rw [List.mem_singleton.mp hc]
    simp [hm]
  have nds := w.nd
  simp only [List.nodup_cons, List.mem_cons, not_or] at nds
  obtain ⟨⟨na0, na1, naD, nas, nap, naM⟩, ⟨n01, n0D, n0s, n0p, n0M⟩, ⟨n1D, n1s, n1p, n1M⟩, ⟨nDs, nDp, nDM⟩, ⟨nsp, nsM⟩, npM, nM⟩ := nds
  have no : ∀ {c}, c ∉ M → c ∉ [hd] := fun h z => h (by rw [List.mem_singleton.mp z]; exact hm)
  obtain ⟨b, bs, e1, e2, e3, e4, e5⟩ := w.state
  refine ⟨m.draws (no naM) w.draws, w.live.lv m (no n0M) (no n1M) (no nDM), ⟨b, bs, m.lst e1 (no nsM), m.lst e2 (no npM), e3.lv m', e4, fun j c x p q => (e5 j c x p q).lv m'⟩, fun c hc => ?_, w.nd, m.tabs w.tabs⟩
  by_cases z : c = hd
  · rw [z]; exact eh
  · obtain ⟨xs, e⟩ := w.exM c hc
    exact ⟨xs, m.lst e (by simpa using z)⟩
end Sp
namespace Sp
open PySem L2 LamX Tri Xc
theorem Lv.less {T : List (Addr × Str)} {S S' : List Addr} {H H' : Hp} (e : Lv T S' H H') (n : ∀ b ∈ S', b ∈ S ∨ H b = none) : Lv T S H H' := by
  refine ⟨fun b o h t k => e.of b o h t fun z w => ?_, e.tabs⟩
  rcases n b w with x | x
  · exact k z x
  · rw [x] at h
    cases h
theorem Wd.dr {C : Addr} {T : List (Addr × Str)} {M : List Addr} {H H' : Hp} {a g st pl r0 r1 D : Addr} {s : R2} {hist : List R2} (w : Wd C T M H a g st pl r0 r1 D s hist) (m1 : Lv T [a] H H') (d : DrawAt H' a) : Wd C T M H' a g st pl r0 r1 D s hist := by
  have m' : Lv T (a :: r0 :: r1 :: D :: st :: pl :: M) H H' := m1.mono fun c hc => by rw [List.mem_singleton.mp hc]; simp
  obtain ⟨b, bs, e1, e2, e3, e4, e5⟩ := w.state
  have na := (List.nodup_cons.mp w.nd).1
  have ne : ∀ c ∈ (r0 :: r1 :: D :: st :: pl :: M), c ∉ [a] := fun c hc z => na (by rw [← List.mem_singleton.mp z]; exact hc)
  exact ⟨d, w.live.lv m1 (ne _ (by simp)) (ne _ (by simp)) (ne _ (by simp)), ⟨b, bs, m1.lst e1 (ne _ (by simp)), m1.lst e2 (ne _ (by simp)), e3.lv m', e4, fun j c x p q => (e5 j c x p q).lv m'⟩, fun c hc => let ⟨xs, e⟩ := w.exM c hc; ⟨xs, m1.lst e (ne _ (by simp [hc]))⟩, w.nd, m1.tabs w.tabs⟩
end Sp
namespace Sp
open PySem L2 LamX Tri Xc
def spStandsL (K : PySem.W.Frag) (C : Addr) (T : List (Addr × Str)) : L2.Sp := fun vs H Q _ => ∃ (M : List Addr) (a g st pl r0 r1 D hd b : Addr) (s : R2) (hist : List R2) (hs : List Addr), vs = [.ref a, .ref g, .ref b, .ref hd] ∧ Wd C T M H a g st pl r0 r1 D s hist ∧ hd ∈ M ∧
  Both (a :: r0 :: r1 :: D :: st :: pl :: M) H b s ∧ Held (a :: r0 :: r1 :: D :: st :: pl :: M) H hd hs ∧ hs.length ≤ 70000 ∧
  ∀ (hs' : List Addr) (H' : Hp), Lv T [a, hd] H H' → Wd C T M H' a g st pl r0 r1 D s hist → Held (a :: r0 :: r1 :: D :: st :: pl :: M) H' hd hs' → hs'.length ≤ hs.length + 3 → Q (.bl true) H'
def spHeldStay : L2.Sp := fun vs H Q _ => ∃ (S : List Addr) (hd : Addr) (hs : List Addr), vs = [.ref hd] ∧ Held S H hd hs ∧ ∀ H', Same H H' → Q (.bl true) H'
end Sp
namespace Sp
open PySem L2 LamX Tri Xc
theorem call_list_K {c : Cx} {K : PySem.W.Frag} (h : c.K = K) : CallR c (.type "list") (fun xs H Q => ∃ p ys, xs = [V.ref p] ∧ (SqL K H p ys ∨ SqT K H p ys) ∧ ∀ (l : Addr), H l = none → Q (V.ref l) (upd H l (HO.lst ys))) := by
  subst h
  exact call_list_of
theorem op_neD_K {c : Cx} {K : PySem.W.Frag} (h : c.K = K) (hu : c.A.units + 64 < PySem.cLine) : OpR c (compareOp .NotEq) (rNeD K) := by
  subst h
  exact op_neD hu
end Sp
namespace Sp
open PySem L2 LamX Tri Xc
theorem live_made {K : PySem.W.Frag} {C p q g dx : Addr} {H : Hp} {s : R2} {Q : VK} {E : XK} (hp : SqL K H p (s.1.map V.int)) (hq : SqL K H q (s.2.map V.int)) (gd : Gd2 s) (ng : H g = none) (nd : H dx = none) (ne : dx ≠ g)
    (k : ∀ (r0 r1 D : Addr) (H' : Hp), Same H H' → H r0 = none → H r1 = none → H D = none → LiveAt C H' g r0 r1 D s [] → Q .non H') :
    spLInit K C [.ref g, .ref p, .ref q] (upd (upd H dx (.own g)) g (.ins C dx [])) Q E := by
  have s0 : Same H (upd (upd H dx (.own g)) g (.ins C dx [])) := fun b o e => by
    rw [upd_ne (ne_of_none e ng), upd_ne (ne_of_none e nd)]
    exact e
  have back : ∀ {l : Addr}, (upd (upd H dx (.own g)) g (.ins C dx [])) l = none → H l = none := fun {l} hl => by
    have nlg : l ≠ g := fun z => by rw [z, upd_same] at hl; cases hl
    have nld : l ≠ dx := fun z => by rw [upd_ne nlg, z, upd_same] at hl; cases hl
    rw [upd_ne nlg, upd_ne nld] at hl
    exact hl
  refine ⟨g, dx, p, q, s, rfl, upd_same, s0.seq hp, s0.seq hq, gd, fun r0 r1 D H' n0 n1 nD keep L => ?_⟩
  exact k r0 r1 D H' (fun b o e => keep b o (s0 b o e) (ne_of_none e ng)) (back n0) (back n1) (back nD) L
end Sp
namespace Sp
open PySem L2 LamX Tri Xc
def spRight51 (K : PySem.W.Frag) (C : Addr) (T : List (Addr × Str)) : L2.Sp := fun vs H Q _ => ∃ (M : List Addr) (a g st pl r0 r1 D b : Addr) (s : R2) (hist : List R2), vs = [.ref a, .ref g, .ref b] ∧ Wd C T M H a g st pl r0 r1 D s hist ∧ Both (a :: r0 :: r1 :: D :: st :: pl :: M) H b s ∧
  ∀ (H' : Hp), Lv T [a] H H' → Wd C T M H' a g st pl r0 r1 D s hist → Q (.bl true) H'
/-- a list of a count, and perhaps of one of the order -/
def EarlyAt (H : Hp) (p : Addr) (c : Int) : Option T3 → Prop
  | none => H p = some (.lst [.int c])
  | some w => ∃ u, H p = some (.lst [.int c, .ref u]) ∧ H u = some (.tup [.int w.1, .int w.2.1, .int w.2.2])
def dz (c : Int) : Option T3 → PyData
  | none => di [c]
  | some w => .list [.int c, dt w]
theorem EarlyAt.same {H H' : Hp} {p : Addr} {c : Int} {z : Option T3} (s : Same H H') (h : EarlyAt H p c z) : EarlyAt H' p c z := by
  cases z with
  | none => exact s _ _ h
  | some w => obtain ⟨u, h1, h2⟩ := h; exact ⟨u, s _ _ h1, s _ _ h2⟩
theorem EarlyAt.lv {T : List (Addr × Str)} {S : List Addr} {H H' : Hp} {p : Addr} {c : Int} {z : Option T3} (m : Lv T S H H') (n : p ∉ S) (h : EarlyAt H p c z) : EarlyAt H' p c z := by
  cases z with
  | none => exact m.lst h n
  | some w => obtain ⟨u, h1, h2⟩ := h; exact ⟨u, m.lst h1 n, m.tup h2⟩
theorem dp_early {K : PySem.W.Frag} {H : Hp} {p : Addr} {c : Int} {z : Option T3} (h : EarlyAt H p c z) : Dp K H (.ref p) (dz c z) := by
  cases z with
  | none => exact dp_ints (ns := [c]) (SqL.new h)
  | some w => obtain ⟨u, h1, h2⟩ := h; exact .lst (SqL.new h1) (.cons (.int c) (.cons (dp_tri h2) .nil))
theorem shaped_dz (c : Int) (z : Option T3) : SeqAt.shaped (dz c z) = true := by
  cases z with
  | none => exact shaped_ints _
  | some w =>
    unfold dz dt SeqAt.shaped
    simp only [PyData.canLay0, PyData.canLayAll0, PyData.depth, PyData.depthAll]
    rfl
theorem eqv_dz (c : Int) (z : Option T3) : PyData.eqv (dz c z) (dz c z) = true := by
  cases z with
  | none => rw [dz, eqv_ints, decide_eq_true rfl]
  | some w =>
    rw [dz, PyData.eqv]
    refine eqvAll_same fun x hx => ?_
    simp only [List.mem_cons, List.not_mem_nil, or_false] at hx
    rcases hx with rfl | rfl
    · rw [PyData.eqv]; exact decide_eq_true rfl
    · exact eqv_tri w
end Sp
namespace Sp
open PySem L2 LamX Tri Xc
theorem shaped_i (n : Int) : SeqAt.shaped (.int n) = true := by
  unfold SeqAt.shaped
  rw [PyData.canLay0, PyData.depth]
  rfl
theorem eqv_i (n : Int) : PyData.eqv (.int n) (.int n) = true := by
  rw [PyData.eqv]; exact decide_eq_true rfl
end Sp
namespace Sp
open PySem L2 LamX Tri Xc
theorem dp_tw {K : PySem.W.Frag} {H : Hp} {l p q : Addr} {ns ms : List Int} (h : H l = some (.tup [.ref p, .ref q])) (hp : SqL K H p (ns.map V.int)) (hq : SqL K H q (ms.map V.int)) : Dp K H (.ref l) (.tuple [di ns, di ms]) :=
  .tup (.inl (.inl h)) (.cons (dp_ints hp) (.cons (dp_ints hq) .nil))
theorem shaped_tw (ns ms : List Int) : SeqAt.shaped (.tuple [di ns, di ms]) = true := by
  unfold SeqAt.shaped
  simp only [PyData.canLay0, PyData.canLayAll0, lay_ints, PyData.depth, PyData.depthAll, dep_ints]
  rfl
theorem eqv_tw (ns ms : List Int) : PyData.eqv (.tuple [di ns, di ms]) (.tuple [di ns, di ms]) = true := by
  rw [PyData.eqv]
  refine eqvAll_same fun x hx => ?_
  simp only [List.mem_cons, List.not_mem_nil, or_false] at hx
  rcases hx with rfl | rfl <;> rw [eqv_ints, decide_eq_true rfl]
end Sp

/-! what a live pair tells, all of it: k52. -/
namespace Sp
open PySem L2 LamX Tri Xc
noncomputable def ordL (s : R2) : List T3 := Classical.choose (ord_exists s.1 s.2)
theorem ordL_ord (s : R2) : Tri.Ord s.1 s.2 (ordL s) := Classical.choose_spec (ord_exists s.1 s.2)
theorem ordL_len (s : R2) : (ordL s).length = s.1.length * s.2.length := (ordL_ord s).len
/-- the places that are asked -/
def ansP (s : R2) : List Nat := [0, s.1.length * s.2.length / 2, s.1.length * s.2.length - 1]
noncomputable def ansT (s : R2) (j : Nat) : List T3 := ((ansP s).take j).filterMap fun i => (ordL s)[i]?
theorem ansT_zero (s : R2) (h : s.1.length * s.2.length = 0) (j : Nat) : ansT s j = [] := by
  have e : ordL s = [] := List.eq_nil_of_length_eq_zero (by rw [ordL_len, h])
  unfold ansT
  rw [e]
  simp
theorem ansT_next {s : R2} {j i : Nat} {w : T3} (hj : (ansP s)[j]? = some i) (hw : (ordL s)[i]? = some w) : ansT s (j + 1) = ansT s j ++ [w] := by
  have e : (ansP s).take (j + 1) = (ansP s).take j ++ [i] := by
    rw [List.take_succ, hj]
    rfl
  unfold ansT
  rw [e, List.filterMap_append]
  simp [hw]
def ansV (s : R2) (p q : Addr) (ts : List Addr) : List V := [V.int ((cntS s.1 s.2 0 : Nat) : Int), V.int ((cntS s.1 s.2 (-7) : Nat) : Int), V.int ((cntS s.1 s.2 (10 ^ 16) : Nat) : Int), V.ref p, V.ref q, V.int ((cntS s.1 s.2 0 : Nat) : Int)] ++ ts.map V.ref
def AnsAt (S : List Addr) (H : Hp) (r : Addr) (s : R2) : Prop := r ∉ S ∧ ∃ (p q : Addr) (ts : List Addr), p ∉ S ∧ q ∉ S ∧ H r = some (.lst (ansV s p q ts)) ∧ H p = some (.lst (s.1.map V.int)) ∧ H q = some (.lst (s.2.map V.int)) ∧ Trip H ts (ansT s 3)
theorem Lv.trip {T : List (Addr × Str)} {S : List Addr} {H H' : Hp} {ts : List Addr} {L : List T3} (m : Lv T S H H') (t : Trip H ts L) : Trip H' ts L := ⟨t.len, fun j b x h1 h2 => m.tup (t.at_ j b x h1 h2)⟩
theorem AnsAt.lv {T : List (Addr × Str)} {S : List Addr} {H H' : Hp} {r : Addr} {s : R2} (m : Lv T S H H') (h : AnsAt S H r s) : AnsAt S H' r s := by
  obtain ⟨nr, p, q, ts, np, nq, h1, h2, h3, h4⟩ := h
  exact ⟨nr, p, q, ts, np, nq, m.lst h1 nr, m.lst h2 np, m.lst h3 nq, m.trip h4⟩
noncomputable def ansD (s : R2) : PyData := .list (.int ((cntS s.1 s.2 0 : Nat) : Int) :: .int ((cntS s.1 s.2 (-7) : Nat) : Int) :: .int ((cntS s.1 s.2 (10 ^ 16) : Nat) : Int) :: di s.1 :: di s.2 :: .int ((cntS s.1 s.2 0 : Nat) : Int) :: (ansT s 3).map fun w => (dt w : PyData))
theorem dp_ans {K : PySem.W.Frag} {S : List Addr} {H : Hp} {r : Addr} {s : R2} (h : AnsAt S H r s) : Dp K H (.ref r) (ansD s) := by
  obtain ⟨nr, p, q, ts, np, nq, h1, h2, h3, h4⟩ := h
  exact .lst (SqL.new h1) (.cons (.int _) (.cons (.int _) (.cons (.int _) (.cons (dp_ints (SqL.new h2)) (.cons (dp_ints (SqL.new h3)) (.cons (.int _) (dpAll_trips h4)))))))
theorem shaped_ans (s : R2) : SeqAt.shaped (ansD s) = true := by
  have h := dep_trips (ansT s 3)
  unfold ansD SeqAt.shaped
  simp only [PyData.canLay0, PyData.canLayAll0, lay_ints, lay_trips, PyData.depth, PyData.depthAll, dep_ints]
  simp
  omega
theorem eqv_ans (s : R2) : PyData.eqv (ansD s) (ansD s) = true := by
  unfold ansD
  rw [PyData.eqv]
  refine eqvAll_same fun x hx => ?_
  simp only [List.mem_cons, List.mem_map] at hx
  rcases hx with rfl | rfl | rfl | rfl | rfl | rfl | ⟨w, _, rfl⟩
  · exact eqv_i _
  · exact eqv_i _
  · exact eqv_i _
  · rw [eqv_ints, decide_eq_true rfl]
  · rw [eqv_ints, decide_eq_true rfl]
  · exact eqv_i _
  · exact eqv_tri w
def spAns (C : Addr) (TT : List (Addr × Str)) : L2.Sp := fun vs H Q _ => ∃ (g r0 r1 D : Addr) (s : R2) (hist : List R2), vs = [.ref g] ∧ LiveAt C H g r0 r1 D s hist ∧ Tabs TT H ∧
  ∀ (r : Addr) (H' : Hp), Nx TT H H' → (∀ S : List Addr, (∀ c ∈ S, H c ≠ none) → AnsAt S H' r s) → Q (.ref r) H'
def spBack52 (C : Addr) (TT : List (Addr × Str)) : L2.Sp := fun vs H Q _ => ∃ (a g r0 r1 D : Addr) (s : R2) (hist : List R2), vs = [.ref a, .ref g] ∧ DrawAt H a ∧ LiveAt C H g r0 r1 D s hist ∧ Tabs TT H ∧ a ∉ [r0, r1, D] ∧ hist.length ≤ 1000 ∧
  ∀ H', Lv TT [a, r0, r1, D] H H' → DrawAt H' a → Q (.bl true) H'
theorem ins_mem (l : List Int) (n : Int) : n ∈ insR l n := (ins_perm l n).mem_iff.mpr List.mem_cons_self
theorem set_ins_del {s : R2} (g : Gd2 s) (b : Bool) {n : Int} (h : n ∈ sideR s b) : setR (setR s b (delR (sideR s b) n)) b (insR (sideR (setR s b (delR (sideR s b) n)) b) n) = s := by
  rw [set_set, side_set, ins_del (g.fine b).1 ((stands_at (g.fine b).1).mpr h), set_side]
theorem set_del_ins (s : R2) (b : Bool) (n : Int) : setR (setR s b (insR (sideR s b) n)) b (delR (sideR (setR s b (insR (sideR s b) n)) b) n) = s := by
  rw [set_set, side_set, del_ins, set_side]
def putR (s : R2) (e : Bool × Int) : R2 := setR s e.1 (insR (sideR s e.1) e.2)
def putsR (s : R2) (es : List (Bool × Int)) : R2 := es.foldl putR s
theorem ins_comm {l : List Int} (hs : l.Pairwise (· ≤ ·)) (n m : Int) : insR (insR l n) m = insR (insR l m) n := by
  refine sort_one2 ?_ (ins_sorted (ins_sorted hs n) m) (ins_sorted (ins_sorted hs m) n)
  refine (ins_perm _ m).trans (((ins_perm l n).cons m).trans ?_)
  exact (List.Perm.swap n m l).trans (((ins_perm l m).symm.cons n).trans (ins_perm _ n).symm)
theorem put_comm {s : R2} (h1 : s.1.Pairwise (· ≤ ·)) (h2 : s.2.Pairwise (· ≤ ·)) (e f : Bool × Int) : putR (putR s e) f = putR (putR s f) e := by
  obtain ⟨b, n⟩ := e
  obtain ⟨c, m⟩ := f
  obtain ⟨x, y⟩ := s
  cases b <;> cases c
  · simp only [putR, setR, sideR]
    simp [ins_comm (l := x) h1 n m]
  · simp [putR, setR, sideR]
  · simp [putR, setR, sideR]
  · simp only [putR, setR, sideR]
    simp [ins_comm (l := y) h2 n m]
theorem put_len (s : R2) (e : Bool × Int) (b : Bool) : (sideR (putR s e) b).length ≤ (sideR s b).length + 1 := by
  obtain ⟨c, n⟩ := e
  obtain ⟨x, y⟩ := s
  cases b <;> cases c <;> simp [putR, setR, sideR, ins_len]
theorem puts_next {s : R2} {es : List (Bool × Int)} {j : Nat} {e : Bool × Int} (h : es[j]? = some e) : putsR s (es.take (j + 1)) = putR (putsR s (es.take j)) e := by
  unfold putsR
  rw [List.take_succ, h, List.foldl_append]
  rfl
theorem puts_len (b : Bool) : ∀ (es : List (Bool × Int)) (s : R2), (sideR (putsR s es) b).length ≤ (sideR s b).length + es.length
  | [], s => Nat.le_refl _
  | e :: es, s => by
    have h1 := puts_len b es (putR s e)
    have h2 := put_len s e b
    show (sideR (putsR (putR s e) es) b).length ≤ _
    rw [List.length_cons]
    omega
/-- tuples of sides and numbers -/
structure PutsAt (H : Hp) (ts : List Addr) (es : List (Bool × Int)) : Prop where
  len : ts.length = es.length
  at_ : ∀ (j : Nat) (t : Addr) (e : Bool × Int), ts[j]? = some t → es[j]? = some e → H t = some (.tup [.int (if e.1 = true then 1 else 0), .int e.2])
  sm : ∀ e ∈ es, Small e.2
theorem PutsAt.lv {T : List (Addr × Str)} {S : List Addr} {H H' : Hp} {ts : List Addr} {es : List (Bool × Int)} (m : Lv T S H H') (h : PutsAt H ts es) : PutsAt H' ts es := ⟨h.len, fun j t e a b => m.tup (h.at_ j t e a b), h.sm⟩
theorem PutsAt.snoc {H : Hp} {ts : List Addr} {es : List (Bool × Int)} {t : Addr} {e : Bool × Int} (h : PutsAt H ts es) (ht : H t = some (.tup [.int (if e.1 = true then 1 else 0), .int e.2])) (hs : Small e.2) : PutsAt H (ts ++ [t]) (es ++ [e]) := by
  refine ⟨by rw [List.length_append, List.length_append, h.len]; rfl, fun j u x a b => ?_, fun x hx => ?_⟩
  · by_cases c : j < ts.length
    · rw [List.getElem?_append_left c] at a
      rw [List.getElem?_append_left (by rw [← h.len]; exact c)] at b
      exact h.at_ j u x a b
    · rw [List.getElem?_append_right (by omega)] at a
      rw [List.getElem?_append_right (by rw [← h.len]; omega), ← h.len] at b
      cases z : j - ts.length with
      | zero => rw [z] at a b; cases a; cases b; exact ht
      | succ k => rw [z] at a; simp at a
  · rcases List.mem_append.mp hx with m | m
    · exact h.sm x m
    · rw [List.mem_singleton.mp m]; exact hs
theorem PutsAt.rev {H : Hp} {t u : Addr} {e f : Bool × Int} (h : PutsAt H [t, u] [e, f]) : PutsAt H [u, t] [f, e] := by
  refine ⟨rfl, fun j v x a b => ?_, fun x hx => h.sm x (by simp only [List.mem_cons, List.not_mem_nil, or_false] at hx ⊢; exact hx.symm)⟩
  match j, a, b with
  | 0, a, b => cases a; cases b; exact h.at_ 1 _ _ rfl rfl
  | 1, a, b => cases a; cases b; exact h.at_ 0 _ _ rfl rfl
  | j + 2, a, _ => simp at a
def spEither52 (K : PySem.W.Frag) (TT : List (Addr × Str)) : L2.Sp := fun vs H Q _ => ∃ (a b p t : Addr) (s : R2), vs = [.ref a, .ref b] ∧ DrawAt H a ∧ H b = some (.lst [.ref p, .ref t]) ∧ H p = some (.lst (s.1.map V.int)) ∧ H t = some (.lst (s.2.map V.int)) ∧ Fine s.1 ∧ Fine s.2 ∧ s.1.length ≤ 298 ∧ s.2.length ≤ 298 ∧ b ≠ a ∧ p ≠ a ∧ t ≠ a ∧ Tabs TT H ∧
  ∀ H', Lv TT [a] H H' → DrawAt H' a → Q (.bl true) H'
def spTwice52 (TT : List (Addr × Str)) : L2.Sp := fun vs H Q _ => ∃ (a p : Addr) (ns : List Int), vs = [.ref a, .ref p] ∧ DrawAt H a ∧ H p = some (.lst (ns.map V.int)) ∧ Fine ns ∧ ns.length ≤ 298 ∧ p ≠ a ∧
  ∀ H', Lv TT [a] H H' → DrawAt H' a → Q (.bl true) H'
/-- a deed, that keeps what all undone comes to -/
def spDeedB (K : PySem.W.Frag) (C : Addr) (T : List (Addr × Str)) : L2.Sp := fun vs H Q _ => ∃ (M : List Addr) (a g st pl r0 r1 D : Addr) (s : R2) (hist : List R2), vs = [.ref a, .ref g, .ref st] ∧ Wd C T M H a g st pl r0 r1 D s hist ∧ hist.length ≤ 80000 ∧
  ∀ (s' : R2) (hist' : List R2) (H' : Hp), Lv T [a, r0, r1, D, st, pl] H H' → Wd C T M H' a g st pl r0 r1 D s' hist' → hist'.length ≤ hist.length + 1 → (s' :: hist').getLast? = (s :: hist).getLast? → Q (.bl true) H'
end Sp
namespace Sp
open PySem L2 LamX Tri Xc
theorem AnsAt.more {S S' : List Addr} {H : Hp} {r : Addr} {s : R2} (h : AnsAt S H r s) (n : ∀ c ∈ S', c ∈ S ∨ H c = none) : AnsAt S' H r s := by
  obtain ⟨nr, p, q, ts, np, nq, h1, h2, h3, h4⟩ := h
  have go : ∀ {c : Addr} {xs : List V}, c ∉ S → H c = some (.lst xs) → c ∉ S' := fun a e z => by
    rcases n _ z with x | x
    · exact a x
    · rw [x] at e; cases e
  exact ⟨go nr h1, p, q, ts, go np h2, go nq h3, h1, h2, h3, h4⟩
/-- what stays beside: both rows, what was handed in, what was told at first, the other pair -/
structure Bsd (C : Addr) (S : List Addr) (H : Hp) (p3 p9 k g r0 r1 D : Addr) (s : R2) : Prop where
  both : Both S H p3 s
  shared : Both S H p9 s
  kept : AnsAt S H k s
  live : LiveAt C H g r0 r1 D s []
theorem Bsd.lv {T : List (Addr × Str)} {C : Addr} {S : List Addr} {H H' : Hp} {p3 p9 k g r0 r1 D : Addr} {s : R2} (m : Lv T S H H') (n0 : r0 ∉ S) (n1 : r1 ∉ S) (nD : D ∉ S) (h : Bsd C S H p3 p9 k g r0 r1 D s) : Bsd C S H' p3 p9 k g r0 r1 D s :=
  ⟨h.both.lv m, h.shared.lv m, h.kept.lv m, h.live.lv m n0 n1 nD⟩
end Sp

/-! changes undone, changes refused: k50, k49. -/
namespace Sp
open PySem L2 LamX Tri Xc
/-- a change undone, here and there -/
def spBackL (C : Addr) (T : List (Addr × Str)) : L2.Sp := fun vs H Q _ => ∃ (M : List Addr) (a g st pl r0 r1 D : Addr) (s p : R2) (rest : List R2), vs = [.ref g, .ref st] ∧ Wd C T M H a g st pl r0 r1 D s (p :: rest) ∧
  ∀ H', Lv T [r0, r1, D, st, pl] H H' → Wd C T M H' a g st pl r0 r1 D p rest → Q (.bl true) H'
def spManyL (TT : List (Addr × Str)) : L2.Sp := fun vs H Q _ => ∃ (a b p t : Addr) (s : R2), vs = [.ref a, .ref b] ∧ DrawAt H a ∧ H b = some (.lst [.ref p, .ref t]) ∧ H p = some (.lst (s.1.map V.int)) ∧ H t = some (.lst (s.2.map V.int)) ∧ Fine s.1 ∧ Fine s.2 ∧ s.1.length ≤ 12 ∧ s.2.length ≤ 12 ∧ b ≠ a ∧ p ≠ a ∧ t ≠ a ∧ Tabs TT H ∧
  ∀ H', Lv TT [a] H H' → DrawAt H' a → Q (.bl true) H'
/-- what has been piled up is the history -/
def PileAt (S : List Addr) (H : Hp) (pl : Addr) (hist : List R2) : Prop := ∃ bs : List Addr, H pl = some (.lst (bs.map V.ref)) ∧ bs.length = hist.length ∧ ∀ (j : Nat) (c : Addr) (x : R2), bs[j]? = some c → hist.reverse[j]? = some x → Both S H c x
theorem PileAt.lv {T : List (Addr × Str)} {S S' : List Addr} {H H' : Hp} {pl : Addr} {hist : List R2} (m : Lv T S' H H') (h : ∀ c ∈ S', c ∈ S) (n : pl ∉ S') (p : PileAt S H pl hist) : PileAt S H' pl hist := by
  obtain ⟨bs, e, l, at_⟩ := p
  exact ⟨bs, m.lst e n, l, fun j c x h1 h2 => (at_ j c x h1 h2).lv (m.mono h)⟩
theorem PileAt.push {T : List (Addr × Str)} {S : List Addr} {H : Hp} {pl b : Addr} {s : R2} {hist : List R2} {bs : List Addr} (e : H pl = some (.lst (bs.map V.ref))) (l : bs.length = hist.length) (at_ : ∀ (j : Nat) (c : Addr) (x : R2), bs[j]? = some c → hist.reverse[j]? = some x → Both S H c x) (hb : Both S H b s) (hm : pl ∈ S) :
    Lv T S H (upd H pl (.lst (bs.map V.ref ++ [V.ref b]))) ∧ PileAt S (upd H pl (.lst (bs.map V.ref ++ [V.ref b]))) pl (s :: hist) := by
  have m : Lv T S H (upd H pl (.lst (bs.map V.ref ++ [V.ref b]))) := .put e hm
  refine ⟨m, bs ++ [b], by rw [upd_same, List.map_append]; rfl, by rw [List.length_append, l]; rfl, fun j c x h1 h2 => ?_⟩
  rw [List.reverse_cons] at h2
  by_cases cj : j < bs.length
  · rw [List.getElem?_append_left cj] at h1
    rw [List.getElem?_append_left (by rw [List.length_reverse, ← l]; exact cj)] at h2
    exact (at_ j c x h1 h2).lv m
  · rw [List.getElem?_append_right (by omega)] at h1
    rw [List.getElem?_append_right (by rw [List.length_reverse, ← l]; omega), List.length_reverse, ← l] at h2
    cases z : j - bs.length with
    | zero => rw [z] at h1 h2; cases h1; cases h2; exact hb.lv m
    | succ k => rw [z] at h1; simp at h1
/-- the last of the pile -/
theorem PileAt.pop {S : List Addr} {H : Hp} {pl : Addr} {p : R2} {rest : List R2} (h : PileAt S H pl (p :: rest)) : ∃ (cs : List Addr) (c : Addr), H pl = some (.lst ((cs ++ [c]).map V.ref)) ∧ Both S H c p ∧ cs.length = rest.length ∧ ∀ (j : Nat) (c : Addr) (x : R2), cs[j]? = some c → rest.reverse[j]? = some x → Both S H c x := by
  obtain ⟨bs, e, lbs, Bs⟩ := h
  obtain ⟨cs, c, rfl⟩ : ∃ cs c, bs = cs ++ [c] := by
    rcases List.eq_nil_or_concat bs with z | ⟨m, v, z⟩
    · rw [z] at lbs; cases lbs
    · exact ⟨m, v, by rw [z, List.concat_eq_append]⟩
  have lcs : cs.length = rest.length := by
    rw [List.length_append, List.length_cons] at lbs
    exact Nat.succ.inj lbs
  exact ⟨cs, c, e, Bs cs.length c p (by rw [List.getElem?_append_right (Nat.le_refl _), Nat.sub_self]; rfl) (by rw [List.reverse_cons, List.getElem?_append_right (by rw [List.length_reverse]; omega), List.length_reverse, lcs, Nat.sub_self]; rfl), lcs,
    fun j c x h1 h2 => Bs j c x (by rw [List.getElem?_append_left (List.getElem?_eq_some_iff.mp h1).1]; exact h1) (by rw [List.reverse_cons, List.getElem?_append_left (List.getElem?_eq_some_iff.mp h2).1]; exact h2)⟩
end Sp
namespace Sp
open PySem L2 LamX Tri Xc
/-- what the top has written of the class NoNumber, which is raised and caught by its own name -/
structure NoNm (K : PySem.W.Frag) (mg : Str → Option Value) (C : Addr) : Prop where
  gC : mg "NoNumber" = some (.ref C)
  xC : PySem.W.excIn K C [.type "ValueError", .type "Exception", .type "BaseException", .type "object"] "ValueError.__new__" = true
  kC : PySem.W.keepIn K (.ref C) = true
  bC : PySem.W.subIn K (.ref C) (.type "BaseException") = some true
  tC : PySem.W.typeIn K (.ref C) = some (.type "type")
  eC : PySem.W.exmOne K (.ref C) (.ref C) = some true
def spLTakeR (C CN : Addr) : L2.Sp := fun vs H _ E => ∃ (g r0 r1 D : Addr) (b : Bool) (n : Int) (s : R2) (hist : List R2), vs = [.ref g, .int (if b = true then 1 else 0), .int n] ∧ LiveAt C H g r0 r1 D s hist ∧ n ∉ sideR s b ∧ E (.ref CN) none H
def spRef50 (C : Addr) : L2.Sp := fun vs H Q _ => ∃ (g r0 r1 D : Addr) (s : R2) (hist : List R2), vs = [.ref g] ∧ LiveAt C H g r0 r1 D s hist ∧ ∀ H', Same H H' → Q (.bl true) H'
end Sp
namespace Sp
open PySem L2 LamX Tri Xc
theorem Both.add {S S' : List Addr} {H H' : Hp} {b p : Addr} {s : R2} (h : Both S H b s) (n : H p = none) (sm : Same H H') (hS : ∀ c ∈ S', c ∈ S ∨ c = p) : Both S' H' b s := by
  obtain ⟨nb, x, y, e, nx, ny, h1, h2⟩ := h
  have go : ∀ {c : Addr} {xs : List V}, c ∉ S → H c = some (.lst xs) → c ∉ S' := fun a e z => by
    rcases hS _ z with w | w
    · exact a w
    · rw [w, n] at e; cases e
  exact ⟨go nb e, x, y, sm _ _ e, go nx h1, go ny h2, sm _ _ h1, sm _ _ h2⟩
/-- a new list beside -/
theorem Wd.add {C : Addr} {T : List (Addr × Str)} {H H' : Hp} {a g st pl r0 r1 D p : Addr} {s : R2} {hist : List R2} {xs : List V} (W : Wd C T [] H a g st pl r0 r1 D s hist) (n : H p = none) (sm : Same H H') (e : H' p = some (.lst xs)) : Wd C T [p] H' a g st pl r0 r1 D s hist := by
  have W' := W.same sm
  have np := W.new n
  have hS : ∀ c ∈ (a :: r0 :: r1 :: D :: st :: pl :: [p]), c ∈ (a :: r0 :: r1 :: D :: st :: pl :: []) ∨ c = p := fun c hc => by
    simp only [List.mem_cons, List.not_mem_nil, or_false] at hc ⊢
    rcases hc with h | h | h | h | h | h | h <;> simp [h]
  obtain ⟨b, bs, e1, e2, e3, e4, e5⟩ := W.state
  refine ⟨W'.draws, W'.live, ⟨b, bs, sm _ _ e1, sm _ _ e2, e3.add n sm hS, e4, fun j c x h1 h2 => (e5 j c x h1 h2).add n sm hS⟩, fun c hc => ?_, ?_, W'.tabs⟩
  · rw [List.mem_singleton.mp hc]
    exact ⟨_, e⟩
  · have nds := W.nd
    simp only [List.nodup_cons, List.mem_cons, List.not_mem_nil, or_false, not_or, List.nodup_nil, and_true, not_false_eq_true] at nds np ⊢
    obtain ⟨q1, q2, q3, q4, q5, q6⟩ := np
    obtain ⟨⟨a1, a2, a3, a4, a5⟩, ⟨b1, b2, b3, b4⟩, ⟨c1, c2, c3⟩, ⟨d1, d2⟩, f1⟩ := nds
    exact ⟨⟨a1, a2, a3, a4, a5, Ne.symm q1⟩, ⟨b1, b2, b3, b4, Ne.symm q2⟩, ⟨c1, c2, c3, Ne.symm q3⟩, ⟨d1, d2, Ne.symm q4⟩, ⟨f1, Ne.symm q5⟩, Ne.symm q6⟩
/-- the live pair went, and came back -/
theorem Wd.relive {C : Addr} {T : List (Addr × Str)} {M : List Addr} {H H' : Hp} {a g st pl r0 r1 D : Addr} {s : R2} {hist : List R2} (W : Wd C T M H a g st pl r0 r1 D s hist) (m : Lv T [r0, r1, D] H H') (L : LiveAt C H' g r0 r1 D s hist) : Wd C T M H' a g st pl r0 r1 D s hist := by
  have nds := W.nd
  simp only [List.nodup_cons, List.mem_cons, not_or] at nds
  obtain ⟨⟨na0, na1, naD, nas, nap, naM⟩, ⟨n01, n0D, n0s, n0p, n0M⟩, ⟨n1D, n1s, n1p, n1M⟩, ⟨nDs, nDp, nDM⟩, ⟨nsp, nsM⟩, npM, nM⟩ := nds
  have o4 : ∀ c, c ≠ r0 → c ≠ r1 → c ≠ D → c ∉ [r0, r1, D] := fun c h1 h2 h3 => by simp [h1, h2, h3]
  have mS : Lv T (a :: r0 :: r1 :: D :: st :: pl :: M) H H' := m.mono fun c => in3
  obtain ⟨b, bs, e1, e2, e3, e4, e5⟩ := W.state
  refine ⟨m.draws (o4 _ na0 na1 naD) W.draws, L, ⟨b, bs, m.lst e1 (o4 _ (Ne.symm n0s) (Ne.symm n1s) (Ne.symm nDs)), m.lst e2 (o4 _ (Ne.symm n0p) (Ne.symm n1p) (Ne.symm nDp)), e3.lv mS, e4, fun j c x h1 h2 => (e5 j c x h1 h2).lv mS⟩, fun c hc => ?_, W.nd, m.tabs W.tabs⟩
  obtain ⟨xs, e⟩ := W.exM c hc
  have nc : ∀ {d}, d ∉ M → c ≠ d := fun h z => h (z ▸ hc)
  exact ⟨xs, m.lst e (o4 _ (nc n0M) (nc n1M) (nc nDM))⟩
end Sp

/-! what is no pair of places. -/
namespace Sp
open PySem L2 LamX Tri Xc
theorem TyX.mv {K : PySem.W.Frag} {H H' : Hp} {v : V} {t : Value} (kp : ∀ {p : Addr} {o : HO}, H p = some o → (∀ l, o ≠ .lst l) → H' p = some o) (kl : ∀ {p : Addr} {l : List V}, H p = some (.lst l) → ∃ l', H' p = some (.lst l')) (ty : TyX K H v t) : TyX K H' v t := by
  cases ty with
  | base b =>
    cases b with
    | non => exact .base .non
    | bl y => exact .base (.bl y)
    | int i => exact .base (.int i)
    | str y => exact .base (.str y)
    | flt y => exact .base (.flt y)
    | lst e => obtain ⟨l', e'⟩ := kl e; exact .base (.lst e')
    | frz e => exact .base (.frz (kp e fun _ z => nomatch z))
    | tup e => exact .base (.tup (kp e fun _ z => nomatch z))
    | dK e => exact .base (.dK (kp e fun _ z => nomatch z))
    | dT e => exact .base (.dT (kp e fun _ z => nomatch z))
    | ins e c1 c2 c3 c4 c5 => exact .base (.ins (kp e fun _ z => nomatch z) c1 c2 c3 c4 c5)
  | byt b => exact .byt b
  | set e => exact .set (kp e fun _ z => nomatch z)
  | kList e c => exact .kList e c
  | kTuple e c => exact .kTuple e c
  | kDict e c => exact .kDict e c
  | fTuple e => exact .fTuple (kp e fun _ z => nomatch z)
  | fDict e => exact .fDict (kp e fun _ z => nomatch z)
theorem TyX.extD {K : PySem.W.Frag} {a : Addr} {H H' : Hp} {v : V} {t : Value} (x : ExtD a H H') (h : DrawAt H a) (ty : TyX K H v t) : TyX K H' v t := by
  refine TyX.mv (fun {p o} e n => x.keep p o e fun z => ?_) (fun {p l} e => ?_) ty
  · obtain ⟨u, e1, _⟩ := h
    rw [z, e1] at e
    exact n _ (Option.some.inj e).symm
  · by_cases z : p = a
    · obtain ⟨u, e1, _⟩ := x.hand h
      exact ⟨_, by rw [z]; exact e1⟩
    · exact ⟨_, x.keep p _ e z⟩
theorem Bad.extD {K : PySem.W.Frag} {a : Addr} {H H' : Hp} {x : V} {m : Int} (e : ExtD a H H') (h : DrawAt H a) (b : Bad K H x m) : Bad K H' x m := b.imp id fun ⟨t, n, y⟩ => ⟨t, n, TyX.extD e h y⟩
/-- what is no tuple -/
def NoTup (K : PySem.W.Frag) (H : Hp) (x : V) : Prop := ∃ T, T ∈ ["int", "bool", "str", "NoneType", "list", "dict"] ∧ TyX K H x (.type T)
theorem NoTup.up {K : PySem.W.Frag} {H H' : Hp} {x : V} (s : Same H H') (h : NoTup K H x) : NoTup K H' x := let ⟨T, m, t⟩ := h; ⟨T, m, TyX.up s t⟩
/-- what is no pair (place of the one, place of the other) -/
def BadPair (K : PySem.W.Frag) (H : Hp) (x : V) (n m : Int) : Prop := NoTup K H x ∨ (∃ (t : Addr) (xs : List V), x = .ref t ∧ H t = some (.tup xs) ∧ xs.length ≠ 2) ∨ (∃ (t : Addr) (u v : V), x = .ref t ∧ H t = some (.tup [u, v]) ∧ Bad K H u n) ∨ ∃ (t : Addr) (i : Int) (v : V), x = .ref t ∧ H t = some (.tup [.int i, v]) ∧ 0 ≤ i ∧ i < n ∧ Bad K H v m
theorem BadPair.up {K : PySem.W.Frag} {H H' : Hp} {x : V} {n m : Int} (s : Same H H') (h : BadPair K H x n m) : BadPair K H' x n m := by
  rcases h with h | ⟨t, xs, e, h, l⟩ | ⟨t, u, v, e, h, b⟩ | ⟨t, i, v, e, h, h0, h1, b⟩
  · exact .inl (h.up s)
  · exact .inr (.inl ⟨t, xs, e, s _ _ h, l⟩)
  · exact .inr (.inr (.inl ⟨t, u, v, e, s _ _ h, b.up s⟩))
  · exact .inr (.inr (.inr ⟨t, i, v, e, s _ _ h, h0, h1, b.up s⟩))
/-- a list of its own may change -/
theorem BadPair.put {K : PySem.W.Frag} {H : Hp} {p : Addr} {l l' : List V} {x : V} {n m : Int} (hp : H p = some (.lst l)) (h : BadPair K H x n m) : BadPair K (upd H p (.lst l')) x n m := by
  have kp : ∀ {b : Addr} {o : HO}, H b = some o → (∀ l, o ≠ .lst l) → (upd H p (.lst l')) b = some o := fun {b o} e z => by
    rw [upd_ne (fun c => by rw [c, hp] at e; exact z _ (Option.some.inj e).symm)]
    exact e
  have kl : ∀ {b : Addr} {u : List V}, H b = some (.lst u) → ∃ l2, (upd H p (.lst l')) b = some (.lst l2) := fun {b u} e => by
    by_cases c : b = p
    · exact ⟨l', by rw [c]; exact upd_same⟩
    · exact ⟨u, by rw [upd_ne c]; exact e⟩
  have bd : ∀ {y : V} {k : Int}, Bad K H y k → Bad K (upd H p (.lst l')) y k := fun b => b.imp id fun ⟨t, n, y⟩ => ⟨t, n, TyX.mv kp kl y⟩
  rcases h with ⟨T, m, t⟩ | ⟨t, xs, e, h, l⟩ | ⟨t, u, v, e, h, b⟩ | ⟨t, i, v, e, h, h0, h1, b⟩
  · exact .inl ⟨T, m, TyX.mv kp kl t⟩
  · exact .inr (.inl ⟨t, xs, e, kp h (fun _ z => nomatch z), l⟩)
  · exact .inr (.inr (.inl ⟨t, u, v, e, kp h (fun _ z => nomatch z), bd b⟩))
  · exact .inr (.inr (.inr ⟨t, i, v, e, kp h (fun _ z => nomatch z), h0, h1, bd b⟩))
/-- a first that is drawn, a second that is none -/
theorem BadPair.second {K : PySem.W.Frag} {H : Hp} {t : Addr} {i : Int} {v : V} {n m : Int} (h : H t = some (.tup [.int i, v])) (b : Bad K H v m) : BadPair K H (.ref t) n m := by
  by_cases c : 0 ≤ i ∧ i < n
  · exact .inr (.inr (.inr ⟨t, i, v, rfl, h, c.1, c.2, b⟩))
  · exact .inr (.inr (.inl ⟨t, _, v, rfl, h, .out c⟩))
theorem BadPair.first {K : PySem.W.Frag} {H : Hp} {t : Addr} {u v : V} {n m : Int} (h : H t = some (.tup [u, v])) (b : Bad K H u n) : BadPair K H (.ref t) n m := .inr (.inr (.inl ⟨t, u, v, rfl, h, b⟩))
theorem BadPair.long {K : PySem.W.Frag} {H : Hp} {t : Addr} {xs : List V} {n m : Int} (h : H t = some (.tup xs)) (l : xs.length ≠ 2) : BadPair K H (.ref t) n m := .inr (.inl ⟨t, xs, rfl, h, l⟩)
section
variable {K : PySem.W.Frag} {H : Hp} {n m : Int} {p : Addr}
theorem bp_lst {xs : List V} (h : H p = some (.lst xs)) : BadPair K H (.ref p) n m := .inl ⟨"list", by decide, .base (.lst h)⟩
theorem bp_dct {kvs : List (Key × V)} (h : H p = some (.dK kvs)) : BadPair K H (.ref p) n m := .inl ⟨"dict", by decide, .base (.dK h)⟩
theorem bp_non : BadPair K H .non n m := .inl ⟨"NoneType", by decide, .base .non⟩
theorem bp_bl {b : Bool} : BadPair K H (.bl b) n m := .inl ⟨"bool", by decide, .base (.bl b)⟩
theorem bp_int {i : Int} : BadPair K H (.int i) n m := .inl ⟨"int", by decide, .base (.int i)⟩
theorem bp_str {z : Str} : BadPair K H (.str z) n m := .inl ⟨"str", by decide, .base (.str z)⟩
end
def spPairR (K : PySem.W.Frag) (C : Addr) : L2.Sp := fun vs H _ E => ∃ (p q : Addr) (xs ys : List V) (x : V), vs = [x, .ref p, .ref q] ∧ SqL K H p xs ∧ SqL K H q ys ∧ BadPair K H x xs.length ys.length ∧ E (.ref C) none H
def spPlaceR (K : PySem.W.Frag) (C : Addr) : L2.Sp := fun vs H _ E => ∃ (p q : Addr) (xs ys : List V) (x : V), vs = [.ref p, .ref q, x] ∧ SqL K H p xs ∧ SqL K H q ys ∧ BadPair K H x xs.length ys.length ∧ E (.ref C) none H
def spRefused43 (K : PySem.W.Frag) : L2.Sp := fun vs H Q _ => ∃ (p q : Addr) (xs ys : List V) (x : V), vs = [.ref p, .ref q, x] ∧ SqL K H p xs ∧ SqL K H q ys ∧ BadPair K H x xs.length ys.length ∧ ∀ H', Same H H' → Q (.bl true) H'
def spDeepL (K : PySem.W.Frag) : L2.Sp := fun vs H Q _ => ∃ k : Nat, vs = [.int (k : Int)] ∧ k ≤ 5000 ∧ ∀ (t : Addr) (l : List V) (H' : Hp), Same H H' → H' t = some (.lst l) → Q (.ref t) H'
def spOdd43 (K : PySem.W.Frag) : L2.Sp := fun vs H Q _ => ∃ (a : Addr) (n : Nat), vs = [.ref a, .int (n : Int)] ∧ DrawAt H a ∧ n ≤ 300 ∧ ∀ (x : V) (H' : Hp), ExtD a H H' → Bad K H' x n → Q x H'
def spNoPairs43 (K : PySem.W.Frag) : L2.Sp := fun vs H Q _ => ∃ (a p q : Addr) (ns ms : List Int), vs = [.ref a, .ref p, .ref q] ∧ DrawAt H a ∧ RowAt H a p ns ∧ RowAt H a q ms ∧ ∀ (r : Addr) (xs : List V) (H' : Hp), ExtD a H H' → H r = none → H' r = some (.lst xs) → (∀ x ∈ xs, BadPair K H' x ns.length ms.length) → Q (.ref r) H'
end Sp

/-! changes refused: k49. -/
namespace Lx
open PySem PySem.Spec PyProof.Rows L2
theorem count_flat {y : V} : ∀ {ys : List V} {us : List Value}, Vals ys us → ys.all flatV = true → us.countP (eqU y) = ys.countP fun z => eqV z y
  | _, _, .nil, _ => rfl
  | z :: ys, u :: us, .cons r t, f => by
    rw [List.all_cons, Bool.and_eq_true] at f
    rw [List.countP_cons, List.countP_cons, count_flat t f.2, eqU_of r f.1]
/-- how many of a list of flat things are like one -/
def rCntF (K : PySem.W.Frag) : V → List V → Hp → VK → Prop := fun x xs H Q => ∃ (p : Addr) (ys : List V) (y : V), x = .ref p ∧ xs = [y] ∧ SqL K H p ys ∧ flatV y = true ∧ ys.all flatV = true ∧ Q (.int (ys.countP (fun z => eqV z y) : Nat)) H
section
variable {X : Cx}
theorem mt_lcountF : MtR X "list.count" (rCntF X.K) := by
  intro pins s σ H x xs v us Q I rx rxs h
  obtain ⟨p, ys, y, rfl, rfl, hs, fy, fys, q⟩ := h
  cases rx
  obtain ⟨u, rfl, ru⟩ := rxs.one
  obtain ⟨its, rv, ⟨⟨cls, dd, data, sl⟩, n, ho, hc, hdn, hd⟩, hlen⟩ := I.list hs
  simp only at hc hd
  subst hc hd
  refine call_meets PySem.F.slot_list_count ⟨_, ho, rfl⟩ PySem.F.entry_list_count (PySem.F.args_list_count_2 _ _)
    (SeqAt.list_countAt p its.toArray n dd sl u (eqU y)) ⟨ho, fun w hw => mem_eqAt ru fy rv fys w (by simpa using hw), ?_⟩
  have ec : its.toArray.toList.countP (eqU y) = ys.countP fun z => eqV z y := count_flat rv fys
  refine ⟨.int _, H, I.tok _, ⟨s.toks, ?_⟩, q⟩
  show Value.int ((its.toArray.toList.countP (eqU y) : Nat) : Int) s.toks = Value.int _ s.toks
  rw [ec]
/-- isinstance of a kept exception, whatever its class -/
def rIsAny (K : PySem.W.Frag) : List V → Hp → VK → Prop := fun xs H Q => ∃ D, ExcC K D ∧ Xc.rIsK K D xs H Q
theorem call_isAny : CallR X (.builtin "isinstance") (rIsAny X.K) := by
  intro pins s σ H xs us Q I r h
  obtain ⟨D, C, h⟩ := h
  exact Xc.call_isK C pins s σ H xs us Q I r h
theorem op_notIn_K {K : PySem.W.Frag} (h : X.K = K) : OpR X (compareOp .NotIn) (rIn K true) := by
  subst h
  exact op_notIn_seq
end
end Lx
namespace Sp
open PySem L2 LamX Tri Xc
/-- what the top has written of a class that is raised, and caught by the name of the class over it -/
structure Rsd (K : PySem.W.Frag) (mg : Str → Option Value) (x : Str) (C S : Addr) : Prop where
  gC : mg x = some (.ref C)
  xC : PySem.W.excIn K C [.type "ValueError", .type "Exception", .type "BaseException", .type "object"] "ValueError.__new__" = true
  kC : PySem.W.keepIn K (.ref C) = true
  bC : PySem.W.subIn K (.ref C) (.type "BaseException") = some true
  tC : PySem.W.typeIn K (.ref C) = some (.type "type")
  eC : PySem.W.exmOne K (.ref C) (.ref S) = some true
  is : ExcC K C
/-- of which classes it is one -/
structure Kin (K : PySem.W.Frag) (C C1 C4 C2 C3 CP : Addr) (b2 b3 bp : Bool) : Prop where
  no : PySem.W.kitAny K (.ref C) [.ref C1, .ref C4] = some false
  val : PySem.W.kitOne K (.ref C) (.type "ValueError") = some true
  k2 : PySem.W.kitOne K (.ref C) (.ref C2) = some b2
  k3 : PySem.W.kitOne K (.ref C) (.ref C3) = some b3
  kp : PySem.W.kitOne K (.ref C) (.ref CP) = some bp
/-- all that is raised here -/
structure Rsds (K : PySem.W.Frag) (mg : Str → Option Value) (CP C1 C2 C3 C4 CS : Addr) : Prop where
  gS : mg "SumError" = some (.ref CS)
  g1 : mg "NoCommand" = some (.ref C1)
  g4 : mg "NoText" = some (.ref C4)
  side : Rsd K mg "NoSide" C2 CS
  num : Rsd K mg "NoNumber" C3 CS
  plc : Rsd K mg "NoPlace" CP CS
  kSide : Kin K C2 C1 C4 C2 C3 CP true false false
  kNum : Kin K C3 C1 C4 C2 C3 CP false true false
  kPlc : Kin K CP C1 C4 C2 C3 CP false false true
def sideI (b : Bool) : V := .int (if b = true then 1 else 0)
/-- no side; no number that can be put, taken there -/
def PutBad (K : PySem.W.Frag) (H : Hp) (s : R2) (x y : V) (i : Nat) : Prop := (i = 0 ∧ Bad K H x 2) ∨ (i = 1 ∧ ∃ b, x = sideI b ∧ (NoInt K H y ∨ ∃ n, y = .int n ∧ 300 ≤ (sideR s b).length))
def TakeBad (K : PySem.W.Frag) (H : Hp) (s : R2) (x y : V) (i : Nat) : Prop := (i = 0 ∧ Bad K H x 2) ∨ (i = 1 ∧ ∃ b, x = sideI b ∧ (NoInt K H y ∨ ∃ n, y = .int n ∧ n ∉ sideR s b))
def clsI (C2 C3 CP : Addr) (i : Nat) : Addr := if i = 0 then C2 else if i = 1 then C3 else CP
def spLRowR (K : PySem.W.Frag) (C C2 : Addr) : L2.Sp := fun vs H _ E => ∃ (g r0 r1 D : Addr) (x : V) (s : R2) (hist : List R2), vs = [.ref g, x] ∧ LiveAt C H g r0 r1 D s hist ∧ Bad K H x 2 ∧ E (.ref C2) none H
def spLPutR2 (K : PySem.W.Frag) (C C2 C3 CP : Addr) : L2.Sp := fun vs H _ E => ∃ (g r0 r1 D : Addr) (x y : V) (i : Nat) (s : R2) (hist : List R2), vs = [.ref g, x, y] ∧ LiveAt C H g r0 r1 D s hist ∧ PutBad K H s x y i ∧ E (.ref (clsI C2 C3 CP i)) none H
def spLTakeR2 (K : PySem.W.Frag) (C C2 C3 CP : Addr) : L2.Sp := fun vs H _ E => ∃ (g r0 r1 D : Addr) (x y : V) (i : Nat) (s : R2) (hist : List R2), vs = [.ref g, x, y] ∧ LiveAt C H g r0 r1 D s hist ∧ TakeBad K H s x y i ∧ E (.ref (clsI C2 C3 CP i)) none H
def spLAtR (K : PySem.W.Frag) (C CP : Addr) : L2.Sp := fun vs H _ E => ∃ (g r0 r1 D : Addr) (y : V) (s : R2) (hist : List R2), vs = [.ref g, y] ∧ LiveAt C H g r0 r1 D s hist ∧ Bad K H y ((s.1.length : Int) * (s.2.length : Int)) ∧ E (.ref CP) none H
/-- what is asked and refused, by the way in which it is asked -/
def AskBad (K : PySem.W.Frag) (H : Hp) (s : R2) (way : Int) (x y : V) (i : Nat) : Prop := (way = 0 ∧ PutBad K H s x y i) ∨ (way = 1 ∧ TakeBad K H s x y i) ∨ (way = 2 ∧ i = 2 ∧ Bad K H y ((s.1.length : Int) * (s.2.length : Int)))
def spCaught49 (K : PySem.W.Frag) (C : Addr) : L2.Sp := fun vs H Q _ => ∃ (g r0 r1 D : Addr) (way : Int) (x y : V) (i : Nat) (s : R2) (hist : List R2), vs = [.ref g, .int way, x, y] ∧ LiveAt C H g r0 r1 D s hist ∧ AskBad K H s way x y i ∧ ∀ H', Same H H' → Q (.int (i : Int)) H'
def spOdd49 (K : PySem.W.Frag) : L2.Sp := fun vs H Q _ => ∃ (a : Addr), vs = [.ref a] ∧ DrawAt H a ∧ ∀ (x : V) (H' : Hp), ExtD a H H' → NoInt K H' x → Q x H'
def spNoSide49 (K : PySem.W.Frag) : L2.Sp := fun vs H Q _ => ∃ (a : Addr), vs = [.ref a] ∧ DrawAt H a ∧ ∀ (x : V) (H' : Hp), ExtD a H H' → Bad K H' x 2 → Q x H'
def spNotThere49 : L2.Sp := fun vs H Q _ => ∃ (a p : Addr) (ns : List Int), vs = [.ref a, .ref p] ∧ DrawAt H a ∧ H p = some (.lst (ns.map V.int)) ∧ p ≠ a ∧ ns.length ≤ 1000 ∧ Fine ns ∧ ∀ (n : Int) (H' : Hp), ExtD a H H' → n ∉ ns → Q (.int n) H'
def spNoPlace49 (K : PySem.W.Frag) : L2.Sp := fun vs H Q _ => ∃ (a : Addr) (m : Int), vs = [.ref a, .int m] ∧ DrawAt H a ∧ 0 ≤ m ∧ m ≤ 90000 ∧ ∀ (x : V) (H' : Hp), ExtD a H H' → Bad K H' x m → Q x H'
def spRefused49 (K : PySem.W.Frag) (C : Addr) : L2.Sp := fun vs H Q _ => ∃ (a g r0 r1 D b p q : Addr) (s : R2) (hist : List R2), vs = [.ref a, .ref g, .ref b] ∧ DrawAt H a ∧ LiveAt C H g r0 r1 D s hist ∧ r0 ≠ a ∧ r1 ≠ a ∧ D ≠ a ∧ H b = some (.lst [.ref p, .ref q]) ∧ b ≠ a ∧ p ≠ a ∧ q ≠ a ∧ H p = some (.lst (s.1.map V.int)) ∧ H q = some (.lst (s.2.map V.int)) ∧
  ∀ H', ExtD a H H' → Q (.bl true) H'
def spGood49 (C : Addr) (T : List (Addr × Str)) : L2.Sp := fun vs H Q _ => ∃ (M : List Addr) (a g st pl r0 r1 D : Addr) (s : R2) (hist : List R2), vs = [.ref a, .ref g, .ref st] ∧ Wd C T M H a g st pl r0 r1 D s hist ∧ hist.length ≤ 80000 ∧
  ∀ H', Lv T [a, r0, r1, D] H H' → Wd C T M H' a g st pl r0 r1 D s hist → Q (.bl true) H'
def spStart49 : L2.Sp := fun vs H Q _ => ∃ (a : Addr), vs = [.ref a] ∧ DrawAt H a ∧ ∀ (p : Addr) (us : List Int) (H' : Hp), ExtD a H H' → H p = none → H' p = some (.lst (us.map V.int)) → us.length ≤ 300 → Fine us → Q (.ref p) H'
theorem LiveAt.extD {C a : Addr} {H H' : Hp} {g r0 r1 D : Addr} {s : R2} {hist : List R2} (x : ExtD a H H') (h : DrawAt H a) (n0 : r0 ≠ a) (n1 : r1 ≠ a) (nD : D ≠ a) (l : LiveAt C H g r0 r1 D s hist) : LiveAt C H' g r0 r1 D s hist :=
  l.lv (TT := []) (S := [a]) (.ext x h (by simp)) (by simpa using n0) (by simpa using n1) (by simpa using nD)
end Sp
namespace Sp
open PySem L2 LamX Tri Xc
theorem NoInt.extD {K : PySem.W.Frag} {a : Addr} {H H' : Hp} {x : V} (e : ExtD a H H') (h : DrawAt H a) (b : NoInt K H x) : NoInt K H' x := let ⟨t, n, y⟩ := b; ⟨t, n, TyX.extD e h y⟩
end Sp
namespace Lx
open PySem L2
theorem flat_ints (ns : List Int) : (ns.map V.int).all flatV = true := List.all_eq_true.mpr fun x h => by
  obtain ⟨n, _, rfl⟩ := List.mem_map.mp h
  rfl
theorem inV_ints (x : Int) : ∀ ns : List Int, inV (.int x) (ns.map V.int) = decide (x ∈ ns)
  | [] => rfl
  | y :: ns => by
    have ih := inV_ints x ns
    unfold inV at ih ⊢
    rw [List.map_cons, List.any_cons, ih]
    show ((y == x) || decide (x ∈ ns)) = decide (x ∈ y :: ns)
    by_cases c : y = x
    · subst c
      simp
    · rw [show (y == x) = false from by simpa using c, Bool.false_or, decide_eq_decide, List.mem_cons]
      exact ⟨.inr, fun h => h.elim (fun z => absurd z.symm c) id⟩
end Lx
namespace Sp
open PySem L2 LamX Tri Xc
theorem small_log {n : Int} (h : Small n) : n.natAbs.log2 < 1920 := by
  by_cases c : n.natAbs = 0
  · rw [c]
    decide
  · rw [Nat.log2_lt c]
    refine Nat.lt_of_lt_of_le (m := 2 ^ 50) ?_ (Nat.pow_le_pow_right (by decide) (by decide))
    have h1 := h.1
    have h2 := h.2
    have e : (2 : Nat) ^ 50 = 1125899906842624 := by decide
    omega
theorem ask_side {K : PySem.W.Frag} {H : Hp} {s : R2} {way : Int} {x y : V} (h : way = 0 ∨ way = 1) (b : Bad K H x 2) : AskBad K H s way x y 0 := by
  rcases h with h | h
  · exact .inl ⟨h, .inl ⟨rfl, b⟩⟩
  · exact .inr (.inl ⟨h, .inl ⟨rfl, b⟩⟩)
theorem ask_num {K : PySem.W.Frag} {H : Hp} {s : R2} {way : Int} {y : V} (bb : Bool) (h : way = 0 ∨ way = 1) (b : NoInt K H y) : AskBad K H s way (sideI bb) y 1 := by
  rcases h with h | h
  · exact .inl ⟨h, .inr ⟨rfl, bb, rfl, .inl b⟩⟩
  · exact .inr (.inl ⟨h, .inr ⟨rfl, bb, rfl, .inl b⟩⟩)
end Sp
namespace Sp
open PySem L2 LamX Tri Xc
def stepL (st : Int) (k : Nat) : List Int := (List.range k).map fun i => ((i : Nat) : Int) * st / 2 - 99
theorem stepL_next (st : Int) (k : Nat) : stepL st (k + 1) = stepL st k ++ [((k : Nat) : Int) * st / 2 - 99] := by
  unfold stepL
  rw [List.range_succ, List.map_append]
  rfl
theorem stepL_len (st : Int) (k : Nat) : (stepL st k).length = k := by
  unfold stepL
  rw [List.length_map, List.length_range]
theorem stepL_fine {st : Int} (h0 : 0 ≤ st) (h1 : st ≤ 9) {k : Nat} (hk : k ≤ 300) : Fine (stepL st k) := by
  unfold stepL
  refine ⟨List.pairwise_map.mpr (List.pairwise_lt_range.imp fun {i j} h => ?_), fun x hx => ?_⟩
  · have : ((i : Nat) : Int) * st ≤ ((j : Nat) : Int) * st := Int.mul_le_mul_of_nonneg_right (by omega) h0
    omega
  · obtain ⟨i, hi, rfl⟩ := List.mem_map.mp hx
    have hi := List.mem_range.mp hi
    have a1 : 0 ≤ ((i : Nat) : Int) * st := Int.mul_nonneg (by omega) h0
    have a2 : ((i : Nat) : Int) * st ≤ 300 * 9 := Int.mul_le_mul (by omega) h1 h0 (by omega)
    omega
end Sp
namespace Sp
open PySem L2 LamX Tri Xc
theorem Held.lv {T : List (Addr × Str)} {S S' : List Addr} {H H' : Hp} {hd : Addr} {hs : List Addr} (m : Lv T S' H H') (sub : ∀ c ∈ S', c ∈ S) (n : hd ∉ S') (h : Held S H hd hs) : Held S H' hd hs := ⟨m.lst h.1 n, fun e he => (h.2 e he).lv (m.mono sub)⟩
end Sp

namespace Sp
open PySem L2
def top (i : Nat) : Stmt := PySem.Challenge.pw_sumplace_k49_changes_refused.main.body.getD i (.Pass ⟨0, 0, 0, 0⟩)
abbrev ssums_below : Stmt := top 1
abbrev sis_whole : Stmt := top 10
abbrev smany_below : Stmt := top 11
abbrev smany_to : Stmt := top 12
abbrev scheck_place : Stmt := top 14
abbrev snumber_at : Stmt := top 15
abbrev sspan_of : Stmt := top 16
abbrev spair_at : Stmt := top 17
abbrev sbare_sum_at : Stmt := top 19
abbrev ssum_at : Stmt := top 20
abbrev sLive___init__ : Stmt := inClass (top 23) 0
abbrev sLive_put : Stmt := inClass (top 23) 1
abbrev sLive_take : Stmt := inClass (top 23) 2
abbrev sLive_undo : Stmt := inClass (top 23) 3
abbrev sLive_rows : Stmt := inClass (top 23) 4
abbrev sLive_below : Stmt := inClass (top 23) 5
abbrev sLive_at : Stmt := inClass (top 23) 6
abbrev sLive__row_of : Stmt := inClass (top 23) 7
abbrev sstands_in : Stmt := top 24
abbrev sput_in : Stmt := top 25
abbrev stake_out : Stmt := top 26
abbrev slaw_draws : Stmt := top 28
abbrev slaw_take : Stmt := top 29
abbrev slaw_row : Stmt := top 30
abbrev slaw_asked : Stmt := top 31
abbrev slaw_whole : Stmt := top 32
abbrev slaw_wholes : Stmt := top 33
abbrev slaw_below : Stmt := top 34
abbrev slaw_many_below : Stmt := top 35
abbrev slaw_in : Stmt := top 36
abbrev slaw_out : Stmt := top 37
abbrev slaw_number : Stmt := top 38
abbrev slaw_deed : Stmt := top 39
abbrev slaw_pair_at : Stmt := top 40
abbrev slaw_door : Stmt := top 41
abbrev slaw_stands : Stmt := top 42
abbrev slaw_held_stay : Stmt := top 43
abbrev slaw_deep : Stmt := top 44
abbrev slaw_odd : Stmt := top 45
abbrev slaw_no_side : Stmt := top 46
abbrev slaw_not_there : Stmt := top 47
abbrev slaw_caught : Stmt := top 48
abbrev slaw_no_place : Stmt := top 49
abbrev slaw_refused : Stmt := top 50
abbrev slaw_good_behind : Stmt := top 51
abbrev slaw_start : Stmt := top 52
abbrev slaw : Stmt := top 53
theorem scsums_below : FnScope ["one", "other", "number", "many", "end", "first"] ["one", "other", "number"] (defScope ssums_below) := ⟨rfl, rfl, rfl, by decide +kernel, rfl, by decide +kernel, by decide +kernel⟩
theorem scis_whole : FnScope ["thing"] ["thing"] (defScope sis_whole) := ⟨rfl, rfl, rfl, by decide +kernel, rfl, by decide +kernel, by decide +kernel⟩
theorem scmany_below : FnScope ["row", "number", "low", "high", "half"] ["row", "number"] (defScope smany_below) := ⟨rfl, rfl, rfl, by decide +kernel, rfl, by decide +kernel, by decide +kernel⟩
theorem scmany_to : FnScope ["row", "number"] ["row", "number"] (defScope smany_to) := ⟨rfl, rfl, rfl, by decide +kernel, rfl, by decide +kernel, by decide +kernel⟩
theorem sccheck_place : FnScope ["thing", "many"] ["thing", "many"] (defScope scheck_place) := ⟨rfl, rfl, rfl, by decide +kernel, rfl, by decide +kernel, by decide +kernel⟩
theorem scnumber_at : FnScope ["place", "low", "high", "count_below", "half"] ["place", "low", "high", "count_below"] (defScope snumber_at) := ⟨rfl, rfl, rfl, by decide +kernel, rfl, by decide +kernel, by decide +kernel⟩
theorem scspan_of : FnScope ["row", "number"] ["row", "number"] (defScope sspan_of) := ⟨rfl, rfl, rfl, by decide +kernel, rfl, by decide +kernel, by decide +kernel⟩
theorem scpair_at : FnScope ["spans", "place", "first", "begin", "end"] ["spans", "place"] (defScope spair_at) := ⟨rfl, rfl, rfl, by decide +kernel, rfl, by decide +kernel, by decide +kernel⟩
theorem scbare_sum_at : FnScope ["one", "other", "place"] ["one", "other", "place"] (defScope sbare_sum_at) := ⟨rfl, rfl, rfl, by decide +kernel, rfl, by decide +kernel, by decide +kernel⟩
theorem scsum_at : FnScope ["one", "other", "place", "total", "rest", "number", "first", "second"] ["one", "other", "place"] (defScope ssum_at) := ⟨rfl, rfl, rfl, by decide +kernel, rfl, by decide +kernel, by decide +kernel⟩
theorem scLive___init__ : FnScope ["self", "one", "other"] ["self", "one", "other"] (defScope sLive___init__) := ⟨rfl, rfl, rfl, by decide +kernel, rfl, by decide +kernel, by decide +kernel⟩
theorem scLive_put : FnScope ["self", "side", "number", "row"] ["self", "side", "number"] (defScope sLive_put) := ⟨rfl, rfl, rfl, by decide +kernel, rfl, by decide +kernel, by decide +kernel⟩
theorem scLive_take : FnScope ["self", "side", "number", "row"] ["self", "side", "number"] (defScope sLive_take) := ⟨rfl, rfl, rfl, by decide +kernel, rfl, by decide +kernel, by decide +kernel⟩
theorem scLive_undo : FnScope ["self", "row", "number", "was_put"] ["self"] (defScope sLive_undo) := ⟨rfl, rfl, rfl, by decide +kernel, rfl, by decide +kernel, by decide +kernel⟩
theorem scLive_rows : FnScope ["self"] ["self"] (defScope sLive_rows) := ⟨rfl, rfl, rfl, by decide +kernel, rfl, by decide +kernel, by decide +kernel⟩
theorem scLive_below : FnScope ["self", "number"] ["self", "number"] (defScope sLive_below) := ⟨rfl, rfl, rfl, by decide +kernel, rfl, by decide +kernel, by decide +kernel⟩
theorem scLive_at : FnScope ["self", "place"] ["self", "place"] (defScope sLive_at) := ⟨rfl, rfl, rfl, by decide +kernel, rfl, by decide +kernel, by decide +kernel⟩
theorem scLive__row_of : FnScope ["self", "side"] ["self", "side"] (defScope sLive__row_of) := ⟨rfl, rfl, rfl, by decide +kernel, rfl, by decide +kernel, by decide +kernel⟩
theorem scstands_in : FnScope ["row", "number", "place"] ["row", "number"] (defScope sstands_in) := ⟨rfl, rfl, rfl, by decide +kernel, rfl, by decide +kernel, by decide +kernel⟩
theorem scput_in : FnScope ["row", "number"] ["row", "number"] (defScope sput_in) := ⟨rfl, rfl, rfl, by decide +kernel, rfl, by decide +kernel, by decide +kernel⟩
theorem sctake_out : FnScope ["row", "number"] ["row", "number"] (defScope stake_out) := ⟨rfl, rfl, rfl, by decide +kernel, rfl, by decide +kernel, by decide +kernel⟩
theorem sclaw_draws : FnScope ["script", "draws", "k", "rest", "stir", "many"] ["script"] (defScope slaw_draws) := ⟨rfl, rfl, rfl, by decide +kernel, rfl, by decide +kernel, by decide +kernel⟩
theorem sclaw_take : FnScope ["draws", "many"] ["draws", "many"] (defScope slaw_take) := ⟨rfl, rfl, rfl, by decide +kernel, rfl, by decide +kernel, by decide +kernel⟩
theorem sclaw_row : FnScope ["draws", "most", "many", "bases", "base", "mixed", "most_step", "number", "top", "one", "other", "likes", "found", "k", "turn"] ["draws", "most"] (defScope slaw_row) := ⟨rfl, rfl, rfl, by decide +kernel, rfl, by decide +kernel, by decide +kernel⟩
theorem sclaw_asked : FnScope ["draws", "one", "other", "way", "sums", "k", "low", "far"] ["draws", "one", "other"] (defScope slaw_asked) := ⟨rfl, rfl, rfl, by decide +kernel, rfl, by decide +kernel, by decide +kernel⟩
theorem sclaw_whole : FnScope ["thing"] ["thing"] (defScope slaw_whole) := ⟨rfl, rfl, rfl, by decide +kernel, rfl, by decide +kernel, by decide +kernel⟩
theorem sclaw_wholes : FnScope ["thing", "many", "one"] ["thing", "many"] (defScope slaw_wholes) := ⟨rfl, rfl, rfl, by decide +kernel, rfl, by decide +kernel, by decide +kernel⟩
theorem sclaw_below : FnScope ["one", "other", "number", "found", "at", "low"] ["one", "other", "number"] (defScope slaw_below) := ⟨rfl, rfl, rfl, by decide +kernel, rfl, by decide +kernel, by decide +kernel⟩
theorem sclaw_many_below : FnScope ["one", "other", "number"] ["one", "other", "number"] (defScope slaw_many_below) := ⟨rfl, rfl, rfl, by decide +kernel, rfl, by decide +kernel, by decide +kernel⟩
theorem sclaw_in : FnScope ["row", "number", "one", "at"] ["row", "number"] (defScope slaw_in) := ⟨rfl, rfl, rfl, by decide +kernel, rfl, by decide +kernel, by decide +kernel⟩
theorem sclaw_out : FnScope ["row", "number", "at"] ["row", "number"] (defScope slaw_out) := ⟨rfl, rfl, rfl, by decide +kernel, rfl, by decide +kernel, by decide +kernel⟩
theorem sclaw_number : FnScope ["draws", "row", "number"] ["draws", "row"] (defScope slaw_number) := ⟨rfl, rfl, rfl, by decide +kernel, rfl, by decide +kernel, by decide +kernel⟩
theorem sclaw_deed : FnScope ["draws", "live", "state", "both", "pile", "way", "due", "found", "side", "row", "number", "told"] ["draws", "live", "state"] (defScope slaw_deed) := ⟨rfl, rfl, rfl, by decide +kernel, rfl, by decide +kernel, by decide +kernel⟩
theorem sclaw_pair_at : FnScope ["one", "other", "place", "low", "high", "middle_one", "left", "below", "to", "i"] ["one", "other", "place"] (defScope slaw_pair_at) := ⟨rfl, rfl, rfl, by decide +kernel, rfl, by decide +kernel, by decide +kernel⟩
theorem sclaw_door : FnScope ["draws", "live", "both", "way", "held", "told", "row", "number", "size", "found", "place"] ["draws", "live", "both", "way", "held"] (defScope slaw_door) := ⟨rfl, rfl, rfl, by decide +kernel, rfl, by decide +kernel, by decide +kernel⟩
theorem sclaw_stands : FnScope ["draws", "live", "both", "held", "order", "way"] ["draws", "live", "both", "held"] (defScope slaw_stands) := ⟨rfl, rfl, rfl, by decide +kernel, rfl, by decide +kernel, by decide +kernel⟩
theorem sclaw_held_stay : FnScope ["held", "told", "kept"] ["held"] (defScope slaw_held_stay) := ⟨rfl, rfl, rfl, by decide +kernel, rfl, by decide +kernel, by decide +kernel⟩
theorem sclaw_deep : FnScope ["many", "found", "k"] ["many"] (defScope slaw_deep) := ⟨rfl, rfl, rfl, by decide +kernel, rfl, by decide +kernel, by decide +kernel⟩
theorem sclaw_odd : FnScope ["draws", "some"] ["draws"] (defScope slaw_odd) := ⟨rfl, rfl, rfl, by decide +kernel, rfl, by decide +kernel, by decide +kernel⟩
theorem sclaw_no_side : FnScope ["draws", "far", "some"] ["draws"] (defScope slaw_no_side) := ⟨rfl, rfl, rfl, by decide +kernel, rfl, by decide +kernel, by decide +kernel⟩
theorem sclaw_not_there : FnScope ["draws", "row", "some", "number", "at"] ["draws", "row"] (defScope slaw_not_there) := ⟨rfl, rfl, rfl, by decide +kernel, rfl, by decide +kernel, by decide +kernel⟩
theorem sclaw_caught : FnScope ["live", "way", "side", "number", "caught", "e", "kinds"] ["live", "way", "side", "number"] (defScope slaw_caught) := ⟨rfl, rfl, rfl, by decide +kernel, rfl, by decide +kernel, by decide +kernel⟩
theorem sclaw_no_place : FnScope ["draws", "size", "some"] ["draws", "size"] (defScope slaw_no_place) := ⟨rfl, rfl, rfl, by decide +kernel, rfl, by decide +kernel, by decide +kernel⟩
theorem sclaw_refused : FnScope ["draws", "live", "both", "side", "row", "number", "bad", "odd", "way"] ["draws", "live", "both"] (defScope slaw_refused) := ⟨rfl, rfl, rfl, by decide +kernel, rfl, by decide +kernel, by decide +kernel⟩
theorem sclaw_good_behind : FnScope ["draws", "live", "state", "side", "row", "number"] ["draws", "live", "state"] (defScope slaw_good_behind) := ⟨rfl, rfl, rfl, by decide +kernel, rfl, by decide +kernel, by decide +kernel⟩
theorem sclaw_start : FnScope ["draws", "row", "step", "k"] ["draws"] (defScope slaw_start) := ⟨rfl, rfl, rfl, by decide +kernel, rfl, by decide +kernel, by decide +kernel⟩
theorem sclaw : FnScope ["script", "draws", "both", "live", "state", "held", "many", "rows"] ["script"] (defScope slaw) := ⟨rfl, rfl, rfl, by decide +kernel, rfl, by decide +kernel, by decide +kernel⟩
end Sp

namespace Sp
open PySem L2
section
variable {P : Program} {w : World} {K : PySem.W.Frag} {mg : Str → Option Value} {base : Heap}
local macro_rules | `(tactic| walk_at "side") => `(tactic| first
  | exact mulW (by omega) (by omega) (by omega) (by omega)
  | exact divW (by omega) (by omega)
  | exact mulW (by decide +kernel) (by decide +kernel) (by decide +kernel) (by decide +kernel)
  | (show CPow _ _; exact ⟨by decide, by decide, by decide⟩)
  | (show (0 : Int) < _; omega)
  | exact small (Nat.le_of_ble_eq_true rfl)
  | decide
  | omega)
local macro_rules | `(tactic| walk_at "ne") => `(tactic| first | assumption | exact ne_of_none (by assumption) (by assumption) | exact Ne.symm (by assumption))
local macro_rules | `(tactic| walk_at "get") => `(tactic| first | assumption | exact upd_same | (refine (by assumption : Same _ _) _ _ ?_; walk_at "get") | (refine ExtD.keep (by assumption) _ _ ?_ (by walk_at "ne"); walk_at "get"))
local macro_rules | `(tactic| walk_at "sq") => `(tactic| first | assumption | exact SqL.new (by walk_at "get") | exact Or.inl (Or.inl (by walk_at "get")) | (refine Same.seq (by assumption) ?_; walk_at "sq") | (refine seqExtD (by assumption) (by walk_at "ne") ?_; walk_at "sq"))
local macro_rules | `(tactic| walk_at "hand") => `(tactic| first | assumption | (refine DrawAt.same (by assumption) ?_; walk_at "hand") | (refine ExtD.hand (by assumption) ?_; walk_at "hand"))
local macro_rules | `(tactic| walk_at "at") => `(tactic| first | exact at0 | exact at1)
local macro_rules | `(tactic| walk_at "s") => `(tactic| first
  | refine ⟨_, rfl, ?_⟩
  | refine ⟨_, _, rfl, rfl, ?_⟩
  | refine ⟨_, _, _, _, rfl, rfl, (by walk_at "sq"), (by walk_at "at"), ?_⟩
  | refine ⟨_, _, _, _, rfl, rfl, (by first | assumption | exact upd_same), rfl, ?_⟩
  | refine And.intro (by walk_at "side") ?_)
local macro_rules | `(tactic| walk_at "pos") => `(tactic| first | omega | decide | (show (0 : Int) < _; decide +kernel) | (show _ < (2 ^ 62 : Int); decide +kernel) | (show (0 : Int) < _; omega))

theorem ok_draws {f : Addr} {fd : FuncData} (B : Bt mg) (F : Fun K "_law_draws" "_law_draws" slaw_draws f fd) : FnOk P w K mg base CX0 1 f fd ["script"] (spDraws K) := by
  have nd := sclaw_draws.nd
  refine F.ok sclaw_draws (fun vs H Q E h => ?_) (fun cdv A outer s H vs Q E hr h => ?_)
  · obtain ⟨sc, ns, rfl, _⟩ := h
    rfl
  · obtain ⟨sc, ns, rfl, hS, hl, q⟩ := h
    refine ⟨_, (pss_cons (ps_set (i := 1) nd rfl (.inl rfl) (pe_lst pa_nil))
      (pss_cons (ps_for PassesOwn.never rfl (pi_range1 (by rfl) B.range_ (pa_cons (pe_callB (call_min2 rfl) (by rfl) B.min_ (by decide +kernel) (pa_cons (pe_callB call_len_seq (by rfl) B.len_ (by decide +kernel) (pa_cons (pv 0) pa_nil)) (pa_cons pe_int pa_nil))) pa_nil)) (pg_name (i := 2) nd rfl (.inl rfl)) (pss_cons (ps_set (i := 3) nd rfl (.inl rfl) (pe_callB call_abs (by rfl) B.abs_ (by decide +kernel) (pa_cons (pe_ix ix_list (pv 0) (pv 2) (fun _ _ => rfl)) pa_nil)))
      (pss_one (ps_if (pt_cmpR op_lt (pv 3) (pe_op op_pow pe_int pe_int) (nomark _)) (pss_cons (ps_set (i := 4) nd rfl (.inl rfl) (pe_op op_mod (pe_op op_mulW (pe_op op_mod (pe_op op_add (pe_op op_add (pv 3) (pe_op op_mulW pe_int (pv 2))) pe_int) pe_int) pe_int) pe_int))
      (pss_cons (ps_set (i := 4) nd rfl (.inl rfl) (pe_op op_mod (pe_op op_mulW (pv 4) (pv 4)) pe_int))
      (pss_cons (ps_expr (pe_bm PySem.F.plainAttrs_list PySem.F.slot_list_append PySem.F.type_list_append mt_append (pv 1) (pa_cons (pe_op op_mod (pe_op op_fdivW (pv 4) pe_int) pe_int) pa_nil)))
      (pss_cons (ps_expr (pe_bm PySem.F.plainAttrs_list PySem.F.slot_list_append PySem.F.type_list_append mt_append (pv 1) (pa_cons (pe_op op_mod (pe_op op_fdivW (pv 4) pe_int) pe_int) pa_nil)))
      (pss_cons (ps_set (i := 4) nd rfl (.inl rfl) (pe_op op_mod (pe_op op_add (pv 4) (pe_op op_mulW pe_int (pe_op op_add (pv 2) pe_int))) pe_int))
      (pss_one (ps_expr (pe_bm PySem.F.plainAttrs_list PySem.F.slot_list_append PySem.F.type_list_append mt_append (pv 1) (pa_cons (pe_op op_mod (pe_op op_fdivW (pe_op op_mod (pe_op op_mulW (pv 4) (pv 4)) pe_int) pe_int) pe_int) pa_nil))))))))) (pss_cons (ps_set (i := 5) nd rfl (.inl rfl) pe_int)
      (pss_one (ps_while PassesOwn.never (PW.pt (pw_and (pt_cmpR op_ge (pv 3) pe_int (nomark _)) (pw_and1 (pt_cmpR op_lt (pv 5) pe_int (nomark _))))) (pss_cons (ps_expr (pe_bm PySem.F.plainAttrs_list PySem.F.slot_list_append PySem.F.type_list_append mt_append (pv 1) (pa_cons (pe_op op_mod (pv 3) pe_int) pa_nil)))
      (pss_cons (ps_set (i := 3) nd rfl (.inl rfl) (pe_op op_fdivW (pv 3) pe_int))
      (pss_one (ps_set (i := 5) nd rfl (.inl rfl) (pe_op op_add (pv 5) pe_int))))))))))))
      (pss_one (ps_ret (pe_slice sl_list (pv 1) po_none (po_some pe_int)))))), ?_⟩
    repeat walk_at "s"
    intro p1 np1
    generalize hg1 : upd H p1 _ = H1
    have s1 : Same H H1 := hg1 ▸ same_new np1
    have e1 := (congrFun hg1 p1).symm.trans upd_same
    clear hg1
    repeat walk_at "s"
    refine ⟨_, _, rfl, .inl (s1.seq hS), ?_⟩
    rw [List.length_map]
    repeat walk_at "s"
    refine ⟨_, _, rfl, ?_⟩
    have e0 : (if (80 : Int) < (ns.length : Int) then (80 : Int) else (ns.length : Int)) = ((ns.length : Nat) : Int) := if_neg (by omega)
    rw [e0]
    refine ⟨(ns.length : Int), rfl, by omega, by omega, ?_⟩
    refine for_range (lo := 0) (n := ns.length) (fun i σ H' => Same H H' ∧ ∃ (ds : List Int) (v2 v3 v4 v5 : Option V), H' p1 = some (.lst (ds.map V.int)) ∧ ds.length ≤ 64 * i ∧ (∀ x ∈ ds, 0 ≤ x ∧ x < 1000) ∧ σ = [some (.ref sc), some (.ref p1), v2, v3, v4, v5]) ⟨s1, [], none, none, none, none, e1, by simp, (fun _ z => nomatch z), rfl⟩ (fun i σ Hi hi w => ?_) (fun σ Hi w => ?_)
    · obtain ⟨si, ds, v2, v3, v4, v5, eD, ld, bd, rfl⟩ := w
      obtain ⟨x, hx⟩ : ∃ x, ns[i]? = some x := ⟨_, List.getElem?_eq_getElem hi⟩
      repeat walk_at "s"
      refine ⟨_, _, _, .int x, rfl, rfl, si.seq hS, ?_, ?_⟩
      · show atI _ ((0 : Int) + (i : Int)) = _
        rw [Int.zero_add]
        exact atI_nat (by rw [List.getElem?_map, hx]; rfl)
      repeat walk_at "s"
      obtain ⟨r, hr0, r0⟩ : ∃ r : Int, (if x < 0 then -x else x) = r ∧ 0 ≤ r := ⟨_, rfl, by split <;> omega⟩
      rw [hr0]
      repeat walk_at "s"
      have t18 : (10 : Int) ^ Int.toNat 18 = 1000000000000000000 := by decide
      have put : ∀ (H0 : Hp) (zs : List Int) (y : Int), Same H H0 → H0 p1 = some (.lst (zs.map V.int)) → Same H (upd H0 p1 (.lst (zs.map V.int ++ [V.int y]))) ∧ (upd H0 p1 (.lst (zs.map V.int ++ [V.int y]))) p1 = some (.lst ((zs ++ [y]).map V.int)) := fun H0 zs y sz ez =>
        ⟨same_app np1 sz, by rw [upd_same, List.map_append]; rfl⟩
      have mod0 := fun (u : Int) => Int.emod_nonneg u (show (1000 : Int) ≠ 0 by decide)
      have mod1 := fun (u : Int) => Int.emod_lt_of_pos u (show (0 : Int) < 1000 by decide)
      have more : ∀ (zs : List Int) (u : Int), (∀ x ∈ zs, 0 ≤ x ∧ x < 1000) → ∀ x ∈ zs ++ [u % 1000], 0 ≤ x ∧ x < 1000 := fun zs u hz x hx => by
        rcases List.mem_append.mp hx with hx | hx
        · exact hz x hx
        · rw [List.mem_singleton.mp hx]
          exact ⟨mod0 u, mod1 u⟩
      refine ite2 (fun z => ?_) (fun z => ?_)
      · have z1 : r < 10 ^ Int.toNat 18 := of_decide_eq_true z
        rw [t18] at z1
        repeat walk_at "s"
        refine ⟨.inl ⟨rfl, _, SqL.new eD⟩, ?_⟩
        repeat walk_at "s"
        refine ⟨p1, _, _, rfl, rfl, eD, smallLt (by rw [List.length_map]; omega), ?_⟩
        obtain ⟨sa, ea⟩ := put Hi ds _ si eD
        generalize upd Hi p1 _ = Ha at sa ea
        repeat walk_at "s"
        refine ⟨.inl ⟨rfl, _, SqL.new ea⟩, ?_⟩
        repeat walk_at "s"
        refine ⟨p1, _, _, rfl, rfl, ea, smallLt (by rw [List.length_map, List.length_append]; simp; omega), ?_⟩
        obtain ⟨sb, eb⟩ := put Ha _ _ sa ea
        generalize upd Ha p1 _ = Hb at sb eb
        repeat walk_at "s"
        refine ⟨.inl ⟨rfl, _, SqL.new eb⟩, ?_⟩
        repeat walk_at "s"
        refine ⟨p1, _, _, rfl, rfl, eb, smallLt (by simp; omega), ?_⟩
        obtain ⟨sc', ec⟩ := put Hb _ _ sb eb
        refine ⟨sc', _, _, _, _, _, ec, by simp; omega, ?_, rfl⟩
        exact more _ _ (more _ _ (more _ _ bd))
      · repeat walk_at "s"
        refine ⟨fun m σ H1 => ∃ (r' : Int) (m' : Nat) (zs : List Int), Same H H1 ∧ H1 p1 = some (.lst (zs.map V.int)) ∧ m = 60 - m' ∧ m' ≤ 60 ∧ zs.length ≤ 64 * i + m' ∧ (∀ x ∈ zs, 0 ≤ x ∧ x < 1000) ∧ 0 ≤ r' ∧ σ = [some (.ref sc), some (.ref p1), some (.int (0 + (i : Int))), some (.int r'), v4, some (.int (m' : Int))],
          ⟨_, r, 0, ds, si, eD, rfl, by omega, by omega, bd, r0, rfl⟩, fun m σ H1 w => ?_⟩
        obtain ⟨r', m', zs, s1', ez, rfl, hm, lz, bz, r0', rfl⟩ := w
        repeat walk_at "s"
        by_cases c1 : (1000 : Int) ≤ r'
        · rw [decide_eq_true c1]
          refine iteT ?_
          repeat walk_at "s"
          refine ite2 (fun c2 => ?_) (fun c2 => ?_)
          · have c2' : (m' : Int) < 60 := of_decide_eq_true c2
            refine ⟨_, fun σ' H' k => k, ?_⟩
            repeat walk_at "s"
            refine ⟨.inl ⟨rfl, _, SqL.new ez⟩, ?_⟩
            repeat walk_at "s"
            refine ⟨p1, _, _, rfl, rfl, ez, smallLt (by rw [List.length_map]; omega), ?_⟩
            obtain ⟨sa, ea⟩ := put H1 zs _ s1' ez
            generalize upd H1 p1 _ = Ha at sa ea
            repeat walk_at "s"
            refine ⟨60 - (m' + 1), by omega, r' / 1000, m' + 1, _, sa, ea, rfl, by omega, by simp; omega, more _ _ bz, Int.ediv_nonneg r0' (by decide), ?_⟩
            rw [Int.natCast_add]
            rfl
          · repeat walk_at "s"
            exact ⟨zs, _, _, _, _, ez, by omega, bz, rfl⟩
        · rw [decide_eq_false c1]
          refine iteF ?_
          repeat walk_at "s"
          exact ⟨zs, _, _, _, _, ez, by omega, bz, rfl⟩
    · obtain ⟨si, ds, v2, v3, v4, v5, eD, ld, bd, rfl⟩ := w
      repeat walk_at "s"
      refine ⟨p1, ds.map V.int, rfl, SqL.new eD, ?_⟩
      intro d nd2
      have e : (cutV (ds.map V.int) none (some 240)) = (ds.take 240).map V.int := by
        rw [show (240 : Int) = ((240 : Nat) : Int) from rfl, cut_take, List.map_take]
      have sd : Same Hi (upd Hi d (.lst (cutV (ds.map V.int) none (some 240)))) := same_new nd2
      refine q d _ (si.trans sd) (by
        cases z : H d with
        | none => rfl
        | some o => rw [si _ _ z] at nd2; cases nd2) ⟨ds.take 240, by rw [upd_same, e], by rw [List.length_take]; omega, fun x hx => bd x (List.mem_of_mem_take hx)⟩

theorem ok_take {f : Addr} {fd : FuncData} (F : Fun K "_law_take" "_law_take" slaw_take f fd) : FnOk P w K mg base CX0 1 f fd ["draws", "many"] spTake := by
  have nd := sclaw_take.nd
  refine F.ok sclaw_take (fun vs H Q E h => ?_) (fun cdv A outer s H vs Q E hr h => ?_)
  · obtain ⟨a, n, rfl, _⟩ := h
    rfl
  · obtain ⟨a, n, rfl, h0, hn, q⟩ := h
    have hu := hr.units
    have hand := h0
    obtain ⟨ds, e0, l0, b0⟩ := h0
    refine ⟨_, (pss_cons (ps_if (pt_cmpR (op_eqD hu) (pv 0) (pe_lst pa_nil) (nomark _)) (pss_one (ps_ret pe_int)) pss_nil)
      (pss_one (ps_ret (pe_op op_mod (pe_bm PySem.F.plainAttrs_list PySem.F.slot_list_pop PySem.F.type_list_pop mt_popAt (pv 0) (pa_cons pe_int pa_nil)) (pv 1))))), ?_⟩
    repeat walk_at "s"
    intro p1 np1
    generalize hg1 : upd H p1 _ = H1
    have s1 : Same H H1 := hg1 ▸ same_new np1
    have e1 := (congrFun hg1 p1).symm.trans upd_same
    clear hg1
    have n1 : p1 ≠ a := DrawAt.ne (by walk_at "hand") np1
    refine ⟨_, _, dp_ints (SqL.new (s1 _ _ e0)), dp_ints (ns := []) (SqL.new e1), shaped_ints _, shaped_ints _, ?_⟩
    rw [eqv_ints]
    refine ⟨_, rfl, ?_⟩
    cases ds with
    | nil =>
      rw [decide_eq_true rfl]
      refine iteT ?_
      repeat walk_at "s"
      exact q 0 H1 (.same s1) (Int.le_refl _) hn (by decide)
    | cons d ds =>
      rw [decide_eq_false (by simp)]
      refine iteF ?_
      repeat walk_at "s"
      refine ⟨.inl ⟨rfl, _, SqL.new (s1 _ _ e0)⟩, ?_⟩
      repeat walk_at "s"
      refine ⟨a, _, 0, 0, .int d, rfl, rfl, s1 _ _ e0, by decide, by decide, (ixN_seq (Evl.ixN_nat (j := 0) (by simp))).1, rfl, ?_⟩
      have ed : (upd H1 a (.lst (((d :: ds).map V.int).eraseIdx 0))) a = some (.lst (ds.map V.int)) := upd_same
      have xd : ExtD a H (upd H1 a (.lst (((d :: ds).map V.int).eraseIdx 0))) := ⟨fun b o hb nb => by rw [upd_ne nb]; exact s1 _ _ hb, fun _ => ⟨ds, ed, by simp at l0; omega, fun x hx => b0 x (List.mem_cons_of_mem _ hx)⟩⟩
      have d0 := b0 d List.mem_cons_self
      repeat walk_at "s"
      have m1 := Int.emod_nonneg d (show n ≠ 0 by omega)
      have m2 := Int.emod_lt_of_pos d hn
      have m3 := Int.mul_ediv_add_emod d n
      have m4 := Int.mul_nonneg (show 0 ≤ n by omega) (Int.ediv_nonneg d0.1 (show 0 ≤ n by omega))
      exact q (d % n) _ xd m1 m2 (by omega)

theorem ok_sums_below {f : Addr} {fd : FuncData} (B : Bt mg) (F : Fun K "sums_below" "sums_below" ssums_below f fd) : FnOk P w K mg base CX0 1 f fd ["one", "other", "number"] (spSums K) := by
  have nd := scsums_below.nd
  refine F.ok scsums_below (fun vs H Q E h => ?_) (fun cdv A outer s H vs Q E hr h => ?_)
  · obtain ⟨p, t, ns, ms, n, rfl, _⟩ := h
    rfl
  · obtain ⟨p, t, ns, ms, n, rfl, hS, hT, hsort, hsm, q⟩ := h
    refine ⟨_, (pss_cons (ps_set (i := 3) nd rfl (.inl rfl) pe_int)
      (pss_cons (ps_set (i := 4) nd rfl (.inl rfl) (pe_callB call_len_seq (by rfl) B.len_ (by decide +kernel) (pa_cons (pv 1) pa_nil)))
      (pss_cons (ps_for PassesOwn.never rfl (pi_list (pv 0)) (pg_name (i := 5) nd rfl (.inl rfl)) (pss_cons (ps_while PassesOwn.never (PW.pt (pw_and (pt_cmpR op_gt (pv 4) pe_int (nomark _)) (pw_and1 (pt_cmpR op_ge (pe_op op_add (pv 5) (pe_ix ix_list (pv 1) (pe_op op_sub (pv 4) pe_int) (fun _ _ => rfl))) (pv 2) (nomark _))))) (pss_one (ps_aug (i := 4) nd rfl (.inl rfl) pe_int ip_sub)))
      (pss_one (ps_aug (i := 3) nd rfl (.inl rfl) (pv 4) ip_add))))
      (pss_one (ps_ret (pv 3)))))), ?_⟩
    walk_at "s"
    refine ⟨_, _, rfl, .inl hT, ?_⟩
    rw [List.length_map]
    refine ⟨_, rfl, _, rfl, ⟨_, hS⟩, ?_⟩
    refine for_list (K := K) (a := p) (xs := ns.map V.int) (fun i σ H' => H' = H ∧ ∃ (en : Nat) (v5 : Option V), σ = [some (.ref p), some (.ref t), some (.int n), some (.int (cntS (ns.take i) ms n : Nat)), some (.int (en : Int)), v5] ∧ en ≤ ms.length ∧ ∀ (j : Nat) (x : Int), i ≤ j → ns[j]? = some x → cntB ms (n - x) ≤ en)
      ⟨rfl, ms.length, none, rfl, Nat.le_refl _, fun j x _ _ => cntB_le _ _⟩ (fun i σ Hi _ w => by rw [w.1]; exact hS) (fun i v σ Hi hv w => ?_) (fun σ Hi w => ?_)
    · obtain ⟨rfl, en, v5, rfl, hen, hall⟩ := w
      obtain ⟨x, hx, rfl⟩ := int_at hv
      have after : ∀ (j : Nat) (y : Int), i + 1 ≤ j → ns[j]? = some y → cntB ms (n - y) ≤ cntB ms (n - x) := fun j y hj hy => cntB_mono (by have := sorted_le hsort hx hy (by omega); omega)
      refine ⟨fun m σ H1 => ∃ e : Nat, σ = [some (.ref p), some (.ref t), some (.int n), some (.int (cntS (ns.take i) ms n : Nat)), some (.int (e : Int)), some (.int x)] ∧ H1 = Hi ∧ m = e ∧ cntB ms (n - x) ≤ e ∧ e ≤ ms.length,
        ⟨_, en, rfl, rfl, rfl, hall i x (Nat.le_refl _) hx, hen⟩, fun m σ H1 w => ?_⟩
      obtain ⟨e, rfl, rfl, rfl, h1, h2⟩ := w
      have done : ∀ (e' : Nat), e' = cntB ms (n - x) → (((cntS (ns.take i) ms n : Nat) : Int) + (e' : Int)) = ((cntS (ns.take (i + 1)) ms n : Nat) : Int) := fun e' he => by
        rw [take_snoc hx, cntS_snoc, he]
        omega
      repeat walk_at "s"
      refine ite2 (fun z => ?_) (fun z => ?_)
      · have z1 : (0 : Int) < (m : Int) := of_decide_eq_true z
        obtain ⟨y, hy⟩ : ∃ y, ms[m - 1]? = some y := ⟨_, List.getElem?_eq_getElem (by omega)⟩
        have key := cntB_lt (n := n - x) hsm hy
        repeat walk_at "s"
        refine ⟨_, _, _, .int y, rfl, rfl, hT, ?_, ?_⟩
        · show atI _ ((m : Int) - 1) = _
          rw [show (m : Int) - 1 = ((m - 1 : Nat) : Int) from by omega]
          exact atI_nat (by rw [List.getElem?_map, hy]; rfl)
        repeat walk_at "s"
        refine ite2 (fun u => ?_) (fun u => ?_)
        · have u1 : n ≤ x + y := of_decide_eq_true u
          refine ⟨_, fun σ' H' k => k, ?_⟩
          repeat walk_at "s"
          refine ⟨m - 1, by omega, m - 1, ?_, rfl, rfl, ?_, by omega⟩
          · show [some (V.ref p), some (V.ref t), some (V.int n), some (V.int (cntS (ns.take i) ms n : Nat)), some (V.int ((m : Int) - 1)), some (V.int x)] = _
            rw [show (m : Int) - 1 = ((m - 1 : Nat) : Int) from by omega]
          · have : ¬ y < n - x := by omega
            have := fun z => this (key.mpr z)
            omega
        · have u1 : ¬ n ≤ x + y := fun k => u (decide_eq_true k)
          have e1 : m = cntB ms (n - x) := by
            have := key.mp (by omega)
            omega
          repeat walk_at "s"
          refine ⟨rfl, m, some (.int x), ?_, h2, fun j y hj hy => by rw [e1]; exact after j y hj hy⟩
          rw [← done m e1]
          rfl
      · have z1 : ¬ (0 : Int) < (m : Int) := fun k => z (decide_eq_true k)
        have e1 : m = cntB ms (n - x) := by omega
        repeat walk_at "s"
        refine ⟨rfl, m, some (.int x), ?_, h2, fun j y hj hy => by rw [e1]; exact after j y hj hy⟩
        rw [← done m e1]
        rfl
    · obtain ⟨rfl, en, v5, rfl, hen, hall⟩ := w
      rw [List.length_map, take_all]
      exact ⟨_, rfl, q⟩

theorem ok_is_whole {f : Addr} {fd : FuncData} (B : Bt mg) (F : Fun K "is_whole" "is_whole" sis_whole f fd) : FnOk P w K mg base CX0 1 f fd ["thing"] (spIsWhole K) := by
  have nd := scis_whole.nd
  refine F.ok scis_whole (fun vs H Q E h => ?_) (fun cdv A outer s H vs Q E hr h => ?_)
  · obtain ⟨x, rfl, _⟩ := h
    rfl
  · obtain ⟨x, rfl, h⟩ := h
    refine ⟨_, (pss_one (ps_ret (pe_and (pe_callB call_isi (by rfl) B.isinstance_ (by decide +kernel) (pa_cons (pv 0) (pa_cons (pe_bltn (v := .ty "int") (by rfl) B.int_ (by decide +kernel) rfl) pa_nil))) (pe_one (pe_not (pe_callB call_isi (by rfl) B.isinstance_ (by decide +kernel) (pa_cons (pv 0) (pa_cons (pe_bltn (v := .ty "bool") (by rfl) B.bool_ (by decide +kernel) rfl) pa_nil)))))))), ?_⟩
    walk_at "s"
    rcases h with ⟨⟨n, rfl⟩, q⟩ | ⟨⟨T, hT, ty⟩, q⟩
    · refine ⟨_, _, _, _, true, rfl, .ty "int", .base (.int n), kit_ty (by decide +kernel), ?_⟩
      repeat walk_at "s"
      refine ⟨_, _, _, _, false, rfl, .ty "bool", .base (.int n), kit_ty (by decide +kernel), ?_⟩
      exact ⟨_, rfl, q⟩
    · simp only [kinds, List.mem_cons, List.not_mem_nil, or_false] at hT
      rcases hT with rfl | rfl | rfl | rfl | rfl | rfl
      · refine ⟨_, _, _, _, true, rfl, .ty "int", ty, kit_ty (by decide +kernel), ?_⟩
        repeat walk_at "s"
        refine ⟨_, _, _, _, true, rfl, .ty "bool", ty, kit_ty (by decide +kernel), ?_⟩
        exact ⟨_, rfl, q⟩
      all_goals
        refine ⟨_, _, _, _, false, rfl, .ty "int", ty, kit_ty (by decide +kernel), ?_⟩
        exact ⟨_, rfl, q⟩

theorem ok_many_below {f : Addr} {fd : FuncData} (B : Bt mg) (F : Fun K "many_below" "many_below" smany_below f fd) : FnOk P w K mg base CX0 1 f fd ["row", "number"] (spBelow K) := by
  have nd := scmany_below.nd
  refine F.ok scmany_below (fun vs H Q E h => ?_) (fun cdv A outer s H vs Q E hr h => ?_)
  · obtain ⟨p, ns, n, rfl, _⟩ := h
    rfl
  · obtain ⟨p, ns, n, rfl, hS, hsort, q⟩ := h
    refine ⟨_, (pss_cons (ps_set (i := 2) nd rfl (.inl rfl) pe_int)
      (pss_cons (ps_set (i := 3) nd rfl (.inl rfl) (pe_callB call_len_seq (by rfl) B.len_ (by decide +kernel) (pa_cons (pv 0) pa_nil)))
      (pss_cons (ps_while PassesOwn.never (pt_cmpR op_lt (pv 2) (pv 3) (nomark _)) (pss_cons (ps_set (i := 4) nd rfl (.inl rfl) (pe_op op_fdivW (pe_op op_add (pv 2) (pv 3)) pe_int))
      (pss_one (ps_if (pt_cmpR op_lt (pe_ix ix_list (pv 0) (pv 4) (fun _ _ => rfl)) (pv 1) (nomark _)) (pss_one (ps_set (i := 2) nd rfl (.inl rfl) (pe_op op_add (pv 4) pe_int))) (pss_one (ps_set (i := 3) nd rfl (.inl rfl) (pv 4)))))))
      (pss_one (ps_ret (pv 2)))))), ?_⟩
    walk_at "s"
    refine ⟨_, _, rfl, .inl hS, ?_⟩
    rw [List.length_map]
    refine ⟨fun m σ H1 => ∃ (lo hi : Nat) (v : Option V), σ = [some (.ref p), some (.int n), some (.int lo), some (.int hi), v] ∧ H1 = H ∧ m = hi - lo ∧ lo ≤ cntB ns n ∧ cntB ns n ≤ hi ∧ hi ≤ ns.length,
      ⟨_, 0, ns.length, none, rfl, rfl, rfl, Nat.zero_le _, cntB_le ns n, Nat.le_refl _⟩, fun m σ H1 w => ?_⟩
    obtain ⟨lo, hi, v, rfl, rfl, rfl, h1, h2, h3⟩ := w
    repeat walk_at "s"
    refine ite2 (fun z => ?_) (fun z => ?_)
    · have z1 : (lo : Int) < hi := of_decide_eq_true z
      refine ⟨_, fun σ' H' y => y, ?_⟩
      have e : ((lo : Int) + hi) / 2 = (((lo + hi) / 2 : Nat) : Int) := by omega
      obtain ⟨x, hx⟩ : ∃ x, ns[(lo + hi) / 2]? = some x := ⟨_, List.getElem?_eq_getElem (by omega)⟩
      have key := cntB_lt (n := n) hsort hx
      repeat walk_at "s"
      refine ⟨_, _, _, .int x, rfl, rfl, hS, ?_, ?_⟩
      · show atI _ (((lo : Int) + hi) / 2) = _
        rw [e]
        exact atI_nat (by rw [List.getElem?_map, hx]; rfl)
      repeat walk_at "s"
      refine ite2 (fun y => ?_) (fun y => ?_)
      · have y1 : x < n := of_decide_eq_true y
        repeat walk_at "s"
        refine ⟨_, ?_, (lo + hi) / 2 + 1, hi, some (V.int (((lo + hi) / 2 : Nat) : Int)), ?_, rfl, rfl, ?_, h2, h3⟩
        · omega
        · show [some (V.ref p), some (V.int n), some (V.int (((lo : Int) + hi) / 2 + 1)), some (V.int hi), some (V.int (((lo : Int) + hi) / 2))] = _
          rw [e]
          rfl
        · have := key.mp y1
          omega
      · have y1 : ¬ x < n := fun w => y (decide_eq_true w)
        repeat walk_at "s"
        refine ⟨_, ?_, lo, (lo + hi) / 2, some (V.int (((lo + hi) / 2 : Nat) : Int)), ?_, rfl, rfl, h1, ?_, ?_⟩
        · omega
        · show [some (V.ref p), some (V.int n), some (V.int lo), some (V.int (((lo : Int) + hi) / 2)), some (V.int (((lo : Int) + hi) / 2))] = _
          rw [e]
        · have := fun w => y1 (key.mpr w)
          omega
        · omega
    · have z1 : ¬ (lo : Int) < hi := fun y => z (decide_eq_true y)
      have e : cntB ns n = lo := by omega
      rw [e] at q
      exact ⟨_, rfl, q⟩
theorem ok_many_to {f : Addr} {fd : FuncData} (B : Bt mg) (F : Fun K "many_to" "many_to" smany_to f fd) (cmany_below : Cal P w K mg base 1 "many_below" ["row", "number"] (spBelow K)) : FnOk P w K mg base CX0 2 f fd ["row", "number"] (spTo K) := by
  have nd := scmany_to.nd
  refine F.ok scmany_to (fun vs H Q E h => ?_) (fun cdv A outer s H vs Q E hr h => ?_)
  · obtain ⟨p, ns, n, rfl, _⟩ := h
    rfl
  · obtain ⟨p, ns, n, rfl, hS, hsort, q⟩ := h
    refine ⟨_, (pss_one (ps_ret (pe_own cmany_below (hr.mono (by decide)) (by rfl) (pa_cons (pv 0) (pa_cons (pe_op op_add (pv 1) pe_int) pa_nil))))), ?_⟩
    repeat walk_at "s"
    exact ⟨p, ns, n + 1, rfl, hS, hsort, q⟩

theorem ok_check_place {f : Addr} {fd : FuncData} (F : Fun K "check_place" "check_place" scheck_place f fd) (cis_whole : Cal P w K mg base 1 "is_whole" ["thing"] (spIsWhole K)) : FnOk P w K mg base CX0 2 f fd ["thing", "many"] spCheck := by
  have nd := sccheck_place.nd
  refine F.ok sccheck_place (fun vs H Q E h => ?_) (fun cdv A outer s H vs Q E hr h => ?_)
  · obtain ⟨n, m, rfl, _⟩ := h
    rfl
  · obtain ⟨n, m, rfl, h1, h2, q⟩ := h
    refine ⟨_, (pss_one (ps_if (PW.pt (pw_or (pt_not (pt_val (pe_own cis_whole (hr.mono (by decide)) (by rfl) (pa_cons (pv 0) pa_nil)))) (pw_or1 (pt_not (pt_chain op_le op_lt pe_int (pv 0) (pv 1)))))) (pss_one ps_never) pss_nil)), ?_⟩
    repeat walk_at "s"
    refine .inl ⟨⟨n, rfl⟩, ?_⟩
    repeat walk_at "s"
    rw [decide_eq_true h1]
    repeat walk_at "s"
    rw [decide_eq_true h2]
    exact q

theorem gets_number_at {g : Addr} {k : Nat} : Lm.Gets P w K mg base ["place", "low", "high", "count_below", "half"] "number_at" snumber_at g "count_below" k Lm.TNum := by
  intro cdg A outer s H v1 v2 v3 f Q tl hr act h
  obtain ⟨n, lo0, hi0, G, rfl, rfl, rfl, tell, h1, h2, h3, q⟩ := h
  have nd := scnumber_at.nd
  refine ⟨_, (pss_cons (ps_while PassesOwn.never (pt_cmpR op_lt (pv 1) (pv 2) (nomark _)) (pss_cons (ps_set (i := 4) nd rfl (.inl rfl) (pe_op op_fdivW (pe_op op_add (pv 1) (pv 2)) pe_int))
      (pss_one (ps_if (pt_cmpR op_gt (act _ _ _ _ (pe_op op_add (pv 4) pe_int) (by rfl)) (pv 0) (nomark _)) (pss_one (ps_set (i := 2) nd rfl (.inl rfl) (pv 4))) (pss_one (ps_set (i := 1) nd rfl (.inl rfl) (pe_op op_add (pv 4) pe_int)))))))
      (pss_one (ps_ret (pv 1)))), ?_⟩
  refine ⟨fun m σ H1 => ∃ (lo hi : Int) (v : Option V), σ = [some (.int n), some (.int lo), some (.int hi), some (.ref f), v] ∧ Same H H1 ∧ m = (hi - lo).toNat ∧ lo0 ≤ lo ∧ lo ≤ hi ∧ hi ≤ hi0 ∧ G lo ≤ n ∧ n < G (hi + 1),
      ⟨_, lo0, hi0, none, rfl, Same.refl _, rfl, Int.le_refl _, h1, Int.le_refl _, h2, h3⟩, fun m σ H1 w => ?_⟩
  obtain ⟨lo, hi, v, rfl, sk, rfl, a1, a2, a3, a4, a5⟩ := w
  repeat walk_at "s"
  refine ite2 (fun z => ?_) (fun z => ?_)
  · have z1 : lo < hi := of_decide_eq_true z
    refine ⟨_, fun σ' H' y => y, ?_⟩
    repeat walk_at "s"
    refine ⟨rfl, ?_⟩
    repeat walk_at "s"
    refine tell _ _ _ sk (fun H2 s2 => ?_)
    repeat walk_at "s"
    refine ite2 (fun y => ?_) (fun y => ?_)
    · have y1 : n < G ((lo + hi) / 2 + 1) := of_decide_eq_true y
      repeat walk_at "s"
      exact ⟨_, by omega, lo, (lo + hi) / 2, _, rfl, sk.trans s2, rfl, a1, by omega, by omega, a4, y1⟩
    · have y1 : ¬ n < G ((lo + hi) / 2 + 1) := fun w => y (decide_eq_true w)
      repeat walk_at "s"
      exact ⟨_, by omega, (lo + hi) / 2 + 1, hi, _, rfl, sk.trans s2, rfl, by omega, by omega, by omega, by omega, a5⟩
  · have z1 : ¬ lo < hi := fun y => z (decide_eq_true y)
    have e : lo = hi := by omega
    subst e
    exact ⟨_, rfl, q lo H1 sk a1 a3 a4 a5⟩

theorem ok_span_of {f : Addr} {fd : FuncData} (F : Fun K "span_of" "span_of" sspan_of f fd) (cmany_below : Cal P w K mg base 1 "many_below" ["row", "number"] (spBelow K)) (cmany_to : Cal P w K mg base 2 "many_to" ["row", "number"] (spTo K)) : FnOk P w K mg base CX0 3 f fd ["row", "number"] (spSpan K) := by
  have nd := scspan_of.nd
  refine F.ok scspan_of (fun vs H Q E h => ?_) (fun cdv A outer s H vs Q E hr h => ?_)
  · obtain ⟨p, ns, n, rfl, _⟩ := h
    rfl
  · obtain ⟨p, ns, n, rfl, hS, hs, q⟩ := h
    refine ⟨_, (pss_one (ps_ret (pe_tup (pa_cons (pe_own cmany_below (hr.mono (by decide)) (by rfl) (pa_cons (pv 0) (pa_cons (pv 1) pa_nil))) (pa_cons (pe_own cmany_to (hr.mono (by decide)) (by rfl) (pa_cons (pv 0) (pa_cons (pv 1) pa_nil))) pa_nil))))), ?_⟩
    repeat walk_at "s"
    refine ⟨p, ns, n, rfl, hS, hs, ?_⟩
    repeat walk_at "s"
    refine ⟨p, ns, n, rfl, hS, hs, ?_⟩
    repeat walk_at "s"
    exact q

theorem ok_pair_at {f : Addr} {fd : FuncData} (F : Fun K "pair_at" "pair_at" spair_at f fd) : FnOk P w K mg base CX0 1 f fd ["spans", "place"] (spPairAt K) := by
  have nd := scpair_at.nd
  refine F.ok scpair_at (fun vs H Q E h => ?_) (fun cdv A outer s H vs Q E hr h => ?_)
  · obtain ⟨p, ts, ws, n, rfl, _⟩ := h
    rfl
  · obtain ⟨p, ts, ws, n, rfl, hS, sp, hn, q⟩ := h
    have read : ∀ (i : Nat), i < ws.length → ∃ t b c, ws[i]? = some (b, c) ∧ atI (ts.map V.ref) (i : Int) = some (.ref t) ∧ H t = some (.tup [.int (b : Int), .int ((b : Int) + (c : Int))]) := fun i hi => by
      obtain ⟨⟨b, c⟩, hw⟩ : ∃ w, ws[i]? = some w := ⟨_, List.getElem?_eq_getElem hi⟩
      obtain ⟨t, ht⟩ : ∃ t, ts[i]? = some t := ⟨_, List.getElem?_eq_getElem (by rw [sp.len]; exact hi)⟩
      exact ⟨t, b, c, hw, atI_nat (by rw [List.getElem?_map, ht]; rfl), sp.at_ i t b c ht hw⟩
    have more : ∀ (i r : Nat), n = lenOf (ws.take i) + r → i < ws.length := fun i r e => by
      by_cases h : i < ws.length
      · exact h
      · rw [List.take_of_length_le (by omega)] at e
        omega
    refine ⟨_, (pss_cons (ps_set (i := 2) nd rfl (.inl rfl) pe_int)
      (pss_cons (ps_asg (pe_ix ix_list (pv 0) pe_int (fun _ _ => rfl)) (pg_tup rfl (pgs_cons (pg_name (i := 3) nd rfl (.inl rfl)) (pgs_cons (pg_name (i := 4) nd rfl (.inl rfl)) pgs_nil))))
      (pss_cons (ps_while PassesOwn.never (pt_cmpR op_ge (pv 1) (pe_op op_sub (pv 4) (pv 3)) (nomark _)) (pss_cons (ps_aug (i := 1) nd rfl (.inl rfl) (pe_op op_sub (pv 4) (pv 3)) ip_sub)
      (pss_cons (ps_aug (i := 2) nd rfl (.inl rfl) pe_int ip_add)
      (pss_one (ps_asg (pe_ix ix_list (pv 0) (pv 2) (fun _ _ => rfl)) (pg_tup rfl (pgs_cons (pg_name (i := 3) nd rfl (.inl rfl)) (pgs_cons (pg_name (i := 4) nd rfl (.inl rfl)) pgs_nil))))))))
      (pss_one (ps_ret (pe_tup (pa_cons (pv 2) (pa_cons (pe_op op_add (pv 3) (pv 1)) pa_nil)))))))), ?_⟩
    repeat walk_at "s"
    obtain ⟨t0, b0, c0, w0, a0, m0⟩ := read 0 (more 0 n (by rw [List.take_zero]; show n = 0 + n; omega))
    refine ⟨_, _, _, .ref t0, rfl, rfl, hS, a0, ?_⟩
    refine ⟨t0, _, rfl, .inl (.inl m0), rfl, _, _, rfl, _, _, rfl, rfl, ?_⟩
    refine ⟨fun m σ H1 => ∃ (i r b c : Nat), σ = [some (.ref p), some (.int (r : Int)), some (.int (i : Int)), some (.int (b : Int)), some (.int ((b : Int) + (c : Int)))] ∧ H1 = H ∧ m = ws.length - i ∧ ws[i]? = some (b, c) ∧ n = lenOf (ws.take i) + r,
      ⟨_, 0, n, b0, c0, rfl, rfl, rfl, w0, by rw [List.take_zero]; show n = 0 + n; omega⟩, fun m σ H1 w => ?_⟩
    obtain ⟨i, r, b, c, rfl, rfl, rfl, hw, e⟩ := w
    repeat walk_at "s"
    refine ite2 (fun z => ?_) (fun z => ?_)
    · have z1 : (b : Int) + (c : Int) - (b : Int) ≤ (r : Int) := of_decide_eq_true z
      have e2 : n = lenOf (ws.take (i + 1)) + (r - c) := by rw [lenOf_take hw]; omega
      have hi := more (i + 1) (r - c) e2
      obtain ⟨t1, b1, c1, w1, a1, m1⟩ := read (i + 1) hi
      refine ⟨_, fun σ' H' y => y, ?_⟩
      repeat walk_at "s"
      refine ⟨_, _, _, .ref t1, rfl, rfl, hS, a1, ?_⟩
      refine ⟨t1, _, rfl, .inl (.inl m1), rfl, _, _, rfl, _, _, rfl, rfl, ?_⟩
      refine ⟨ws.length - (i + 1), by omega, i + 1, r - c, b1, c1, ?_, rfl, rfl, w1, e2⟩
      show [some (V.ref p), some (V.int ((r : Int) - ((b : Int) + (c : Int) - (b : Int)))), some (V.int ((i : Int) + 1)), some (V.int (b1 : Int)), some (V.int ((b1 : Int) + (c1 : Int)))] = _
      rw [show (r : Int) - ((b : Int) + (c : Int) - (b : Int)) = ((r - c : Nat) : Int) from by omega]
      rfl
    · have z1 : ¬ (b : Int) + (c : Int) - (b : Int) ≤ (r : Int) := fun k => z (decide_eq_true k)
      repeat walk_at "s"
      exact q i b c r hw (by omega) e

theorem ok_bare_sum_at {f gN c0 P0 : Addr} {fd fdN : FuncData} {T : List (Addr × Str)} (F : Lm.FunC K "bare_sum_at" "bare_sum_at" sbare_sum_at f fd c0) (TB : LamX.TabB base mg c0 P0) (hmT : (P0, (("bare_sum_at" : Str) ++ ".<locals>.") ++ "<lambda>") ∈ T) (hu : ∀ p ∈ T, p.1 = P0 → p.2 = (("bare_sum_at" : Str) ++ ".<locals>.") ++ "<lambda>")
    (Fnumber_at : Fun K "number_at" "number_at" snumber_at gN fdN) (mnumber_at : mg "number_at" = some (.ref gN)) (bnumber_at : Binds K fdN ["place", "low", "high", "count_below"] [])
    (csums_below : Cal P w K mg base 1 "sums_below" ["one", "other", "number"] (spSums K)) : FnOk P w K mg base CX0 4 f fd ["one", "other", "place"] (spBare K T) := by
  have nd := scbare_sum_at.nd
  refine F.ok scbare_sum_at (fun vs H Q E h => ?_) (fun A outer s H vs Q E hr h => ?_)
  · obtain ⟨p, t, ns, ms, n, rfl, _⟩ := h
    rfl
  · obtain ⟨p, t, ns, ms, n, rfl, hS, hT, sn, sm, hn, hTab, q⟩ := h
    have l1 : 0 < ns.length := Nat.pos_of_ne_zero fun e => by rw [e] at hn; omega
    have l2 : 0 < ms.length := Nat.pos_of_ne_zero fun e => by rw [e] at hn; omega
    obtain ⟨x0, hx0⟩ : ∃ x, ns[0]? = some x := ⟨_, List.getElem?_eq_getElem l1⟩
    obtain ⟨y0, hy0⟩ : ∃ y, ms[0]? = some y := ⟨_, List.getElem?_eq_getElem l2⟩
    obtain ⟨x1, hx1⟩ := last_at (as := ns) (fun e => by rw [e] at l1; exact absurd l1 (by decide))
    obtain ⟨y1, hy1⟩ := last_at (as := ms) (fun e => by rw [e] at l2; exact absurd l2 (by decide))
    have lowN : ∀ x ∈ ns, x0 ≤ x := fun x hx => by obtain ⟨i, hi⟩ := List.mem_iff_getElem?.mp hx; exact sorted_le sn hx0 hi (Nat.zero_le _)
    have lowM : ∀ x ∈ ms, y0 ≤ x := fun x hx => by obtain ⟨i, hi⟩ := List.mem_iff_getElem?.mp hx; exact sorted_le sm hy0 hi (Nat.zero_le _)
    have topN : ∀ x ∈ ns, x ≤ x1 := fun x hx => by obtain ⟨i, hi⟩ := List.mem_iff_getElem?.mp hx; exact sorted_le sn hi hx1 (by have := (List.getElem?_eq_some_iff.mp hi).1; omega)
    have topM : ∀ x ∈ ms, x ≤ y1 := fun x hx => by obtain ⟨i, hi⟩ := List.mem_iff_getElem?.mp hx; exact sorted_le sm hi hy1 (by have := (List.getElem?_eq_some_iff.mp hi).1; omega)
    refine ⟨_, (pss_one (ps_ret (Lm.pe_lam4 (k := 1) (TT := Lm.TNum) (N := ["number", "one", "other"]) (fr := ["one", "other"]) (js := [0, 1]) Fnumber_at scnumber_at mnumber_at (by rfl) bnumber_at rfl rfl (.inl rfl) gets_number_at TB rfl hmT hu (hr.mono (by decide)) (NdefX.nscope_by (by decide +kernel)) (NdefX.ndef_free (sc := defScope sbare_sum_at) (fr := ["one", "other"]) (by decide +kernel)) (NdefX.ndef_fr (sc := defScope sbare_sum_at) (by decide +kernel)) rfl rfl (fun _ _ _ _ _ _ => rfl) (fun _ _ _ _ _ _ _ _ hr => (pe_own csums_below (hr.mono (by decide)) (by rfl) (pa_cons (pv 1) (pa_cons (pv 2) (pa_cons (pv 0) pa_nil))))) (pv 2) (pe_op op_add (pe_ix ix_list (pv 0) pe_int (fun _ _ => rfl)) (pe_ix ix_list (pv 1) pe_int (fun _ _ => rfl))) (pe_op op_add (pe_ix ix_list (pv 0) (pe_un un_neg pe_int) (fun _ _ => rfl)) (pe_ix ix_list (pv 1) (pe_un un_neg pe_int) (fun _ _ => rfl)))))), ?_⟩
    repeat walk_at "s"
    refine ⟨_, _, _, .int x0, rfl, rfl, hS, atI_nat (j := 0) (by rw [List.getElem?_map, hx0]; rfl), ?_⟩
    repeat walk_at "s"
    refine ⟨_, _, _, .int y0, rfl, rfl, hT, atI_nat (j := 0) (by rw [List.getElem?_map, hy0]; rfl), ?_⟩
    repeat walk_at "s"
    refine ⟨_, _, _, .int x1, rfl, rfl, hS, at_last hx1, ?_⟩
    repeat walk_at "s"
    refine ⟨_, _, _, .int y1, rfl, rfl, hT, at_last hy1, ?_⟩
    repeat walk_at "s"
    intro c H4 x4 T4 hc
    have n4 : Nx T H H4 := .mk2 x4 T4
    refine ⟨(n : Int), x0 + y0, x1 + y1, fun m => ((cntS ns ms m : Nat) : Int), rfl, rfl, rfl, fun m H1 Q2 s1 hq => ⟨s1 _ _ hc, ?_⟩, ?_, ?_, ?_, fun r H5 s5 _ _ a1 a2 => ?_⟩
    · refine ⟨_, rfl, ?_⟩
      repeat walk_at "s"
      exact ⟨p, t, ns, ms, m, rfl, s1.seq (n4.seq hS), s1.seq (n4.seq hT), sn, sm, hq H1 (Same.refl _)⟩
    · have h1 := lowN x1 (List.mem_of_getElem? hx1)
      have h2 := lowM y1 (List.mem_of_getElem? hy1)
      omega
    · show ((cntS ns ms (x0 + y0) : Nat) : Int) ≤ (n : Int)
      rw [cntS_none fun x hx y hy => by have := lowN x hx; have := lowM y hy; omega]
      omega
    · show (n : Int) < ((cntS ns ms (x1 + y1 + 1) : Nat) : Int)
      rw [cntS_all fun x hx y hy => by have := topN x hx; have := topM y hy; omega]
      omega
    · have b1 : ((cntS ns ms r : Nat) : Int) ≤ (n : Int) := a1
      have b2 : (n : Int) < ((cntS ns ms (r + 1) : Nat) : Int) := a2
      exact q r H5 (n4.trans (.same s5)) (by omega) (by omega)

theorem ok_sum_at {f : Addr} {fd : FuncData} {T : List (Addr × Str)} (B : Bt mg) (F : Fun K "sum_at" "sum_at" ssum_at f fd) (csums_below : Cal P w K mg base 1 "sums_below" ["one", "other", "number"] (spSums K)) (ccheck_place : Cal P w K mg base 2 "check_place" ["thing", "many"] spCheck)
    (cbare_sum_at : Cal P w K mg base 4 "bare_sum_at" ["one", "other", "place"] (spBare K T)) (cspan_of : Cal P w K mg base 3 "span_of" ["row", "number"] (spSpan K)) (cpair_at : Cal P w K mg base 1 "pair_at" ["spans", "place"] (spPairAt K)) : FnOk P w K mg base CX0 5 f fd ["one", "other", "place"] (spSumT K T) := by
  have nd := scsum_at.nd
  refine F.ok scsum_at (fun vs H Q E h => ?_) (fun cdv A outer s H vs Q E hr h => ?_)
  · obtain ⟨p, t, ns, ms, n, L, w, rfl, _⟩ := h
    rfl
  · obtain ⟨p, t, ns, ms, n, L, wv, rfl, hS, hT, sn, sm, l1, l2, hTab, o, hw, q⟩ := h
    have hn : n < ns.length * ms.length := by rw [← o.len]; exact (List.getElem?_eq_some_iff.mp hw).1
    refine ⟨_, (pss_cons (ps_expr (pe_own ccheck_place (hr.mono (by decide)) (by rfl) (pa_cons (pv 2) (pa_cons (pe_op op_mulW (pe_callB call_len_seq (by rfl) B.len_ (by decide +kernel) (pa_cons (pv 0) pa_nil)) (pe_callB call_len_seq (by rfl) B.len_ (by decide +kernel) (pa_cons (pv 1) pa_nil))) pa_nil))))
      (pss_cons (ps_set (i := 3) nd rfl (.inr rfl) (pe_own cbare_sum_at (hr.mono (by decide)) (by rfl) (pa_cons (pv 0) (pa_cons (pv 1) (pa_cons (pv 2) pa_nil)))))
      (pss_cons (ps_set (i := 4) nd rfl (.inl rfl) (pe_op op_sub (pv 2) (pe_own csums_below (hr.mono (by decide)) (by rfl) (pa_cons (pv 0) (pa_cons (pv 1) (pa_cons (pv 3) pa_nil))))))
      (pss_cons (ps_asg (pe_own cpair_at (hr.mono (by decide)) (by rfl) (pa_cons (pe_lc (own := [("number", 5)]) (by rfl) nd (pi_list (pv 0)) (blkOk_by (own := [("number", 5)]) (N := ["one", "other", "place", "total", "rest", "number", "first", "second"]) (sc := defScope ssum_at) (by decide +kernel)) (fun _ _ _ _ _ => (pg_name (i := 5) nd rfl (.inl rfl))) (fun _ _ _ _ _ => pts_nil) (fun _ _ _ _ _ => (pe_own cspan_of (hr.mono (by decide)) (by rfl) (pa_cons (pv 1) (pa_cons (pe_op op_sub (pv 3) (pv 5)) pa_nil))))) (pa_cons (pv 4) pa_nil))) (pg_tup rfl (pgs_cons (pg_name (i := 6) nd rfl (.inl rfl)) (pgs_cons (pg_name (i := 7) nd rfl (.inl rfl)) pgs_nil))))
      (pss_one (ps_ret (pe_tup (pa_cons (pv 3) (pa_cons (pv 6) (pa_cons (pv 7) pa_nil)))))))))), ?_⟩
    repeat walk_at "s"
    refine ⟨_, _, rfl, .inl hS, ?_⟩
    rw [List.length_map]
    repeat walk_at "s"
    refine ⟨_, _, rfl, .inl hT, ?_⟩
    rw [List.length_map]
    refine ⟨_, _, rfl, rfl, mulW (by omega) (by omega) (by omega) (by omega), ?_⟩
    have big : (ns.length : Int) * (ms.length : Int) = ((ns.length * ms.length : Nat) : Int) := (Int.natCast_mul _ _).symm
    refine ⟨(n : Int), (ns.length : Int) * (ms.length : Int), rfl, by omega, by omega, ?_⟩
    repeat walk_at "s"
    refine ⟨p, t, ns, ms, n, rfl, hS, hT, sn, sm, hn, hTab, fun r H1 n1 a1 a2 => ?_⟩
    have hS1 := n1.seq hS
    have hT1 := n1.seq hT
    repeat walk_at "s"
    refine ⟨p, t, ns, ms, r, rfl, hS1, hT1, sn, sm, ?_⟩
    repeat walk_at "s"
    refine ⟨⟨_, hS1⟩, ?_⟩
    intro D nD
    refine lc_list (K := K) (a := p) (xs := ns.map V.int) (fun i H' => Same H1 H' ∧ ∃ ts : List Addr, H' D = some (.lst (ts.map V.ref)) ∧ Spn H' ts ((ns.take i).map fun x => (cntB ms (r - x), ms.count (r - x)))) ⟨same_new nD, [], upd_same, rfl, fun i t b c h _ => by simp at h⟩ (fun i Hi _ w => w.1.seq hS1) (fun i v Hi hv w => ?_) (fun H2 w => ?_)
    · obtain ⟨si, ts, eD, sp⟩ := w
      obtain ⟨x, hx, rfl⟩ := int_at hv
      have hi := (List.getElem?_eq_some_iff.mp hx).1
      refine ⟨rfl, ?_⟩
      repeat walk_at "s"
      refine ⟨t, ms, r - x, rfl, si.seq hT1, sm, ?_⟩
      intro p3 np3
      generalize hg3 : upd Hi p3 _ = H3
      have s3 : Same Hi H3 := hg3 ▸ same_new np3
      have e3 := (congrFun hg3 p3).symm.trans upd_same
      clear hg3
      have eD3 := s3 _ _ eD
      have lt : ts.length = i := by rw [sp.len, List.length_map, List.length_take]; omega
      have nDp : p3 ≠ D := fun z => by rw [z, eD] at np3; cases np3
      refine ⟨_, eD3, smallLt (by rw [List.length_map]; omega), same_set nD (si.trans s3), ts ++ [p3], by rw [upd_same, List.map_append]; rfl, ?_, ?_⟩
      · rw [List.length_append, List.length_map, List.length_take]
        show ts.length + 1 = _
        omega
      · intro j u b c h1 h2
        have hcount := cntB_next ms (r - x)
        rw [take_snoc hx, List.map_append] at h2
        by_cases hj : j < i
        · rw [List.getElem?_append_left (by omega)] at h1
          rw [List.getElem?_append_left (by rw [List.length_map, List.length_take]; omega)] at h2
          have e := s3 _ _ (sp.at_ j u b c h1 h2)
          rw [upd_ne (fun z => by rw [z, eD3] at e; cases e)]
          exact e
        · have lj : j = i := by
            have := (List.getElem?_eq_some_iff.mp h1).1
            rw [List.length_append] at this
            have h0 : [p3].length = 1 := rfl
            omega
          subst lj
          rw [List.getElem?_append_right (by omega), lt, Nat.sub_self] at h1
          rw [List.getElem?_append_right (by rw [List.length_map, List.length_take]; omega), List.length_map, List.length_take, show j - min j ns.length = 0 from by omega] at h2
          cases h1
          cases h2
          rw [upd_ne nDp, e3, hcount, Int.natCast_add]
    obtain ⟨s2, ts, eD, sp⟩ := w
    rw [List.length_map, take_all] at sp
    have tot : ((ns.map fun x => (cntB ms (r - x), ms.count (r - x))).map (·.2)).sum = (ns.map fun z => ms.count (r - z)).sum := by
      rw [List.map_map]
      rfl
    have nx := cntS_next ms r ns
    obtain ⟨d, hd⟩ : ∃ d : Nat, n = cntS ns ms r + d := ⟨n - cntS ns ms r, by omega⟩
    repeat walk_at "s"
    refine ⟨D, ts, _, d, ?_, SqL.new eD, sp, ?_, ?_⟩
    · show [V.ref D, V.int ((n : Int) - ((cntS ns ms r : Nat) : Int))] = _
      rw [show (n : Int) - ((cntS ns ms r : Nat) : Int) = ((d : Nat) : Int) from by omega]
    · show ((ns.map fun x => (cntB ms (r - x), ms.count (r - x))).map (·.2)).sum > d
      rw [tot]
      omega
    intro i b c k hi hk hd2 u nu
    rw [List.getElem?_map] at hi
    obtain ⟨x, hx⟩ : ∃ x, ns[i]? = some x := by
      cases e : ns[i]? with
      | none => rw [e] at hi; cases hi
      | some x => exact ⟨x, rfl⟩
    rw [hx] at hi
    cases hi
    have tak : lenOf ((ns.map fun x => (cntB ms (r - x), ms.count (r - x))).take i) = ((ns.take i).map fun z => ms.count (r - z)).sum := by
      show ((((ns.map fun x => (cntB ms (r - x), ms.count (r - x))).take i)).map (·.2)).sum = _
      rw [← List.map_take, List.map_map]
      rfl
    rw [tak] at hd2
    have fin := sum_found o sm hx hk (n := n) (by omega)
    rw [hw] at fin
    cases fin
    have eu : upd H2 u (.tup [.int (i : Int), .int (((cntB ms (r - x) : Nat) : Int) + (k : Int))]) u = _ := upd_same
    have s3 : Same H2 (upd H2 u (.tup [.int (i : Int), .int (((cntB ms (r - x) : Nat) : Int) + (k : Int))])) := same_new nu
    generalize upd H2 u _ = H3 at eu s3
    refine ⟨u, _, rfl, .inl (.inl eu), rfl, _, _, rfl, _, _, rfl, rfl, ?_⟩
    repeat walk_at "s"
    intro t9 n9
    refine q t9 _ (n1.trans (.same (s2.trans (s3.trans (same_new n9))))) ?_
    rw [upd_same]
    show some (HO.tup [V.int r, V.int (i : Int), V.int (((cntB ms (r - x) : Nat) : Int) + (k : Int))]) = some (HO.tup [V.int r, V.int (i : Int), V.int (((cntB ms (r - x) + k : Nat)) : Int)])
    rw [Int.natCast_add]

theorem ok_sum_ref {CP f : Addr} {fd : FuncData} (B : Bt mg) (F : Fun K "sum_at" "sum_at" ssum_at f fd) (xcheck_place : Xc.CalX P w K mg base 2 "check_place" ["thing", "many"] (spCheckR K CP)) : FnOk P w K mg base (L2.CX P w) 5 f fd ["one", "other", "place"] (spSumR K CP) := by
  have nd := scsum_at.nd
  refine F.okX scsum_at (fun vs H Q E h => ?_) (fun cdv A outer s H vs Q E hr h => ?_)
  · obtain ⟨p, t, ns, ms, x, rfl, _⟩ := h
    rfl
  · obtain ⟨p, t, ns, ms, x, rfl, hS, hT, l1, l2, bad, q⟩ := h
    refine ⟨_, pss_cons (ps_expr (Xc.pe_ownX (E := E) xcheck_place (hr.mono (by decide)) (by rfl) (pa_cons (pv 2) (pa_cons (pe_op op_mulW (pe_callB call_len_seq (by rfl) B.len_ (by decide +kernel) (pa_cons (pv 0) pa_nil)) (pe_callB call_len_seq (by rfl) B.len_ (by decide +kernel) (pa_cons (pv 1) pa_nil))) pa_nil)) (takes_of rfl rfl rfl rfl) (fun _ _ _ _ h => h))) pss_never, ?_⟩
    repeat walk_at "s"
    refine ⟨_, _, rfl, .inl hS, ?_⟩
    rw [List.length_map]
    repeat walk_at "s"
    refine ⟨_, _, rfl, .inl hT, ?_⟩
    rw [List.length_map]
    refine ⟨_, _, rfl, rfl, mulW (by omega) (by omega) (by omega) (by omega), ?_⟩
    exact ⟨x, _, rfl, bad, q⟩

theorem ok_stands_in {f : Addr} {fd : FuncData} (B : Bt mg) (F : Fun K "stands_in" "stands_in" sstands_in f fd) (cmany_below : Cal P w K mg base 1 "many_below" ["row", "number"] (spBelow K)) : FnOk P w K mg base CX0 2 f fd ["row", "number"] (spStands K) := by
  have nd := scstands_in.nd
  refine F.ok scstands_in (fun vs H Q E h => ?_) (fun cdv A outer s H vs Q E hr h => ?_)
  · obtain ⟨p, ns, n, rfl, _⟩ := h
    rfl
  · obtain ⟨p, ns, n, rfl, hS, sn, l1, q⟩ := h
    refine ⟨_, (pss_cons (ps_set (i := 2) nd rfl (.inl rfl) (pe_own cmany_below (hr.mono (by decide)) (by rfl) (pa_cons (pv 0) (pa_cons (pv 1) pa_nil))))
      (pss_one (ps_ret (pe_and (pe_cmpR op_lt (pv 2) (pe_callB call_len_seq (by rfl) B.len_ (by decide +kernel) (pa_cons (pv 0) pa_nil)) (nomark _)) (pe_one (pe_cmpR op_eq (pe_ix ix_list (pv 0) (pv 2) (fun _ _ => rfl)) (pv 1) (nomark _))))))), ?_⟩
    repeat walk_at "s"
    refine ⟨p, ns, n, rfl, hS, sn, ?_⟩
    repeat walk_at "s"
    refine ⟨_, _, rfl, .inl hS, ?_⟩
    rw [List.length_map]
    repeat walk_at "s"
    have hl := cntB_le ns n
    by_cases c : cntB ns n < ns.length
    · rw [decide_eq_true (show ((cntB ns n : Nat) : Int) < (ns.length : Int) by omega)]
      refine iteT ?_
      obtain ⟨x, hx⟩ : ∃ x, ns[cntB ns n]? = some x := ⟨_, List.getElem?_eq_getElem c⟩
      repeat walk_at "s"
      refine ⟨_, _, _, .int x, rfl, rfl, hS, atI_nat (by rw [List.getElem?_map, hx]; rfl), ?_⟩
      repeat walk_at "s"
      refine ⟨rfl, ?_⟩
      have e : decide (V.int x = V.int n) = decide (n ∈ ns) := by
        rw [decide_eq_decide, ← stands_at sn, hx]
        exact ⟨fun z => by rw [V.int.inj z], fun z => by rw [Option.some.inj z]⟩
      rw [← e] at q
      exact q
    · rw [decide_eq_false (show ¬ ((cntB ns n : Nat) : Int) < (ns.length : Int) by omega)]
      refine iteF ?_
      have e : decide (n ∈ ns) = false := decide_eq_false fun z => by
        have := (List.getElem?_eq_some_iff.mp ((stands_at sn).mpr z)).1
        omega
      rw [e] at q
      exact q
theorem ok_put_in {f : Addr} {fd : FuncData} (F : Fun K "put_in" "put_in" sput_in f fd) (cmany_below : Cal P w K mg base 1 "many_below" ["row", "number"] (spBelow K)) : FnOk P w K mg base CX0 2 f fd ["row", "number"] spPutIn := by
  have nd := scput_in.nd
  refine F.ok scput_in (fun vs H Q E h => ?_) (fun cdv A outer s H vs Q E hr h => ?_)
  · obtain ⟨p, ns, n, rfl, _⟩ := h
    rfl
  · obtain ⟨p, ns, n, rfl, hp, sn, l1, q⟩ := h
    have hl := cntB_le ns n
    refine ⟨_, (pss_one (ps_expr (pe_bm PySem.F.plainAttrs_list PySem.F.slot_list_insert PySem.F.type_list_insert mt_insert (pv 0) (pa_cons (pe_own cmany_below (hr.mono (by decide)) (by rfl) (pa_cons (pv 0) (pa_cons (pv 1) pa_nil))) (pa_cons (pv 1) pa_nil))))), ?_⟩
    repeat walk_at "s"
    refine ⟨.inl ⟨rfl, _, SqL.new hp⟩, ?_⟩
    repeat walk_at "s"
    refine ⟨p, ns, n, rfl, SqL.new hp, sn, ?_⟩
    repeat walk_at "s"
    refine ⟨p, _, _, _, rfl, rfl, hp, smallLt (by rw [List.length_map]; omega), by omega, by omega, ?_⟩
    have e : (ns.map V.int).take (((cntB ns n : Nat) : Int)).toNat ++ [V.int n] ++ (ns.map V.int).drop (((cntB ns n : Nat) : Int)).toNat = (insR ns n).map V.int := by
      unfold insR
      rw [Int.toNat_natCast, List.map_append, List.map_cons, List.map_take, List.map_drop, List.append_assoc]
      rfl
    rw [e]
    exact q
theorem ok_take_out {f : Addr} {fd : FuncData} (F : Fun K "take_out" "take_out" stake_out f fd) (cmany_below : Cal P w K mg base 1 "many_below" ["row", "number"] (spBelow K)) : FnOk P w K mg base CX0 2 f fd ["row", "number"] spTakeOut := by
  have nd := sctake_out.nd
  refine F.ok sctake_out (fun vs H Q E h => ?_) (fun cdv A outer s H vs Q E hr h => ?_)
  · obtain ⟨p, ns, n, rfl, _⟩ := h
    rfl
  · obtain ⟨p, ns, n, rfl, hp, sn, l1, lt, q⟩ := h
    refine ⟨_, (pss_one (ps_delL (pv 0) (pe_own cmany_below (hr.mono (by decide)) (by rfl) (pa_cons (pv 0) (pa_cons (pv 1) pa_nil))))), ?_⟩
    repeat walk_at "s"
    refine ⟨p, ns, n, rfl, SqL.new hp, sn, ?_⟩
    refine ⟨p, _, _, cntB ns n, rfl, rfl, hp, by omega, by omega, ?_, ?_⟩
    · exact (ixN_seq (Evl.ixN_nat (j := cntB ns n) (by rw [List.length_map]; omega))).1
    rw [map_erase]
    exact q
theorem ok_linit {CL f : Addr} {fd : FuncData} (B : Bt mg) (F : Fun K "__init__" "Live.__init__" sLive___init__ f fd) (li : LiT K CL) : FnOk P w K mg base CX0 1 f fd ["self", "one", "other"] (spLInit K CL) := by
  have nd := scLive___init__.nd
  refine F.ok scLive___init__ (fun vs H Q E h => ?_) (fun cdv A outer s H vs Q E hr h => ?_)
  · obtain ⟨g, dx, p, q, st, rfl, _⟩ := h
    rfl
  · obtain ⟨g, dx, p, t, st, rfl, eg, hp, ht, gd, q⟩ := h
    refine ⟨_, (pss_cons (ps_fld (pv 0) (pe_tup (pa_cons (pe_callTy call_list_of (by rfl) B.list_ (by decide +kernel) (pa_cons (pv 1) pa_nil)) (pa_cons (pe_callTy call_list_of (by rfl) B.list_ (by decide +kernel) (pa_cons (pv 2) pa_nil)) pa_nil))) rfl)
      (pss_one (ps_fld (pv 0) (pe_lst pa_nil) rfl))), ?_⟩
    repeat walk_at "s"
    refine ⟨_, _, rfl, .inl hp, ?_⟩
    intro r0 n0
    have k0 : Kg g H (upd H r0 (.lst (st.1.map V.int))) := Kg.refl.new n0
    have e0 : (upd H r0 (.lst (st.1.map V.int))) r0 = some (.lst (st.1.map V.int)) := upd_same
    have g0 : (upd H r0 (.lst (st.1.map V.int))) g = some (.ins CL dx []) := by rw [upd_ne (ne_of_none eg n0)]; exact eg
    generalize upd H r0 (.lst (st.1.map V.int)) = H1 at k0 e0 g0 ⊢
    repeat walk_at "s"
    refine ⟨_, _, rfl, .inl (k0.seq eg ht), ?_⟩
    intro r1 n1
    have n01 : r0 ≠ r1 := ne_of_none e0 n1
    have k1 := k0.new (o := .lst (st.2.map V.int)) n1
    have e01 : (upd H1 r1 (.lst (st.2.map V.int))) r0 = some (.lst (st.1.map V.int)) := by rw [upd_ne n01]; exact e0
    have e1 : (upd H1 r1 (.lst (st.2.map V.int))) r1 = some (.lst (st.2.map V.int)) := upd_same
    have g1 : (upd H1 r1 (.lst (st.2.map V.int))) g = some (.ins CL dx []) := by rw [upd_ne (ne_of_none g0 n1)]; exact g0
    have m1 : H r1 = none := k0.free _ n1
    generalize upd H1 r1 (.lst (st.2.map V.int)) = H2 at k1 e01 e1 g1 ⊢
    repeat walk_at "s"
    intro T nT
    have k2 := k1.new (o := .tup [.ref r0, .ref r1]) nT
    have e02 : (upd H2 T (.tup [.ref r0, .ref r1])) r0 = some (.lst (st.1.map V.int)) := by rw [upd_ne (ne_of_none e01 nT)]; exact e01
    have e12 : (upd H2 T (.tup [.ref r0, .ref r1])) r1 = some (.lst (st.2.map V.int)) := by rw [upd_ne (ne_of_none e1 nT)]; exact e1
    have eT : (upd H2 T (.tup [.ref r0, .ref r1])) T = some (.tup [.ref r0, .ref r1]) := upd_same
    have g2 : (upd H2 T (.tup [.ref r0, .ref r1])) g = some (.ins CL dx []) := by rw [upd_ne (ne_of_none g1 nT)]; exact g1
    generalize upd H2 T (.tup [.ref r0, .ref r1]) = H3 at k2 e02 e12 eT g2 ⊢
    refine ⟨_, rfl, g, CL, dx, [], rfl, g2, li.cl, li.nR, (by show 0 < 1000; decide), ?_⟩
    have gg : ∀ {b : Addr} {xs : List V}, H3 b = some (.lst xs) → b ≠ g := fun e z => by rw [z, g2] at e; cases e
    have gT : T ≠ g := fun z => by rw [z, g2] at eT; cases eT
    have k3 := k2.put (o := .ins CL dx (putF "_rows" (.ref T) []))
    have e03 : (upd H3 g (.ins CL dx (putF "_rows" (.ref T) []))) r0 = some (.lst (st.1.map V.int)) := by rw [upd_ne (gg e02)]; exact e02
    have e13 : (upd H3 g (.ins CL dx (putF "_rows" (.ref T) []))) r1 = some (.lst (st.2.map V.int)) := by rw [upd_ne (gg e12)]; exact e12
    have eT3 : (upd H3 g (.ins CL dx (putF "_rows" (.ref T) []))) T = some (.tup [.ref r0, .ref r1]) := by rw [upd_ne gT]; exact eT
    have g3 : (upd H3 g (.ins CL dx (putF "_rows" (.ref T) []))) g = some (.ins CL dx (putF "_rows" (.ref T) [])) := upd_same
    generalize upd H3 g (.ins CL dx (putF "_rows" (.ref T) [])) = H4 at k3 e03 e13 eT3 g3 ⊢
    repeat walk_at "s"
    intro D nD
    have gD : g ≠ D := ne_of_none g3 nD
    refine ⟨_, rfl, g, CL, dx, _, rfl, (by rw [upd_ne gD]; exact g3), li.cl, li.nD, (by show 1 < 1000; decide), ?_⟩
    rw [lf_new]
    have gg4 : ∀ {b : Addr} {xs : List V}, H4 b = some (.lst xs) → b ≠ g := fun e z => by rw [z, g3] at e; cases e
    have gT4 : T ≠ g := gT
    have k4 := (k3.new (o := .lst []) nD).put (o := .ins CL dx (lf T D))
    refine q r0 r1 D _ n0 m1 (k3.free _ nD) k4.keep ⟨dx, T, [], [], upd_same, ?_, ?_, ?_, ?_, rfl, fun j t e a => by simp at a, trivial, n01, ?_, ?_, gd⟩
    · rw [upd_ne gT4, upd_ne (ne_of_none eT3 nD)]; exact eT3
    · rw [upd_ne (gg4 e03), upd_ne (ne_of_none e03 nD)]; exact e03
    · rw [upd_ne (gg4 e13), upd_ne (ne_of_none e13 nD)]; exact e13
    · rw [upd_ne gD.symm, upd_same]; rfl
    · exact (ne_of_none e03 nD).symm
    · exact (ne_of_none e13 nD).symm

theorem rows_no {m : Str} (T D : Addr) (h : decide (m = ("_rows" : Str)) = false) (h2 : decide (m = ("_done" : Str)) = false) : (lf T D).lookup m = none := lf_no T D (of_decide_eq_false h) (of_decide_eq_false h2)
theorem ok_lrow {CL f : Addr} {fd : FuncData} (F : Fun K "_row_of" "Live._row_of" sLive__row_of f fd) (li : LiT K CL) (cis_whole : Cal P w K mg base 1 "is_whole" ["thing"] (spIsWhole K)) : FnOk P w K mg base CX0 2 f fd ["self", "side"] (spLRow CL) := by
  have nd := scLive__row_of.nd
  refine F.ok scLive__row_of (fun vs H Q E h => ?_) (fun cdv A outer s H vs Q E hr h => ?_)
  · obtain ⟨g, r0, r1, D, b, st, hist, rfl, _⟩ := h
    rfl
  · obtain ⟨g, r0, r1, D, b, st, hist, rfl, ⟨dx, T, ts, log, R⟩, q⟩ := h
    refine ⟨_, (pss_cons (ps_if (PW.pt (pw_or (pt_not (pt_val (pe_own cis_whole (hr.mono (by decide)) (by rfl) (pa_cons (pv 1) pa_nil)))) (pw_or1 (pt_not (pt_chain op_le op_le pe_int (pv 1) pe_int))))) (pss_one ps_never) pss_nil)
      (pss_one (ps_ret (pe_ix ix_tup (pe_fld (pv 0) rfl) (pv 1) (fun _ _ => rfl))))), ?_⟩
    repeat walk_at "s"
    cases b
    · repeat walk_at "s"
      refine .inl ⟨⟨_, rfl⟩, ?_⟩
      repeat walk_at "s"
      refine ⟨g, CL, dx, _, _, rfl, R.hg, li.cl, li.nR, lf_rows _ _, ?_⟩
      refine ⟨_, rfl, ?_⟩
      exact ⟨_, _, _, .ref r0, rfl, rfl, .inl (.inl R.hT), at0, q⟩
    · repeat walk_at "s"
      refine .inl ⟨⟨_, rfl⟩, ?_⟩
      repeat walk_at "s"
      refine ⟨g, CL, dx, _, _, rfl, R.hg, li.cl, li.nR, lf_rows _ _, ?_⟩
      refine ⟨_, rfl, ?_⟩
      exact ⟨_, _, _, .ref r1, rfl, rfl, .inl (.inl R.hT), at1, q⟩
theorem LvRaw.row {C : Addr} {H : Hp} {g dx T D r0 r1 : Addr} {ts : List Addr} {log : List LEnt} {s : R2} {hist : List R2} (R : LvRaw C H g dx T D r0 r1 ts log s hist) (b : Bool) : H (rowV r0 r1 b) = some (.lst ((sideR s b).map V.int)) := by
  cases b
  · exact R.h0
  · exact R.h1
theorem rowV_mem (r0 r1 D : Addr) (b : Bool) : rowV r0 r1 b ∈ [r0, r1, D] := by cases b <;> simp [rowV]
/-- a row changed, the log grown -/
theorem LvRaw.next {C : Addr} {H H' : Hp} {g dx T D r0 r1 : Addr} {ts : List Addr} {log : List LEnt} {s : R2} {hist : List R2} (R : LvRaw C H g dx T D r0 r1 ts log s hist) (e : LEnt) {l : List Int} {t : Addr}
    (hg : H' g = some (.ins C dx (lf T D))) (hT : H' T = some (.tup [.ref r0, .ref r1])) (hr : H' (rowV r0 r1 e.1) = some (.lst (l.map V.int))) (ho : H' (rowV r0 r1 (!e.1)) = some (.lst ((sideR s (!e.1)).map V.int))) (hD : H' D = some (.lst ((ts ++ [t]).map V.ref)))
    (ht : H' t = some (.tup (entV r0 r1 e))) (hts : ∀ u xs, H u = some (.tup xs) → H' u = some (.tup xs)) (hu : und e (setR s e.1 l) = s) (hc : e.2.2 = true → cntB l e.2.1 < l.length) (fl : Fine l) (ll : l.length ≤ 300) : LvRaw C H' g dx T D r0 r1 (ts ++ [t]) (e :: log) (setR s e.1 l) (s :: hist) := by
  refine ⟨hg, hT, ?_, ?_, hD, by rw [List.length_append, R.len]; rfl, fun j u x a b => ?_, ⟨hu, fun h => by rw [side_set]; exact hc h, R.gd, R.lg⟩, R.n01, R.nD0, R.nD1, R.gd.set _ fl ll⟩
  · obtain ⟨b, n, p⟩ := e
    cases b
    · exact hr
    · exact ho
  · obtain ⟨b, n, p⟩ := e
    cases b
    · exact ho
    · exact hr
  · rw [List.reverse_cons] at b
    by_cases c : j < ts.length
    · rw [List.getElem?_append_left c] at a
      rw [List.getElem?_append_left (by rw [List.length_reverse, ← R.len]; exact c)] at b
      exact hts _ _ (R.at_ j u x a b)
    · rw [List.getElem?_append_right (by omega)] at a
      rw [List.getElem?_append_right (by rw [List.length_reverse, ← R.len]; omega), List.length_reverse, ← R.len] at b
      cases z : j - ts.length with
      | zero => rw [z] at a b; cases a; cases b; exact ht
      | succ k => rw [z] at a; simp at a
theorem ok_lput {CL f : Addr} {fd : FuncData} {tk : Tok} (B : Bt mg) (F : Fun K "put" "Live.put" sLive_put f fd) (li : LiT K CL) (most : mg "MOST" = some (.int 300 tk)) (cis_whole : Cal P w K mg base 1 "is_whole" ["thing"] (spIsWhole K)) (cput_in : Cal P w K mg base 2 "put_in" ["row", "number"] spPutIn) (cLive__row_of : Ob.CalM P w K mg base 2 CL "_row_of" ["self", "side"] (spLRow CL)) : FnOk P w K mg base CX0 3 f fd ["self", "side", "number"] (spLPut CL) := by
  have nd := scLive_put.nd
  refine F.ok scLive_put (fun vs H Q E h => ?_) (fun cdv A outer s H vs Q E hr h => ?_)
  · obtain ⟨g, r0, r1, D, b, n, st, hist, rfl, _⟩ := h
    rfl
  · obtain ⟨g, r0, r1, D, b, n, st, hist, rfl, ⟨dx, T, ts, log, R⟩, sn, ln, lh, q⟩ := h
    refine ⟨_, (pss_cons (ps_set (i := 3) nd rfl (.inl rfl) (Ob.pe_m (pv 0) cLive__row_of (hr.mono (by decide)) (pa_cons (pv 1) pa_nil)))
      (pss_cons (ps_if (PW.pt (pw_or (pt_not (pt_val (pe_own cis_whole (hr.mono (by decide)) (by rfl) (pa_cons (pv 2) pa_nil)))) (pw_or1 (pt_cmpR op_ge (pe_callB call_len_seq (by rfl) B.len_ (by decide +kernel) (pa_cons (pv 3) pa_nil)) (pe_glob (v := .int 300) rfl most ⟨_, rfl⟩) (nomark _))))) (pss_one ps_never) pss_nil)
      (pss_cons (ps_expr (pe_own cput_in (hr.mono (by decide)) (by rfl) (pa_cons (pv 3) (pa_cons (pv 2) pa_nil))))
      (pss_one (ps_expr (pe_bm PySem.F.plainAttrs_list PySem.F.slot_list_append PySem.F.type_list_append mt_append (pe_fld (pv 0) rfl) (pa_cons (pe_tup (pa_cons (pv 3) (pa_cons (pv 2) (pa_cons pe_bl pa_nil)))) pa_nil))))))), ?_⟩
    repeat walk_at "s"
    refine ⟨g, dx, _, rfl, R.hg, rows_no _ _ (by decide +kernel) (by decide +kernel), ?_⟩
    repeat walk_at "s"
    refine ⟨g, r0, r1, D, b, st, hist, rfl, ⟨dx, T, ts, log, R⟩, ?_⟩
    repeat walk_at "s"
    refine .inl ⟨⟨_, rfl⟩, ?_⟩
    repeat walk_at "s"
    have hrow := R.row b
    refine ⟨_, _, rfl, .inl (SqL.new hrow), ?_⟩
    rw [List.length_map]
    repeat walk_at "s"
    rw [decide_eq_false (show ¬ (300 : Int) ≤ ((sideR st b).length : Int) by omega)]
    refine iteF ?_
    repeat walk_at "s"
    have gd := R.gd
    refine ⟨rowV r0 r1 b, sideR st b, n, rfl, hrow, (gd.fine b).1, by omega, ?_⟩
    have nog : ∀ {p : Addr} {xs : List V}, H p = some (.lst xs) → p ≠ g := fun e z => by rw [z, R.hg] at e; cases e
    have noT : ∀ {p : Addr} {xs : List V}, H p = some (.lst xs) → ∀ {t : Addr} {ys : List V}, H t = some (.tup ys) → t ≠ p := fun e t ys e2 z => by rw [z, e] at e2; cases e2
    have nDr : D ≠ rowV r0 r1 b := by cases b; exact R.nD0; exact R.nD1
    have nor : rowV r0 r1 (!b) ≠ rowV r0 r1 b := by cases b; exact R.n01.symm; exact R.n01
    have hother := R.row (!b)
    have m1 : ∀ TT, Lv TT [r0, r1, D] H (upd H (rowV r0 r1 b) (.lst ((insR (sideR st b) n).map V.int))) := fun TT => Lv.put hrow (rowV_mem _ _ _ _)
    have a1 : (upd H (rowV r0 r1 b) (.lst ((insR (sideR st b) n).map V.int))) (rowV r0 r1 b) = some (.lst ((insR (sideR st b) n).map V.int)) := upd_same
    have a2 : (upd H (rowV r0 r1 b) (.lst ((insR (sideR st b) n).map V.int))) (rowV r0 r1 (!b)) = some (.lst ((sideR st (!b)).map V.int)) := by rw [upd_ne nor]; exact hother
    have a3 : (upd H (rowV r0 r1 b) (.lst ((insR (sideR st b) n).map V.int))) D = some (.lst (ts.map V.ref)) := by rw [upd_ne nDr]; exact R.hD
    generalize upd H (rowV r0 r1 b) (.lst ((insR (sideR st b) n).map V.int)) = H1 at m1 a1 a2 a3 ⊢
    have g1 := (m1 []).ins R.hg
    refine ⟨_, rfl, g, CL, dx, _, _, rfl, g1, li.cl, li.nD, lf_done _ _, ?_⟩
    refine ⟨.inl ⟨rfl, _, SqL.new a3⟩, ?_⟩
    repeat walk_at "s"
    intro t nt
    have st1 : Same H1 (upd H1 t (.tup [.ref (rowV r0 r1 b), .int n, .bl true])) := same_new nt
    have et : (upd H1 t (.tup [.ref (rowV r0 r1 b), .int n, .bl true])) t = some (.tup (entV r0 r1 (b, n, true))) := upd_same
    generalize upd H1 t (.tup [.ref (rowV r0 r1 b), .int n, .bl true]) = H2 at st1 et ⊢
    have lts : ts.length = hist.length := by rw [R.len, lg_len R.lg]
    repeat walk_at "s"
    refine ⟨D, _, _, rfl, rfl, st1 _ _ a3, smallLt (by rw [List.length_map]; omega), ?_⟩
    have b3 := st1 _ _ a3
    have noD : ∀ {p : Addr} {xs : List V}, H2 p = some (.tup xs) → p ≠ D := fun e z => by rw [z, b3] at e; cases e
    refine q _ (fun TT => ((m1 TT).trans (.same st1)).trans (.put b3 (by simp))) ⟨dx, T, ts ++ [t], (b, n, true) :: log, R.next (b, n, true) ?_ ?_ ?_ ?_ ?_ ?_ (fun u xs e => ?_) ?_ (fun _ => ?_) (ins_fine (gd.fine b) sn) (by rw [ins_len]; omega)⟩
    · rw [upd_ne (fun z => by rw [← z, st1 _ _ g1] at b3; cases b3)]; exact st1 _ _ g1
    · have e := st1 _ _ ((m1 []).tup R.hT)
      rw [upd_ne (noD e)]; exact e
    · rw [upd_ne nDr.symm]; exact st1 _ _ a1
    · rw [upd_ne (fun z => by have := R.nD0; have := R.nD1; cases b <;> simp_all [rowV])]; exact st1 _ _ a2
    · rw [upd_same, List.map_append]; rfl
    · rw [upd_ne (noD et)]; exact et
    · have e2 := st1 _ _ ((m1 []).tup e)
      rw [upd_ne (noD e2)]; exact e2
    · show setR (setR st b (insR (sideR st b) n)) b (delR (sideR (setR st b (insR (sideR st b) n)) b) n) = st
      rw [set_set, side_set, del_ins, set_side]
    · show cntB (insR (sideR st b) n) n < (insR (sideR st b) n).length
      rw [cnt_ins, ins_len]
      have := cntB_le (sideR st b) n
      omega
theorem ok_ltake {CL f : Addr} {fd : FuncData} (F : Fun K "take" "Live.take" sLive_take f fd) (li : LiT K CL) (cis_whole : Cal P w K mg base 1 "is_whole" ["thing"] (spIsWhole K)) (cstands_in : Cal P w K mg base 2 "stands_in" ["row", "number"] (spStands K)) (ctake_out : Cal P w K mg base 2 "take_out" ["row", "number"] spTakeOut) (cLive__row_of : Ob.CalM P w K mg base 2 CL "_row_of" ["self", "side"] (spLRow CL)) : FnOk P w K mg base CX0 3 f fd ["self", "side", "number"] (spLTake CL) := by
  have nd := scLive_take.nd
  refine F.ok scLive_take (fun vs H Q E h => ?_) (fun cdv A outer s H vs Q E hr h => ?_)
  · obtain ⟨g, r0, r1, D, b, n, st, hist, rfl, _⟩ := h
    rfl
  · obtain ⟨g, r0, r1, D, b, n, st, hist, rfl, ⟨dx, T, ts, log, R⟩, ln, lh, q⟩ := h
    refine ⟨_, (pss_cons (ps_set (i := 3) nd rfl (.inl rfl) (Ob.pe_m (pv 0) cLive__row_of (hr.mono (by decide)) (pa_cons (pv 1) pa_nil)))
      (pss_cons (ps_if (PW.pt (pw_or (pt_not (pt_val (pe_own cis_whole (hr.mono (by decide)) (by rfl) (pa_cons (pv 2) pa_nil)))) (pw_or1 (pt_not (pt_val (pe_own cstands_in (hr.mono (by decide)) (by rfl) (pa_cons (pv 3) (pa_cons (pv 2) pa_nil)))))))) (pss_one ps_never) pss_nil)
      (pss_cons (ps_expr (pe_own ctake_out (hr.mono (by decide)) (by rfl) (pa_cons (pv 3) (pa_cons (pv 2) pa_nil))))
      (pss_one (ps_expr (pe_bm PySem.F.plainAttrs_list PySem.F.slot_list_append PySem.F.type_list_append mt_append (pe_fld (pv 0) rfl) (pa_cons (pe_tup (pa_cons (pv 3) (pa_cons (pv 2) (pa_cons pe_bl pa_nil)))) pa_nil))))))), ?_⟩
    repeat walk_at "s"
    refine ⟨g, dx, _, rfl, R.hg, rows_no _ _ (by decide +kernel) (by decide +kernel), ?_⟩
    repeat walk_at "s"
    refine ⟨g, r0, r1, D, b, st, hist, rfl, ⟨dx, T, ts, log, R⟩, ?_⟩
    repeat walk_at "s"
    refine .inl ⟨⟨_, rfl⟩, ?_⟩
    repeat walk_at "s"
    have hrow := R.row b
    have gd := R.gd
    refine ⟨rowV r0 r1 b, sideR st b, n, rfl, SqL.new hrow, (gd.fine b).1, by have := gd.len b; omega, ?_⟩
    rw [decide_eq_true ln]
    repeat walk_at "s"
    have hst := (stands_at (gd.fine b).1).mpr ln
    have hlt := (List.getElem?_eq_some_iff.mp hst).1
    refine ⟨rowV r0 r1 b, sideR st b, n, rfl, hrow, (gd.fine b).1, by have := gd.len b; omega, hlt, ?_⟩
    have nog : ∀ {p : Addr} {xs : List V}, H p = some (.lst xs) → p ≠ g := fun e z => by rw [z, R.hg] at e; cases e
    have noT : ∀ {p : Addr} {xs : List V}, H p = some (.lst xs) → ∀ {t : Addr} {ys : List V}, H t = some (.tup ys) → t ≠ p := fun e t ys e2 z => by rw [z, e] at e2; cases e2
    have nDr : D ≠ rowV r0 r1 b := by cases b; exact R.nD0; exact R.nD1
    have nor : rowV r0 r1 (!b) ≠ rowV r0 r1 b := by cases b; exact R.n01.symm; exact R.n01
    have hother := R.row (!b)
    have m1 : ∀ TT, Lv TT [r0, r1, D] H (upd H (rowV r0 r1 b) (.lst ((delR (sideR st b) n).map V.int))) := fun TT => Lv.put hrow (rowV_mem _ _ _ _)
    have a1 : (upd H (rowV r0 r1 b) (.lst ((delR (sideR st b) n).map V.int))) (rowV r0 r1 b) = some (.lst ((delR (sideR st b) n).map V.int)) := upd_same
    have a2 : (upd H (rowV r0 r1 b) (.lst ((delR (sideR st b) n).map V.int))) (rowV r0 r1 (!b)) = some (.lst ((sideR st (!b)).map V.int)) := by rw [upd_ne nor]; exact hother
    have a3 : (upd H (rowV r0 r1 b) (.lst ((delR (sideR st b) n).map V.int))) D = some (.lst (ts.map V.ref)) := by rw [upd_ne nDr]; exact R.hD
    generalize upd H (rowV r0 r1 b) (.lst ((delR (sideR st b) n).map V.int)) = H1 at m1 a1 a2 a3 ⊢
    have g1 := (m1 []).ins R.hg
    refine ⟨_, rfl, g, CL, dx, _, _, rfl, g1, li.cl, li.nD, lf_done _ _, ?_⟩
    refine ⟨.inl ⟨rfl, _, SqL.new a3⟩, ?_⟩
    repeat walk_at "s"
    intro t nt
    have st1 : Same H1 (upd H1 t (.tup [.ref (rowV r0 r1 b), .int n, .bl false])) := same_new nt
    have et : (upd H1 t (.tup [.ref (rowV r0 r1 b), .int n, .bl false])) t = some (.tup (entV r0 r1 (b, n, false))) := upd_same
    generalize upd H1 t (.tup [.ref (rowV r0 r1 b), .int n, .bl false]) = H2 at st1 et ⊢
    have lts : ts.length = hist.length := by rw [R.len, lg_len R.lg]
    repeat walk_at "s"
    refine ⟨D, _, _, rfl, rfl, st1 _ _ a3, smallLt (by rw [List.length_map]; omega), ?_⟩
    have b3 := st1 _ _ a3
    have noD : ∀ {p : Addr} {xs : List V}, H2 p = some (.tup xs) → p ≠ D := fun e z => by rw [z, b3] at e; cases e
    refine q _ (fun TT => ((m1 TT).trans (.same st1)).trans (.put b3 (by simp))) ⟨dx, T, ts ++ [t], (b, n, false) :: log, R.next (b, n, false) ?_ ?_ ?_ ?_ ?_ ?_ (fun u xs e => ?_) ?_ (fun z => nomatch z) (del_fine (gd.fine b) n) (by have := gd.len b; have := del_len hlt; omega)⟩
    · rw [upd_ne (fun z => by rw [← z, st1 _ _ g1] at b3; cases b3)]; exact st1 _ _ g1
    · have e := st1 _ _ ((m1 []).tup R.hT)
      rw [upd_ne (noD e)]; exact e
    · rw [upd_ne nDr.symm]; exact st1 _ _ a1
    · rw [upd_ne (fun z => by have := R.nD0; have := R.nD1; cases b <;> simp_all [rowV])]; exact st1 _ _ a2
    · rw [upd_same, List.map_append]; rfl
    · rw [upd_ne (noD et)]; exact et
    · have e2 := st1 _ _ ((m1 []).tup e)
      rw [upd_ne (noD e2)]; exact e2
    · show setR (setR st b (delR (sideR st b) n)) b (insR (sideR (setR st b (delR (sideR st b) n)) b) n) = st
      rw [set_set, side_set, ins_del (gd.fine b).1 hst, set_side]
theorem ok_lrows {CL f : Addr} {fd : FuncData} (B : Bt mg) (F : Fun K "rows" "Live.rows" sLive_rows f fd) (li : LiT K CL) : FnOk P w K mg base CX0 1 f fd ["self"] (spLRows CL) := by
  have nd := scLive_rows.nd
  refine F.ok scLive_rows (fun vs H Q E h => ?_) (fun cdv A outer s H vs Q E hr h => ?_)
  · obtain ⟨g, r0, r1, D, st, hist, rfl, _⟩ := h
    rfl
  · obtain ⟨g, r0, r1, D, st, hist, rfl, ⟨dx, T, ts, log, R⟩, q⟩ := h
    refine ⟨_, (pss_one (ps_ret (pe_tup (pa_cons (pe_callTy call_list_of (by rfl) B.list_ (by decide +kernel) (pa_cons (pe_ix ix_tup (pe_fld (pv 0) rfl) pe_int (fun _ _ => rfl)) pa_nil)) (pa_cons (pe_callTy call_list_of (by rfl) B.list_ (by decide +kernel) (pa_cons (pe_ix ix_tup (pe_fld (pv 0) rfl) pe_int (fun _ _ => rfl)) pa_nil)) pa_nil))))), ?_⟩
    repeat walk_at "s"
    refine ⟨g, CL, dx, _, _, rfl, R.hg, li.cl, li.nR, lf_rows _ _, ?_⟩
    refine ⟨_, _, _, .ref r0, rfl, rfl, .inl (.inl R.hT), at0, ?_⟩
    refine ⟨_, _, rfl, .inl (SqL.new R.h0), ?_⟩
    intro p1 np1
    generalize hg1 : upd H p1 _ = H1
    have s1 : Same H H1 := hg1 ▸ same_new np1
    have e1 := (congrFun hg1 p1).symm.trans upd_same
    clear hg1
    repeat walk_at "s"
    refine ⟨g, CL, dx, _, _, rfl, s1 _ _ R.hg, li.cl, li.nR, lf_rows _ _, ?_⟩
    refine ⟨_, _, _, .ref r1, rfl, rfl, .inl (.inl (s1 _ _ R.hT)), at1, ?_⟩
    refine ⟨_, _, rfl, .inl (SqL.new (s1 _ _ R.h1)), ?_⟩
    intro p2 np2
    generalize hg2 : upd H1 p2 _ = H2
    have s2 : Same H1 H2 := hg2 ▸ same_new np2
    have e2 := (congrFun hg2 p2).symm.trans upd_same
    clear hg2
    repeat walk_at "s"
    intro p3 np3
    generalize hg3 : upd H2 p3 _ = H3
    have s3 : Same H2 H3 := hg3 ▸ same_new np3
    have e3 := (congrFun hg3 p3).symm.trans upd_same
    clear hg3
    exact q p3 p1 p2 H3 ((s1.trans s2).trans s3) ((s1.trans s2).free np3) np1 (s1.free np2) (ne_of_none e1 np2) e3 (s3 _ _ (s2 _ _ e1)) (s3 _ _ e2)
theorem ok_lbelow {CL f : Addr} {fd : FuncData} (F : Fun K "below" "Live.below" sLive_below f fd) (li : LiT K CL) (csums_below : Cal P w K mg base 1 "sums_below" ["one", "other", "number"] (spSums K)) : FnOk P w K mg base CX0 2 f fd ["self", "number"] (spLBelow CL) := by
  have nd := scLive_below.nd
  refine F.ok scLive_below (fun vs H Q E h => ?_) (fun cdv A outer s H vs Q E hr h => ?_)
  · obtain ⟨g, r0, r1, D, n, st, hist, rfl, _⟩ := h
    rfl
  · obtain ⟨g, r0, r1, D, n, st, hist, rfl, ⟨dx, T, ts, log, R⟩, q⟩ := h
    refine ⟨_, (pss_one (ps_ret (pe_own csums_below (hr.mono (by decide)) (by rfl) (pa_cons (pe_ix ix_tup (pe_fld (pv 0) rfl) pe_int (fun _ _ => rfl)) (pa_cons (pe_ix ix_tup (pe_fld (pv 0) rfl) pe_int (fun _ _ => rfl)) (pa_cons (pv 1) pa_nil)))))), ?_⟩
    repeat walk_at "s"
    refine ⟨g, CL, dx, _, _, rfl, R.hg, li.cl, li.nR, lf_rows _ _, ?_⟩
    refine ⟨_, _, _, .ref r0, rfl, rfl, .inl (.inl R.hT), at0, ?_⟩
    repeat walk_at "s"
    refine ⟨g, CL, dx, _, _, rfl, R.hg, li.cl, li.nR, lf_rows _ _, ?_⟩
    refine ⟨_, _, _, .ref r1, rfl, rfl, .inl (.inl R.hT), at1, ?_⟩
    repeat walk_at "s"
    exact ⟨r0, r1, st.1, st.2, n, rfl, SqL.new R.h0, SqL.new R.h1, R.gd.f1.1, R.gd.f2.1, q⟩
theorem ok_lat {CL f : Addr} {fd : FuncData} {T : List (Addr × Str)} (F : Fun K "at" "Live.at" sLive_at f fd) (li : LiT K CL) (csum_at : Cal P w K mg base 5 "sum_at" ["one", "other", "place"] (spSumT K T)) : FnOk P w K mg base CX0 6 f fd ["self", "place"] (spLAt CL T) := by
  have nd := scLive_at.nd
  refine F.ok scLive_at (fun vs H Q E h => ?_) (fun cdv A outer s H vs Q E hr h => ?_)
  · obtain ⟨g, r0, r1, D, n, st, hist, L, w, rfl, _⟩ := h
    rfl
  · obtain ⟨g, r0, r1, D, n, st, hist, L, wv, rfl, ⟨dx, T, ts, log, R⟩, tb, o, hw, q⟩ := h
    have gd := R.gd
    have := gd.l1
    have := gd.l2
    refine ⟨_, (pss_one (ps_ret (pe_own csum_at (hr.mono (by decide)) (by rfl) (pa_cons (pe_ix ix_tup (pe_fld (pv 0) rfl) pe_int (fun _ _ => rfl)) (pa_cons (pe_ix ix_tup (pe_fld (pv 0) rfl) pe_int (fun _ _ => rfl)) (pa_cons (pv 1) pa_nil)))))), ?_⟩
    repeat walk_at "s"
    refine ⟨g, CL, dx, _, _, rfl, R.hg, li.cl, li.nR, lf_rows _ _, ?_⟩
    refine ⟨_, _, _, .ref r0, rfl, rfl, .inl (.inl R.hT), at0, ?_⟩
    repeat walk_at "s"
    refine ⟨g, CL, dx, _, _, rfl, R.hg, li.cl, li.nR, lf_rows _ _, ?_⟩
    refine ⟨_, _, _, .ref r1, rfl, rfl, .inl (.inl R.hT), at1, ?_⟩
    repeat walk_at "s"
    exact ⟨r0, r1, st.1, st.2, n, L, wv, rfl, SqL.new R.h0, SqL.new R.h1, gd.f1.1, gd.f2.1, by omega, by omega, tb, o, hw, q⟩

theorem LvRaw.back {C : Addr} {H H' : Hp} {g dx T D r0 r1 t : Addr} {ts : List Addr} {e : LEnt} {log : List LEnt} {s p : R2} {hist : List R2} {l : List Int} (R : LvRaw C H g dx T D r0 r1 (ts ++ [t]) (e :: log) s (p :: hist))
    (hg : H' g = some (.ins C dx (lf T D))) (hT : H' T = some (.tup [.ref r0, .ref r1])) (hr : H' (rowV r0 r1 e.1) = some (.lst (l.map V.int))) (ho : H' (rowV r0 r1 (!e.1)) = some (.lst ((sideR s (!e.1)).map V.int))) (hD : H' D = some (.lst (ts.map V.ref)))
    (hts : ∀ u xs, H u = some (.tup xs) → H' u = some (.tup xs)) (hl : l = if e.2.2 = true then delR (sideR s e.1) e.2.1 else insR (sideR s e.1) e.2.1) : LvRaw C H' g dx T D r0 r1 ts log p hist := by
  obtain ⟨u1, u2, u3, u4⟩ := R.lg
  have le : ts.length = log.length := by
    have := R.len
    rw [List.length_append, List.length_cons] at this
    exact Nat.succ.inj this
  have ep : setR s e.1 l = p := by rw [hl]; exact u1
  refine ⟨hg, hT, ?_, ?_, hD, le, fun j u x a b => ?_, u4, R.n01, R.nD0, R.nD1, u3⟩
  · rw [← ep]
    obtain ⟨b, n, q⟩ := e
    cases b
    · exact hr
    · exact ho
  · rw [← ep]
    obtain ⟨b, n, q⟩ := e
    cases b
    · exact ho
    · exact hr
  · refine hts _ _ (R.at_ j u x ?_ ?_)
    · rw [List.getElem?_append_left (List.getElem?_eq_some_iff.mp a).1]; exact a
    · rw [List.reverse_cons, List.getElem?_append_left (List.getElem?_eq_some_iff.mp b).1]; exact b
theorem ok_lundo {CL f : Addr} {fd : FuncData} (F : Fun K "undo" "Live.undo" sLive_undo f fd) (li : LiT K CL) (cput_in : Cal P w K mg base 2 "put_in" ["row", "number"] spPutIn) (ctake_out : Cal P w K mg base 2 "take_out" ["row", "number"] spTakeOut) : FnOk P w K mg base CX0 3 f fd ["self"] (spLUndo CL) := by
  have nd := scLive_undo.nd
  refine F.ok scLive_undo (fun vs H Q E h => ?_) (fun cdv A outer s H vs Q E hr h => ?_)
  · obtain ⟨g, r0, r1, D, st, hist, rfl, _⟩ := h
    rfl
  · obtain ⟨g, r0, r1, D, st, hist, rfl, ⟨dx, T, us, log, R⟩, q0, q⟩ := h
    refine ⟨_, (pss_cons (ps_if (pt_not (pt_truth (pe_fld (pv 0) rfl) (fun _ => rfl))) (pss_one (ps_ret pe_bl)) pss_nil)
      (pss_cons (ps_asg (pe_bm0 PySem.F.plainAttrs_list PySem.F.slot_list_pop PySem.F.type_list_pop mt_pop (pe_fld (pv 0) rfl)) (pg_tup rfl (pgs_cons (pg_name (i := 1) nd rfl (.inl rfl)) (pgs_cons (pg_name (i := 2) nd rfl (.inl rfl)) (pgs_cons (pg_name (i := 3) nd rfl (.inl rfl)) pgs_nil)))))
      (Evl.pss_cut (ps_if (pt_val (pv 3)) (pss_one (ps_expr (pe_own ctake_out (hr.mono (by decide)) (by rfl) (pa_cons (pv 1) (pa_cons (pv 2) pa_nil))))) (pss_one (ps_expr (pe_own cput_in (hr.mono (by decide)) (by rfl) (pa_cons (pv 1) (pa_cons (pv 2) pa_nil))))))
      (pss_one (ps_ret pe_bl))))), ?_⟩
    repeat walk_at "s"
    refine ⟨g, CL, dx, _, _, rfl, R.hg, li.cl, li.nD, lf_done _ _, ?_⟩
    refine ⟨_, .inl ⟨_, SqL.new R.hD, rfl⟩, ?_⟩
    cases hist with
    | nil =>
      have e0 : log = [] := List.eq_nil_of_length_eq_zero (lg_len R.lg)
      have e1 : us = [] := List.eq_nil_of_length_eq_zero (by rw [R.len, e0]; rfl)
      rw [e1]
      refine iteT ?_
      repeat walk_at "s"
      exact q0 rfl
    | cons p rest =>
      obtain ⟨e, log, rfl⟩ : ∃ e l, log = e :: l := by
        cases log with
        | nil => exact R.lg.elim
        | cons e l => exact ⟨e, l, rfl⟩
      obtain ⟨ts, t, rfl⟩ : ∃ ts t, us = ts ++ [t] := by
        rcases List.eq_nil_or_concat us with z | ⟨m, v, z⟩
        · have := R.len
          rw [z] at this
          cases this
        · exact ⟨m, v, by rw [z, List.concat_eq_append]⟩
      have le : ts.length = log.length := by
        have := R.len
        rw [List.length_append, List.length_cons] at this
        exact Nat.succ.inj this
      have et := R.at_ ts.length t e (by rw [List.getElem?_append_right (Nat.le_refl _), Nat.sub_self]; rfl) (by rw [List.reverse_cons, List.getElem?_append_right (by rw [List.length_reverse]; omega), List.length_reverse, le, Nat.sub_self]; rfl)
      rw [show ((ts ++ [t]).map V.ref).isEmpty = false from by rw [List.map_append]; cases ts <;> rfl]
      refine iteF ?_
      repeat walk_at "s"
      refine ⟨g, CL, dx, _, _, rfl, R.hg, li.cl, li.nD, lf_done _ _, ?_⟩
      refine ⟨.inl ⟨rfl, _, SqL.new R.hD⟩, ?_⟩
      refine ⟨D, _, .ref t, rfl, rfl, R.hD, by simp, ?_⟩
      rw [show ((ts ++ [t]).map V.ref).dropLast = ts.map V.ref from by rw [List.map_append]; exact List.dropLast_concat]
      have m1 : ∀ TT, Lv TT [r0, r1, D] H (upd H D (.lst (ts.map V.ref))) := fun TT => Lv.put R.hD (by simp)
      have a3 : (upd H D (.lst (ts.map V.ref))) D = some (.lst (ts.map V.ref)) := upd_same
      have nDr : ∀ b, rowV r0 r1 b ≠ D := fun b => by cases b; exact R.nD0.symm; exact R.nD1.symm
      have a1 : ∀ b, (upd H D (.lst (ts.map V.ref))) (rowV r0 r1 b) = some (.lst ((sideR st b).map V.int)) := fun b => by rw [upd_ne (nDr b)]; exact R.row b
      generalize upd H D (.lst (ts.map V.ref)) = H1 at m1 a1 a3 ⊢
      have et1 := (m1 []).tup et
      refine ⟨t, _, rfl, .inl (.inl et1), rfl, _, _, rfl, _, _, rfl, _, _, rfl, rfl, ?_⟩
      have gd := R.gd
      obtain ⟨u1, u2, u3, u4⟩ := id R.lg
      refine ⟨fun σ' H' => (∀ TT, Lv TT [r0, r1, D] H H') ∧ LiveAt CL H' g r0 r1 D p rest, ?_, ?_⟩
      · have fin : ∀ l : List Int, l = (if e.2.2 = true then delR (sideR st e.1) e.2.1 else insR (sideR st e.1) e.2.1) → (∀ TT, Lv TT [r0, r1, D] H (upd H1 (rowV r0 r1 e.1) (.lst (l.map V.int)))) ∧ LiveAt CL (upd H1 (rowV r0 r1 e.1) (.lst (l.map V.int))) g r0 r1 D p rest := fun l hl => by
          have m2 : ∀ TT, Lv TT [r0, r1, D] H1 (upd H1 (rowV r0 r1 e.1) (.lst (l.map V.int))) := fun TT => Lv.put (a1 e.1) (rowV_mem _ _ _ _)
          refine ⟨fun TT => (m1 TT).trans (m2 TT), dx, T, ts, log, R.back ((m2 []).ins ((m1 []).ins R.hg)) ((m2 []).tup ((m1 []).tup R.hT)) upd_same ?_ ?_ (fun u xs x => (m2 []).tup ((m1 []).tup x)) hl⟩
          · rw [upd_ne (by cases e.1; exact R.n01.symm; exact R.n01)]; exact a1 _
          · rw [upd_ne (nDr _).symm]; exact a3
        obtain ⟨b, n, pt⟩ := e
        repeat walk_at "s"
        cases pt
        · refine iteF ?_
          repeat walk_at "s"
          refine ⟨rowV r0 r1 b, sideR st b, n, rfl, a1 b, (gd.fine b).1, by have := gd.len b; omega, ?_⟩
          exact fin _ rfl
        · refine iteT ?_
          repeat walk_at "s"
          refine ⟨rowV r0 r1 b, sideR st b, n, rfl, a1 b, (gd.fine b).1, by have := gd.len b; omega, u2 rfl, ?_⟩
          exact fin _ rfl
      · rintro σ' H' ⟨m, L⟩
        repeat walk_at "s"
        exact q p rest H' rfl m L

theorem ok_lawin {f : Addr} {fd : FuncData} (B : Bt mg) (F : Fun K "_law_in" "_law_in" slaw_in f fd) : FnOk P w K mg base CX0 1 f fd ["row", "number"] (spInL K) := by
  have nd := sclaw_in.nd
  refine F.ok sclaw_in (fun vs H Q E h => ?_) (fun cdv A outer s H vs Q E hr h => ?_)
  · obtain ⟨p, ns, n, rfl, _⟩ := h
    rfl
  · obtain ⟨p, ns, n, rfl, hS, sn, l1, q⟩ := h
    have hl := cntB_le ns (n + 1)
    refine ⟨_, (pss_cons (ps_set (i := 3) nd rfl (.inl rfl) (pe_callB call_len_seq (by rfl) B.len_ (by decide +kernel) (pa_cons (pe_lc (own := [("one", 2)]) (by rfl) nd (pi_list (pv 0)) (blkOk_by (own := [("one", 2)]) (N := ["row", "number", "one", "at"]) (sc := defScope slaw_in) (by decide +kernel)) (fun _ _ _ _ _ => (pg_name (i := 2) nd rfl (.inl rfl))) (fun _ _ _ _ _ => (pts_one (pt_cmpR op_le (pv 2) (pv 1) (nomark _)))) (fun _ _ _ _ _ => (pv 2))) pa_nil)))
      (pss_one (ps_ret (pe_op op_cat (pe_op op_cat (pe_slice sl_list (pv 0) po_none (po_some (pv 3))) (pe_lst (pa_cons (pv 1) pa_nil))) (pe_slice sl_list (pv 0) (po_some (pv 3)) po_none))))), ?_⟩
    repeat walk_at "s"
    refine ⟨⟨_, hS⟩, ?_⟩
    intro D nD
    refine lc_list (K := K) (a := p) (xs := ns.map V.int) (fun j H' => Same H H' ∧ H' D = some (.lst (((ns.take j).filter fun y => decide (y ≤ n)).map V.int))) ⟨same_new nD, upd_same⟩ (fun j Hj _ w => w.1.seq hS) (fun j v Hj hv w => ?_) (fun H4 w => ?_)
    · obtain ⟨w1, w2⟩ := w
      obtain ⟨y, hy, rfl⟩ := int_at hv
      refine ⟨rfl, ?_⟩
      repeat walk_at "s"
      refine ite2 (fun z => ?_) (fun z => ?_)
      · repeat walk_at "s"
        exact fil_yes nD w1 w2 hy (by omega) z
      · exact ⟨w1, fil_no w2 hy z⟩
    obtain ⟨s4, w2⟩ := w
    rw [List.length_map, take_all] at w2
    refine ⟨_, _, rfl, .inl (SqL.new w2), ?_⟩
    rw [List.length_map, fil_len_le]
    repeat walk_at "s"
    refine ⟨p, ns.map V.int, rfl, s4.seq hS, ?_⟩
    rw [cut_pre, ← List.map_take]
    intro p5 np5
    generalize hg5 : upd H4 p5 _ = H5
    have s5 : Same H4 H5 := hg5 ▸ same_new np5
    have e5 := (congrFun hg5 p5).symm.trans upd_same
    clear hg5
    repeat walk_at "s"
    intro p6 np6
    generalize hg6 : upd H5 p6 _ = H6
    have s6 : Same H5 H6 := hg6 ▸ same_new np6
    have e6 := (congrFun hg6 p6).symm.trans upd_same
    clear hg6
    refine ⟨_, _, _, _, rfl, rfl, s6 _ _ e5, e6, small (by rw [List.length_map, List.length_take]; show _ + 1 ≤ 100000; omega), ?_⟩
    intro p7 np7
    generalize hg7 : upd H6 p7 _ = H7
    have s7 : Same H6 H7 := hg7 ▸ same_new np7
    have e7 := (congrFun hg7 p7).symm.trans upd_same
    clear hg7
    repeat walk_at "s"
    refine ⟨p, ns.map V.int, rfl, ((s4.trans s5).trans (s6.trans s7)).seq hS, ?_⟩
    rw [cut_suf, ← List.map_drop]
    intro p8 np8
    generalize hg8 : upd H7 p8 _ = H8
    have s8 : Same H7 H8 := hg8 ▸ same_new np8
    have e8 := (congrFun hg8 p8).symm.trans upd_same
    clear hg8
    refine ⟨_, _, _, _, rfl, rfl, s8 _ _ e7, e8, small (by rw [List.length_append, List.length_map, List.length_map, List.length_take, List.length_drop]; show _ + 1 + _ ≤ 100000; omega), ?_⟩
    intro p9 np9
    generalize hg9 : upd H8 p9 _ = H9
    have s9 : Same H8 H9 := hg9 ▸ same_new np9
    have e9 := (congrFun hg9 p9).symm.trans upd_same
    clear hg9
    refine q p9 H9 (((((s4.trans s5).trans s6).trans s7).trans s8).trans s9) ((((s4.trans s5).trans (s6.trans s7)).trans s8).free np9) ?_
    rw [e9, ← ins_behind sn, List.map_append, List.map_cons, List.append_assoc]
    rfl
theorem ok_lawout {f : Addr} {fd : FuncData} (F : Fun K "_law_out" "_law_out" slaw_out f fd) : FnOk P w K mg base CX0 1 f fd ["row", "number"] (spOutL K) := by
  have nd := sclaw_out.nd
  refine F.ok sclaw_out (fun vs H Q E h => ?_) (fun cdv A outer s H vs Q E hr h => ?_)
  · obtain ⟨p, ns, n, rfl, _⟩ := h
    rfl
  · obtain ⟨p, ns, n, rfl, hS, sn, l1, hn, q⟩ := h
    have hst := (stands_at sn).mpr hn
    have hlt := (List.getElem?_eq_some_iff.mp hst).1
    refine ⟨_, (pss_cons (ps_set (i := 2) nd rfl (.inl rfl) (pe_bm PySem.F.plainAttrs_list PySem.F.slot_list_index PySem.F.type_list_index mt_index (pv 0) (pa_cons (pv 1) pa_nil)))
      (pss_one (ps_ret (pe_op op_cat (pe_slice sl_list (pv 0) po_none (po_some (pv 2))) (pe_slice sl_list (pv 0) (po_some (pe_op op_add (pv 2) pe_int)) po_none))))), ?_⟩
    repeat walk_at "s"
    refine ⟨.inl ⟨rfl, _, hS⟩, ?_⟩
    repeat walk_at "s"
    refine ⟨p, _, .int n, cntB ns n, .int n, rfl, rfl, hS, rfl, by rw [List.all_map]; exact List.all_eq_true.mpr fun _ _ => rfl, by rw [List.getElem?_map, hst]; rfl, ?_, fun m z' hm hz => ?_, ?_⟩
    · simp [eqV]
    · rw [List.getElem?_map] at hz
      obtain ⟨x, hx, rfl⟩ := Option.map_eq_some_iff.mp hz
      have := (cntB_lt (n := n) sn hx).mpr hm
      have ne : x ≠ n := by omega
      simp [eqV, ne]
    repeat walk_at "s"
    refine ⟨p, ns.map V.int, rfl, hS, ?_⟩
    rw [cut_pre, ← List.map_take]
    intro p5 np5
    generalize hg5 : upd H p5 _ = H5
    have s5 : Same H H5 := hg5 ▸ same_new np5
    have e5 := (congrFun hg5 p5).symm.trans upd_same
    clear hg5
    repeat walk_at "s"
    refine ⟨p, ns.map V.int, rfl, s5.seq hS, ?_⟩
    rw [show ((cntB ns n : Nat) : Int) + 1 = ((cntB ns n + 1 : Nat) : Int) from rfl, cut_suf, ← List.map_drop]
    intro p6 np6
    generalize hg6 : upd H5 p6 _ = H6
    have s6 : Same H5 H6 := hg6 ▸ same_new np6
    have e6 := (congrFun hg6 p6).symm.trans upd_same
    clear hg6
    refine ⟨_, _, _, _, rfl, rfl, s6 _ _ e5, e6, small (by rw [List.length_map, List.length_map, List.length_take, List.length_drop]; omega), ?_⟩
    intro p7 np7
    generalize hg7 : upd H6 p7 _ = H7
    have s7 : Same H6 H7 := hg7 ▸ same_new np7
    have e7 := (congrFun hg7 p7).symm.trans upd_same
    clear hg7
    refine q p7 H7 ((s5.trans s6).trans s7) ((s5.trans s6).free np7) ?_
    rw [e7, ← List.map_append]
    unfold delR
    rw [List.eraseIdx_eq_take_drop_succ]
theorem ok_lawnum {f : Addr} {fd : FuncData} (B : Bt mg) (F : Fun K "_law_number" "_law_number" slaw_number f fd) (claw_take : Cal P w K mg base 1 "_law_take" ["draws", "many"] spTake) : FnOk P w K mg base CX0 2 f fd ["draws", "row"] spNumL := by
  have nd := sclaw_number.nd
  refine F.ok sclaw_number (fun vs H Q E h => ?_) (fun cdv A outer s H vs Q E hr h => ?_)
  · obtain ⟨a, p, ns, rfl, _⟩ := h
    rfl
  · obtain ⟨a, p, ns, rfl, h0, hp, npa, l1, fn, q⟩ := h
    have hu := hr.units
    refine ⟨_, (pss_cons (ps_if (PW.pt (pw_and (pt_cmpR (op_neD hu) (pv 1) (pe_lst pa_nil) (nomark _)) (pw_and1 (pt_cmpR op_gt (pe_own claw_take (hr.mono (by decide)) (by rfl) (pa_cons (pv 0) (pa_cons pe_int pa_nil))) pe_int (nomark _))))) (pss_cons (ps_set (i := 2) nd rfl (.inl rfl) (pe_op op_add (pe_ix ix_list (pv 1) (pe_op op_mod (pe_own claw_take (hr.mono (by decide)) (by rfl) (pa_cons (pv 0) (pa_cons pe_int pa_nil))) (pe_callB call_len_seq (by rfl) B.len_ (by decide +kernel) (pa_cons (pv 1) pa_nil))) (fun _ _ => rfl)) (pe_ix ix_list (pe_lst (pa_cons pe_int (pa_cons pe_int (pa_cons pe_int (pa_cons (pe_un un_neg pe_int) pa_nil))))) (pe_own claw_take (hr.mono (by decide)) (by rfl) (pa_cons (pv 0) (pa_cons pe_int pa_nil))) (fun _ _ => rfl))))
      (Evl.pss_cut (ps_if (pt_cmpR op_eq (pe_own claw_take (hr.mono (by decide)) (by rfl) (pa_cons (pv 0) (pa_cons pe_int pa_nil))) pe_int (nomark _)) (pss_one (ps_set (i := 2) nd rfl (.inl rfl) (pe_op op_fdivW (pe_op op_add (pv 2) (pe_ix ix_list (pv 1) (pe_op op_mod (pe_own claw_take (hr.mono (by decide)) (by rfl) (pa_cons (pv 0) (pa_cons pe_int pa_nil))) (pe_callB call_len_seq (by rfl) B.len_ (by decide +kernel) (pa_cons (pv 1) pa_nil))) (fun _ _ => rfl))) pe_int))) pss_nil)
      (pss_one (ps_ret (pe_callB (call_max2 rfl) (by rfl) B.max_ (by decide +kernel) (pa_cons (pe_op op_sub pe_int (pe_op op_pow pe_int pe_int)) (pa_cons (pe_callB (call_min2 rfl) (by rfl) B.min_ (by decide +kernel) (pa_cons (pe_op op_pow pe_int pe_int) (pa_cons (pv 2) pa_nil))) pa_nil))))))) pss_nil)
      (pss_one (ps_ret (pe_ix ix_list (pe_lst (pa_cons (pe_op op_pow pe_int pe_int) (pa_cons (pe_op op_sub pe_int (pe_op op_pow pe_int pe_int)) (pa_cons (pe_op op_sub (pe_own claw_take (hr.mono (by decide)) (by rfl) (pa_cons (pv 0) (pa_cons pe_int pa_nil))) pe_int) (pa_cons (pe_op op_sub (pe_own claw_take (hr.mono (by decide)) (by rfl) (pa_cons (pv 0) (pa_cons pe_int pa_nil))) pe_int) pa_nil))))) (pe_own claw_take (hr.mono (by decide)) (by rfl) (pa_cons (pv 0) (pa_cons pe_int pa_nil))) (fun _ _ => rfl))))), ?_⟩
    have clamp : ∀ v : Int, Small (if (0 : Int) - 10 ^ Int.toNat 15 < (if v < (10 : Int) ^ Int.toNat 15 then v else 10 ^ Int.toNat 15) then (if v < (10 : Int) ^ Int.toNat 15 then v else 10 ^ Int.toNat 15) else 0 - 10 ^ Int.toNat 15) := fun v => by
      have e : (10 : Int) ^ Int.toNat 15 = 1000000000000000 := rfl
      rw [e]
      unfold Small
      split <;> split <;> omega
    refine if_split (fun H1 => ExtD a H H1 ∧ ns ≠ []) (fun H1 => ExtD a H H1) (fun KK kt kf => ?_) (fun H1 h1 => ?_) (fun H1 x1 => ?_)
    · repeat walk_at "s"
      intro p1 np1
      generalize hg1 : upd H p1 _ = H1
      have s1 : Same H H1 := hg1 ▸ same_new np1
      have e1 := (congrFun hg1 p1).symm.trans upd_same
      clear hg1
      have n1 : p1 ≠ a := DrawAt.ne (by walk_at "hand") np1
      refine ⟨_, _, dp_ints (SqL.new (s1 _ _ hp)), dp_ints (ns := []) (SqL.new e1), shaped_ints _, shaped_ints _, ?_⟩
      rw [eqv_ints]
      refine ⟨_, rfl, ?_⟩
      by_cases z : ns = []
      · rw [decide_eq_true z]
        exact kf H1 (.same s1)
      · rw [decide_eq_false z]
        refine iteT ?_
        have h1 := h0.same s1
        repeat walk_at "s"
        refine ⟨a, _, rfl, (by walk_at "hand"), (by walk_at "pos"), ?_⟩
        intro r2 H2 x2 ra2 rb2 rc2
        repeat walk_at "s"
        have fin : ∀ b, KK b H2 := fun b => by
          cases b
          · exact kf H2 ((ExtD.same s1).trans x2)
          · exact kt H2 ⟨(ExtD.same s1).trans x2, z⟩
        exact fin _
    · obtain ⟨x1, hne⟩ := h1
      have pn := List.length_pos_iff.mpr hne
      have h1 := x1.hand h0
      have hp1 := x1.keep _ _ hp npa
      have item : ∀ r : Int, 0 ≤ r → ∃ x, atI (ns.map V.int) (r % (ns.length : Int)) = some (.int x) ∧ Small x := fun r hr => by
        have m0 := Int.emod_nonneg r (show (ns.length : Int) ≠ 0 by omega)
        have m1 := Int.emod_lt_of_pos r (show (0 : Int) < (ns.length : Int) by omega)
        obtain ⟨k, hk⟩ : ∃ k : Nat, r % (ns.length : Int) = (k : Int) := ⟨(r % (ns.length : Int)).toNat, by omega⟩
        obtain ⟨x, hx⟩ : ∃ x, ns[k]? = some x := ⟨_, List.getElem?_eq_getElem (by omega)⟩
        exact ⟨x, by rw [hk]; exact atI_nat (by rw [List.getElem?_map, hx]; rfl), fn.2 x (List.mem_of_getElem? hx)⟩
      repeat walk_at "s"
      refine ⟨a, _, rfl, (by walk_at "hand"), (by walk_at "pos"), ?_⟩
      intro r2 H2 x2 ra2 rb2 rc2
      repeat walk_at "s"
      have hp2 := x2.keep _ _ hp1 npa
      have h2 := x2.hand h1
      refine ⟨_, _, rfl, .inl (SqL.new hp2), ?_⟩
      rw [List.length_map]
      repeat walk_at "s"
      obtain ⟨u, hu1, su⟩ := item r2 ra2
      refine ⟨_, _, _, .int u, rfl, rfl, SqL.new hp2, hu1, ?_⟩
      repeat walk_at "s"
      intro p3 np3
      generalize hg3 : upd H2 p3 _ = H3
      have s3 : Same H2 H3 := hg3 ▸ same_new np3
      have e3 := (congrFun hg3 p3).symm.trans upd_same
      clear hg3
      have n3 : p3 ≠ a := DrawAt.ne (by walk_at "hand") np3
      repeat walk_at "s"
      refine ⟨a, _, rfl, (by walk_at "hand"), (by walk_at "pos"), ?_⟩
      intro r4 H4 x4 ra4 rb4 rc4
      obtain ⟨d, hd, d0, d1⟩ : ∃ y : Int, atI [V.int 0, V.int 0, V.int 1, V.int (-1)] r4 = some (.int y) ∧ -1 ≤ y ∧ y ≤ 1 := by
        obtain ⟨x, h1, h2⟩ := at_draw (xs := [V.int 0, V.int 0, V.int 1, V.int (-1)]) ra4 rb4
        simp only [List.mem_cons, List.not_mem_nil, or_false] at h2
        rcases h2 with rfl | rfl | rfl | rfl
        all_goals exact ⟨_, h1, by decide, by decide⟩
      refine ⟨_, _, _, _, rfl, rfl, SqL.new (x4.keep _ _ e3 n3), hd, ?_⟩
      have h4 := x4.hand (h2.same s3)
      have hp4 := x4.keep _ _ (s3 _ _ hp2) npa
      have X4 := ((x1.trans x2).trans (.same s3)).trans x4
      unfold Small at su
      repeat walk_at "s"
      refine ⟨fun σ' H' => ExtD a H H' ∧ ∃ v : Int, σ' = [some (.ref a), some (.ref p), some (.int v)], ?_, ?_⟩
      · repeat walk_at "s"
        refine ⟨a, _, rfl, (by walk_at "hand"), (by walk_at "pos"), ?_⟩
        intro r5 H5 x5 ra5 rb5 rc5
        refine ⟨rfl, _, rfl, ?_⟩
        have h5 := x5.hand h4
        have hp5 := x5.keep _ _ hp4 npa
        refine ite2 (fun z => ?_) (fun z => ?_)
        · repeat walk_at "s"
          refine ⟨a, _, rfl, (by walk_at "hand"), (by walk_at "pos"), ?_⟩
          intro r6 H6 x6 ra6 rb6 rc6
          repeat walk_at "s"
          have hp6 := x6.keep _ _ hp5 npa
          refine ⟨_, _, rfl, .inl (SqL.new hp6), ?_⟩
          rw [List.length_map]
          repeat walk_at "s"
          obtain ⟨u2, hu2, su2⟩ := item r6 ra6
          refine ⟨_, _, _, .int u2, rfl, rfl, SqL.new hp6, hu2, ?_⟩
          repeat walk_at "s"
          exact ⟨(X4.trans x5).trans x6, _, rfl⟩
        · exact ⟨X4.trans x5, _, rfl⟩
      · rintro σ' H' ⟨X, v, rfl⟩
        repeat walk_at "s"
        refine ⟨_, _, rfl, ?_⟩
        refine ⟨_, _, rfl, ?_⟩
        exact q _ H' X (clamp v)
    · have h1 := x1.hand h0
      repeat walk_at "s"
      refine ⟨a, _, rfl, (by walk_at "hand"), (by walk_at "pos"), ?_⟩
      intro r2 H2 x2 ra2 rb2 rc2
      repeat walk_at "s"
      have h2 := x2.hand h1
      refine ⟨a, _, rfl, (by walk_at "hand"), (by walk_at "pos"), ?_⟩
      intro r3 H3 x3 ra3 rb3 rc3
      repeat walk_at "s"
      have h3 := x3.hand h2
      intro p4 np4
      generalize hg4 : upd H3 p4 _ = H4
      have s4 : Same H3 H4 := hg4 ▸ same_new np4
      have e4 := (congrFun hg4 p4).symm.trans upd_same
      clear hg4
      have n4 : p4 ≠ a := DrawAt.ne (by walk_at "hand") np4
      repeat walk_at "s"
      refine ⟨a, _, rfl, (by walk_at "hand"), (by walk_at "pos"), ?_⟩
      intro r5 H5 x5 ra5 rb5 rc5
      obtain ⟨d, hd, sd⟩ : ∃ y : Int, atI [V.int (10 ^ Int.toNat 15), V.int (0 - 10 ^ Int.toNat 15), V.int (r2 - 4), V.int (r3 - 500)] r5 = some (.int y) ∧ Small y := by
        obtain ⟨x, h1, h2⟩ := at_draw (xs := [V.int (10 ^ Int.toNat 15), V.int (0 - 10 ^ Int.toNat 15), V.int (r2 - 4), V.int (r3 - 500)]) ra5 rb5
        have e : (10 : Int) ^ Int.toNat 15 = 1000000000000000 := rfl
        rw [e] at h1 h2
        simp only [List.mem_cons, List.not_mem_nil, or_false] at h2
        unfold Small
        rcases h2 with rfl | rfl | rfl | rfl
        all_goals exact ⟨_, h1, by omega, by omega⟩
      refine ⟨_, _, _, _, rfl, rfl, SqL.new (x5.keep _ _ e4 n4), hd, ?_⟩
      exact q d H5 ((((x1.trans x2).trans x3).trans (.same s4)).trans x5) sd

theorem ok_deedb {CL f : Addr} {fd : FuncData} {T : List (Addr × Str)} (B : Bt mg) (F : Fun K "_law_deed" "_law_deed" slaw_deed f fd) (cLive_put : Ob.CalM P w K mg base 3 CL "put" ["self", "side", "number"] (spLPut CL)) (cLive_take : Ob.CalM P w K mg base 3 CL "take" ["self", "side", "number"] (spLTake CL)) (cLive_undo : Ob.CalM P w K mg base 3 CL "undo" ["self"] (spLUndo CL)) (claw_take : Cal P w K mg base 1 "_law_take" ["draws", "many"] spTake)
    (claw_in : Cal P w K mg base 1 "_law_in" ["row", "number"] (spInL K)) (claw_out : Cal P w K mg base 1 "_law_out" ["row", "number"] (spOutL K)) (claw_number : Cal P w K mg base 2 "_law_number" ["draws", "row"] spNumL) : FnOk P w K mg base CX0 4 f fd ["draws", "live", "state"] (spDeedB K CL T) := by
  have nd := sclaw_deed.nd
  refine F.ok sclaw_deed (fun vs H Q E h => ?_) (fun cdv A outer s H vs Q E hr h => ?_)
  · obtain ⟨M, a, g, st, pl, r0, r1, D, s, hist, rfl, _⟩ := h
    rfl
  · obtain ⟨M, a, g, st, pl, r0, r1, D, s, hist, rfl, W, lh, q⟩ := h
    have hu := hr.units
    obtain ⟨b0, bs, est, epl, B0, lbs, Bs⟩ := W.state
    refine ⟨_, (pss_cons (ps_asg (pv 2) (pg_lst rfl (pgs_cons (pg_name (i := 3) nd rfl (.inl rfl)) (pgs_cons (pg_name (i := 4) nd rfl (.inl rfl)) pgs_nil))))
      (pss_cons (ps_set (i := 5) nd rfl (.inl rfl) (pe_own claw_take (hr.mono (by decide)) (by rfl) (pa_cons (pv 0) (pa_cons pe_int pa_nil))))
      (pss_cons (ps_if (pt_cmpR op_lt (pv 5) pe_int (nomark _)) (pss_cons (ps_set (i := 6) nd rfl (.inl rfl) (pe_cmpR (op_neD hu) (pv 4) (pe_lst pa_nil) (nomark _)))
      (Evl.pss_cut (ps_if (pt_val (pv 6)) (pss_one (ps_asg (pe_bm0 PySem.F.plainAttrs_list PySem.F.slot_list_pop PySem.F.type_list_pop mt_pop (pv 4)) (pg_sub (pv 2) pe_int set_list))) pss_nil)
      (pss_cons (ps_set (i := 7) nd rfl (.inl rfl) (Ob.pe_m0 (pv 1) cLive_undo (hr.mono (by decide))))
      (pss_one (ps_ret (pe_and (pe_callB call_isi (by rfl) B.isinstance_ (by decide +kernel) (pa_cons (pv 7) (pa_cons (pe_bltn (v := .ty "bool") (by rfl) B.bool_ (by decide +kernel) rfl) pa_nil))) (pe_one (pe_cmpR op_eq (pv 7) (pv 6) (nomark _))))))))) pss_nil)
      (pss_cons (ps_set (i := 8) nd rfl (.inl rfl) (pe_own claw_take (hr.mono (by decide)) (by rfl) (pa_cons (pv 0) (pa_cons pe_int pa_nil))))
      (pss_cons (ps_set (i := 9) nd rfl (.inl rfl) (pe_ix ix_list (pv 3) (pv 8) (fun _ _ => rfl)))
      (Evl.pss_cut (ps_if (PW.pt (pw_and (pt_cmpR (op_neD hu) (pv 9) (pe_lst pa_nil) (nomark _)) (pw_and1 (PW.pt (pw_or (pt_cmpR op_lt (pv 5) pe_int (nomark _)) (pw_or1 (pt_cmpR op_gt (pe_callB call_len_seq (by rfl) B.len_ (by decide +kernel) (pa_cons (pv 9) pa_nil)) pe_int (nomark _)))))))) (pss_cons (ps_set (i := 10) nd rfl (.inl rfl) (pe_ix ix_list (pv 9) (pe_op op_mod (pe_own claw_take (hr.mono (by decide)) (by rfl) (pa_cons (pv 0) (pa_cons pe_int pa_nil))) (pe_callB call_len_seq (by rfl) B.len_ (by decide +kernel) (pa_cons (pv 9) pa_nil))) (fun _ _ => rfl)))
      (pss_cons (ps_set (i := 9) nd rfl (.inl rfl) (pe_own claw_out (hr.mono (by decide)) (by rfl) (pa_cons (pv 9) (pa_cons (pv 10) pa_nil))))
      (pss_one (ps_set (i := 11) nd rfl (.inl rfl) (Ob.pe_m (pv 1) cLive_take (hr.mono (by decide)) (pa_cons (pv 8) (pa_cons (pv 10) pa_nil))))))) (pss_cons (ps_set (i := 10) nd rfl (.inl rfl) (pe_own claw_number (hr.mono (by decide)) (by rfl) (pa_cons (pv 0) (pa_cons (pv 9) pa_nil))))
      (pss_cons (ps_set (i := 9) nd rfl (.inl rfl) (pe_own claw_in (hr.mono (by decide)) (by rfl) (pa_cons (pv 9) (pa_cons (pv 10) pa_nil))))
      (pss_one (ps_set (i := 11) nd rfl (.inl rfl) (Ob.pe_m (pv 1) cLive_put (hr.mono (by decide)) (pa_cons (pv 8) (pa_cons (pv 10) pa_nil))))))))
      (pss_cons (ps_expr (pe_bm PySem.F.plainAttrs_list PySem.F.slot_list_append PySem.F.type_list_append mt_append (pv 4) (pa_cons (pv 3) pa_nil)))
      (pss_cons (ps_asg (pe_ix ix_list (pe_lst (pa_cons (pe_lst (pa_cons (pv 9) (pa_cons (pe_ix ix_list (pv 3) pe_int (fun _ _ => rfl)) pa_nil))) (pa_cons (pe_lst (pa_cons (pe_ix ix_list (pv 3) pe_int (fun _ _ => rfl)) (pa_cons (pv 9) pa_nil))) pa_nil))) (pv 8) (fun _ _ => rfl)) (pg_sub (pv 2) pe_int set_list))
      (pss_one (ps_ret (pe_cmpR op_isN (pv 11) pe_non (nomark _)))))))))))), ?_⟩
    repeat walk_at "s"
    refine ⟨st, _, rfl, SqL.new est, rfl, _, _, rfl, _, _, rfl, rfl, ?_⟩
    have nds := W.nd
    simp only [List.nodup_cons, List.mem_cons, not_or] at nds
    obtain ⟨⟨na0, na1, naD, nas, nap, naM⟩, ⟨n01, n0D, n0s, n0p, n0M⟩, ⟨n1D, n1s, n1p, n1M⟩, ⟨nDs, nDp, nDM⟩, ⟨nsp, nsM⟩, npM, nM⟩ := nds
    repeat walk_at "s"
    refine ⟨a, 8, rfl, W.draws, by decide, fun r1' H1 x1 ra1 rb1 _ => ?_⟩
    have W1 := W.ext x1
    have L1 : Lv T [a, r0, r1, D, st, pl] H H1 := .ext x1 W.draws (by simp)
    have est1 := x1.keep _ _ est (Ne.symm nas)
    have epl1 := x1.keep _ _ epl (Ne.symm nap)
    have xS : Lv T (a :: r0 :: r1 :: D :: st :: pl :: M) H H1 := .ext x1 W.draws (by simp)
    have B1 := B0.lv xS
    have Bs1 : ∀ (j : Nat) (c : Addr) (x : R2), bs[j]? = some c → hist.reverse[j]? = some x → Both (a :: r0 :: r1 :: D :: st :: pl :: M) H1 c x := fun j c x h1 h2 => (Bs j c x h1 h2).lv xS
    repeat walk_at "s"
    refine ite2 (fun z => ?_) (fun z => ?_)
    · -- undo
      repeat walk_at "s"
      intro p2 np2
      generalize hg2 : upd H1 p2 _ = H2
      have s2 : Same H1 H2 := hg2 ▸ same_new np2
      have e2 := (congrFun hg2 p2).symm.trans upd_same
      clear hg2
      have W2 := W1.same s2
      have L2 : Lv T [a, r0, r1, D, st, pl] H H2 := L1.trans (.same s2)
      refine ⟨_, _, .lst (SqL.new (s2 _ _ epl1)) (dpAll_db (ss := hist.reverse) (by rw [lbs, List.length_reverse]) fun j c x h1 h2 => (Bs1 j c x h1 h2).lv (.same s2 : Lv T _ _ _)), dp_ints (ns := []) (SqL.new e2), shaped_pile _, shaped_ints _, ?_⟩
      rw [eqv_pile]
      cases hist with
      | nil =>
        rw [show decide (([] : List R2).reverse = []) = true from rfl]
        repeat walk_at "s"
        refine ⟨fun σ' H' => H' = H2 ∧ σ' = [some (.ref a), some (.ref g), some (.ref st), some (.ref b0), some (.ref pl), some (.int r1'), some (.bl false), none, none, none, none, none], ?_, ?_⟩
        · repeat walk_at "s"
          exact ⟨rfl, rfl⟩
        · rintro σ' H' ⟨rfl, rfl⟩
          repeat walk_at "s"
          obtain ⟨dx, TT, ts, log, R⟩ := W2.live
          refine ⟨g, dx, _, rfl, R.hg, rows_no _ _ (by decide +kernel) (by decide +kernel), ?_⟩
          refine ⟨g, r0, r1, D, _, [], rfl, W2.live, fun _ => ?_, fun p rest H' e => nomatch e⟩
          repeat walk_at "s"
          refine ⟨_, _, _, _, true, rfl, .ty "bool", .base (.bl false), kit_ty (by decide +kernel), ?_⟩
          repeat walk_at "s"
          rw [decide_eq_true rfl]
          exact q _ _ _ L2 W2 (Nat.le_succ _) rfl
      | cons p rest =>
        rw [show decide ((p :: rest).reverse = []) = false from decide_eq_false (by simp)]
        obtain ⟨cs, c, rfl⟩ : ∃ cs c, bs = cs ++ [c] := by
          rcases List.eq_nil_or_concat bs with z | ⟨m, v, z⟩
          · rw [z] at lbs; cases lbs
          · exact ⟨m, v, by rw [z, List.concat_eq_append]⟩
        have lcs : cs.length = rest.length := by
          rw [List.length_append, List.length_cons] at lbs
          exact Nat.succ.inj lbs
        have Bc := Bs1 cs.length c p (by rw [List.getElem?_append_right (Nat.le_refl _), Nat.sub_self]; rfl) (by rw [List.reverse_cons, List.getElem?_append_right (by rw [List.length_reverse]; omega), List.length_reverse, lcs, Nat.sub_self]; rfl)
        have Brest : ∀ (j : Nat) (c : Addr) (x : R2), cs[j]? = some c → rest.reverse[j]? = some x → Both (a :: r0 :: r1 :: D :: st :: pl :: M) H1 c x := fun j c x h1 h2 => Bs1 j c x (by rw [List.getElem?_append_left (List.getElem?_eq_some_iff.mp h1).1]; exact h1) (by rw [List.reverse_cons, List.getElem?_append_left (List.getElem?_eq_some_iff.mp h2).1]; exact h2)
        repeat walk_at "s"
        refine ⟨fun σ' H' => Lv T [st, pl] H2 H' ∧ H' st = some (.lst [.ref c, .ref pl]) ∧ H' pl = some (.lst (cs.map V.ref)) ∧ σ' = [some (.ref a), some (.ref g), some (.ref st), some (.ref b0), some (.ref pl), some (.int r1'), some (.bl true), none, none, none, none, none], ?_, ?_⟩
        · repeat walk_at "s"
          have ep2 := s2 _ _ epl1
          have es2 := s2 _ _ est1
          refine ⟨.inl ⟨rfl, _, SqL.new ep2⟩, ?_⟩
          refine ⟨pl, _, .ref c, rfl, rfl, ep2, by simp, ?_⟩
          rw [show ((cs ++ [c]).map V.ref).dropLast = cs.map V.ref from by rw [List.map_append]; exact List.dropLast_concat]
          have m1 : Lv T [st, pl] H2 (upd H2 pl (.lst (cs.map V.ref))) := .put ep2 (by simp)
          have a1 : (upd H2 pl (.lst (cs.map V.ref))) pl = some (.lst (cs.map V.ref)) := upd_same
          have a2 : (upd H2 pl (.lst (cs.map V.ref))) st = some (.lst [.ref b0, .ref pl]) := by rw [upd_ne nsp]; exact es2
          generalize upd H2 pl (.lst (cs.map V.ref)) = H3 at m1 a1 a2 ⊢
          repeat walk_at "s"
          refine ⟨m1.trans (.put a2 (by simp)), ?_, ?_, rfl⟩
          · rw [upd_same]; rfl
          · rw [upd_ne (Ne.symm nsp)]; exact a1
        · rintro σ' H3 ⟨m3, es3, ep3, rfl⟩
          repeat walk_at "s"
          have LV3 : LiveAt CL H3 g r0 r1 D _ (p :: rest) := W2.live.lv m3 (by simp [n0s, n0p]) (by simp [n1s, n1p]) (by simp [nDs, nDp])
          obtain ⟨dx, TT, ts, log, R⟩ := id LV3
          refine ⟨g, dx, _, rfl, R.hg, rows_no _ _ (by decide +kernel) (by decide +kernel), ?_⟩
          refine ⟨g, r0, r1, D, _, p :: rest, rfl, LV3, (fun e => nomatch e), fun p' rest' H4 e m4 L4 => ?_⟩
          cases e
          repeat walk_at "s"
          refine ⟨_, _, _, _, true, rfl, .ty "bool", .base (.bl true), kit_ty (by decide +kernel), ?_⟩
          repeat walk_at "s"
          rw [decide_eq_true rfl]
          have mS : Lv T (a :: r0 :: r1 :: D :: st :: pl :: M) H1 H4 := (Lv.same s2).trans ((m3.mono (by simp)).trans ((m4 T).mono (by simp)))
          have o3 : ∀ c, c ≠ st → c ≠ pl → c ∉ [st, pl] := fun c h1 h2 => by simp [h1, h2]
          have o4 : ∀ c, c ≠ r0 → c ≠ r1 → c ≠ D → c ∉ [r0, r1, D] := fun c h1 h2 h3 => by simp [h1, h2, h3]
          refine q p rest H4 (L2.trans ((m3.mono (by simp)).trans ((m4 T).mono (by simp)))) ⟨?_, L4, ⟨c, cs, (m4 T).lst es3 (o4 _ (Ne.symm n0s) (Ne.symm n1s) (Ne.symm nDs)), (m4 T).lst ep3 (o4 _ (Ne.symm n0p) (Ne.symm n1p) (Ne.symm nDp)), Bc.lv mS, lcs, fun j c x h1 h2 => (Brest j c x h1 h2).lv mS⟩, fun c hc => ?_, W.nd, (m4 T).tabs (m3.tabs W2.tabs)⟩ (by simp; omega) (List.getLast?_cons_cons).symm
          · exact (m4 T).draws (o4 _ na0 na1 naD) (m3.draws (o3 _ nas nap) W2.draws)
          · obtain ⟨xs, e⟩ := W2.exM c hc
            have nc : ∀ {d}, d ∉ M → c ≠ d := fun h z => h (z ▸ hc)
            exact ⟨xs, (m4 T).lst (m3.lst e (o3 _ (nc nsM) (nc npM))) (o4 _ (nc n0M) (nc n1M) (nc nDM))⟩
    · -- a change
      repeat walk_at "s"
      refine ⟨a, 2, rfl, W1.draws, by decide, fun r2' H2 x2 ra2 rb2 _ => ?_⟩
      have W2 := W1.ext x2
      have L2 : Lv T [a, r0, r1, D, st, pl] H H2 := L1.trans (.ext x2 W1.draws (by simp))
      have est2 := x2.keep _ _ est1 (Ne.symm nas)
      have epl2 := x2.keep _ _ epl1 (Ne.symm nap)
      have xS2 : Lv T (a :: r0 :: r1 :: D :: st :: pl :: M) H1 H2 := .ext x2 W1.draws (by simp)
      have B2 := B1.lv xS2
      have Bs2 : ∀ (j : Nat) (c : Addr) (x : R2), bs[j]? = some c → hist.reverse[j]? = some x → Both (a :: r0 :: r1 :: D :: st :: pl :: M) H2 c x := fun j c x h1 h2 => (Bs1 j c x h1 h2).lv xS2
      obtain ⟨nb0, p, t, eb, np, nt, ep, et⟩ := id B2
      obtain ⟨b, rfl⟩ : ∃ b : Bool, r2' = (if b = true then 1 else 0) := by
        by_cases c : r2' = 1
        · exact ⟨true, c⟩
        · exact ⟨false, by rw [if_neg (by decide)]; omega⟩
      have gd := W2.live.gd
      -- the row of the side
      obtain ⟨rb, erb, erw, nrb⟩ : ∃ rb : Addr, rb = (if b = true then t else p) ∧ H2 rb = some (.lst ((sideR s b).map V.int)) ∧ rb ∉ (a :: r0 :: r1 :: D :: st :: pl :: M) := by
        cases b
        · exact ⟨p, rfl, ep, np⟩
        · exact ⟨t, rfl, et, nt⟩
      have nrba : rb ≠ a := fun z => nrb (by rw [z]; simp)
      have ixb : atI [V.ref p, V.ref t] (if b = true then (1 : Int) else 0) = some (.ref rb) := by
        rw [erb]
        cases b
        · exact at0
        · exact at1
      repeat walk_at "s"
      refine ⟨_, _, _, _, rfl, rfl, SqL.new eb, ixb, ?_⟩
      have fS := gd.fine b
      have lS := gd.len b
      have hrow := SqL.new (K := K) erw
      refine ⟨fun σ' H' => ∃ (rw' : Addr) (l : List Int) (v10 : Option V), Lv T [a, r0, r1, D] H2 H' ∧ DrawAt H' a ∧ LiveAt CL H' g r0 r1 D (setR s b l) (s :: hist) ∧ rw' ∉ (a :: r0 :: r1 :: D :: st :: pl :: M) ∧ H' rw' = some (.lst (l.map V.int)) ∧ σ' = [some (.ref a), some (.ref g), some (.ref st), some (.ref b0), some (.ref pl), some (.int r1'), none, none, some (.int (if b = true then 1 else 0)), some (.ref rw'), v10, some .non], ?_, ?_⟩
      · refine if_one (fun H3 => Same H2 H3 ∧ sideR s b ≠ []) (fun H3 => Same H2 H3 ∧ (sideR s b).length < 300) (fun KK kt kf => ?_) (fun H3 h3 => ?_) (fun H3 h3 => ?_)
        · have hd2 := W2.draws
          repeat walk_at "s"
          intro p3 np3
          generalize hg3 : upd H2 p3 _ = H3
          have s3 : Same H2 H3 := hg3 ▸ same_new np3
          have e3 := (congrFun hg3 p3).symm.trans upd_same
          clear hg3
          have n3 : p3 ≠ a := DrawAt.ne (by walk_at "hand") np3
          refine ⟨_, _, dp_ints (s3.seq hrow), dp_ints (ns := []) (SqL.new e3), shaped_ints _, shaped_ints _, ?_⟩
          rw [eqv_ints]
          refine ⟨_, rfl, ?_⟩
          by_cases zA : sideR s b = []
          · rw [decide_eq_true zA]
            exact kf H3 ⟨s3, by rw [zA]; decide⟩
          · rw [decide_eq_false zA]
            refine iteT ?_
            repeat walk_at "s"
            by_cases c5 : r1' < 5
            · rw [decide_eq_true c5]
              exact kt H3 ⟨s3, zA⟩
            · rw [decide_eq_false c5]
              refine iteF ?_
              repeat walk_at "s"
              refine ⟨_, _, rfl, .inl (s3.seq hrow), ?_⟩
              rw [List.length_map]
              repeat walk_at "s"
              by_cases c9 : (299 : Int) < ((sideR s b).length : Int)
              · rw [decide_eq_true c9]
                exact kt H3 ⟨s3, zA⟩
              · rw [decide_eq_false c9]
                exact kf H3 ⟨s3, by omega⟩
        · obtain ⟨s3, hne⟩ := h3
          have pn := List.length_pos_iff.mpr hne
          have W3 := W2.same s3
          have er3 := s3 _ _ erw
          repeat walk_at "s"
          refine ⟨a, 1000, rfl, W3.draws, by decide, fun r4 H4 x4 ra4 rb4 _ => ?_⟩
          have W4 := W3.ext x4
          have er4 := x4.keep _ _ er3 nrba
          repeat walk_at "s"
          refine ⟨_, _, rfl, .inl (SqL.new er4), ?_⟩
          rw [List.length_map]
          repeat walk_at "s"
          obtain ⟨n, hn, mn⟩ : ∃ n, atI ((sideR s b).map V.int) (r4 % ((sideR s b).length : Int)) = some (.int n) ∧ n ∈ sideR s b := by
            have m0 := Int.emod_nonneg r4 (show ((sideR s b).length : Int) ≠ 0 by omega)
            have m1 := Int.emod_lt_of_pos r4 (show (0 : Int) < ((sideR s b).length : Int) by omega)
            obtain ⟨k, hk⟩ : ∃ k : Nat, r4 % ((sideR s b).length : Int) = (k : Int) := ⟨(r4 % ((sideR s b).length : Int)).toNat, by omega⟩
            obtain ⟨x, hx⟩ : ∃ x, (sideR s b)[k]? = some x := ⟨_, List.getElem?_eq_getElem (by omega)⟩
            exact ⟨x, by rw [hk]; exact atI_nat (by rw [List.getElem?_map, hx]; rfl), List.mem_of_getElem? hx⟩
          refine ⟨_, _, _, .int n, rfl, rfl, SqL.new er4, hn, ?_⟩
          repeat walk_at "s"
          refine ⟨rb, sideR s b, n, rfl, SqL.new er4, fS.1, by omega, mn, fun u H5 s5 nu eu => ?_⟩
          have W5 := W4.same s5
          have nuS := W4.new nu
          repeat walk_at "s"
          obtain ⟨dx, TT, ts, log, R⟩ := id W5.live
          refine ⟨g, dx, _, rfl, R.hg, rows_no _ _ (by decide +kernel) (by decide +kernel), ?_⟩
          repeat walk_at "s"
          refine ⟨g, r0, r1, D, b, n, s, hist, rfl, W5.live, mn, by omega, fun H6 m6 L6 => ?_⟩
          have nu4 : u ∉ [r0, r1, D] := fun z => nuS (in3 z)
          refine ⟨u, _, _, (((Lv.same s3).trans (.ext x4 W3.draws (by simp))).trans (.same s5)).trans ((m6 T).mono (by simp)), (m6 T).draws (by simp [na0, na1, naD]) W5.draws, L6, nuS, (m6 T).lst eu nu4, rfl⟩
        · obtain ⟨s3, hlt⟩ := h3
          have W3 := W2.same s3
          have er3 := s3 _ _ erw
          repeat walk_at "s"
          refine ⟨a, rb, sideR s b, rfl, W3.draws, er3, nrba, by omega, fS, fun n H4 x4 sn => ?_⟩
          have W4 := W3.ext x4
          have er4 := x4.keep _ _ er3 nrba
          repeat walk_at "s"
          refine ⟨rb, sideR s b, n, rfl, SqL.new er4, fS.1, by omega, fun u H5 s5 nu eu => ?_⟩
          have W5 := W4.same s5
          have nuS := W4.new nu
          repeat walk_at "s"
          obtain ⟨dx, TT, ts, log, R⟩ := id W5.live
          refine ⟨g, dx, _, rfl, R.hg, rows_no _ _ (by decide +kernel) (by decide +kernel), ?_⟩
          repeat walk_at "s"
          refine ⟨g, r0, r1, D, b, n, s, hist, rfl, W5.live, sn, hlt, by omega, fun H6 m6 L6 => ?_⟩
          have nu4 : u ∉ [r0, r1, D] := fun z => nuS (in3 z)
          refine ⟨u, _, _, (((Lv.same s3).trans (.ext x4 W3.draws (by simp))).trans (.same s5)).trans ((m6 T).mono (by simp)), (m6 T).draws (by simp [na0, na1, naD]) W5.draws, L6, nuS, (m6 T).lst eu nu4, rfl⟩
      · rintro σ' H3 ⟨u, l, v10, m3, d3, L3, nu, eu, rfl⟩
        have o4 : ∀ c, c ≠ a → c ≠ r0 → c ≠ r1 → c ≠ D → c ∉ [a, r0, r1, D] := fun c h0 h1 h2 h3 => by simp [h0, h1, h2, h3]
        have est3 := m3.lst est2 (o4 _ (Ne.symm nas) (Ne.symm n0s) (Ne.symm n1s) (Ne.symm nDs))
        have epl3 := m3.lst epl2 (o4 _ (Ne.symm nap) (Ne.symm n0p) (Ne.symm n1p) (Ne.symm nDp))
        have mS3 : Lv T (a :: r0 :: r1 :: D :: st :: pl :: M) H2 H3 := m3.mono (by simp)
        have B3 := B2.lv mS3
        obtain ⟨_, p', t', eb3, _, _, ep3, et3⟩ := id B3
        have epp : p' = p ∧ t' = t := by
          have := m3.lst eb (o4 _ (fun z => nb0 (by rw [z]; simp)) (fun z => nb0 (by rw [z]; simp)) (fun z => nb0 (by rw [z]; simp)) (fun z => nb0 (by rw [z]; simp)))
          rw [eb3] at this
          cases this
          exact ⟨rfl, rfl⟩
        obtain ⟨rfl, rfl⟩ := epp
        repeat walk_at "s"
        refine ⟨.inl ⟨rfl, _, SqL.new epl3⟩, ?_⟩
        repeat walk_at "s"
        refine ⟨pl, _, _, rfl, rfl, epl3, smallLt (by rw [List.length_map]; omega), ?_⟩
        have m4 : Lv T [st, pl] H3 (upd H3 pl (.lst (bs.map V.ref ++ [V.ref b0]))) := .put epl3 (by simp)
        have a1 : (upd H3 pl (.lst (bs.map V.ref ++ [V.ref b0]))) pl = some (.lst ((bs ++ [b0]).map V.ref)) := by rw [upd_same, List.map_append]; rfl
        have a2 : (upd H3 pl (.lst (bs.map V.ref ++ [V.ref b0]))) st = some (.lst [.ref b0, .ref pl]) := by rw [upd_ne nsp]; exact est3
        generalize upd H3 pl (.lst (bs.map V.ref ++ [V.ref b0])) = H4 at m4 a1 a2 ⊢
        have nin : ∀ {c : Addr}, c ∉ (a :: r0 :: r1 :: D :: st :: pl :: M) → c ∉ [st, pl] := fun h z => h (in2 z)
        have eb4 := m4.lst eb3 (nin nb0)
        have ep4 := m4.lst ep3 (nin np)
        have et4 := m4.lst et3 (nin nt)
        have eu4 := m4.lst eu (nin nu)
        repeat walk_at "s"
        intro p5 np5
        generalize hg5 : upd H4 p5 _ = H5
        have s5 : Same H4 H5 := hg5 ▸ same_new np5
        have e5 := (congrFun hg5 p5).symm.trans upd_same
        clear hg5
        have eb5 := s5 _ _ eb4
        repeat walk_at "s"
        intro p6 np6
        generalize hg6 : upd H5 p6 _ = H6
        have s6 : Same H5 H6 := hg6 ▸ same_new np6
        have e6 := (congrFun hg6 p6).symm.trans upd_same
        clear hg6
        repeat walk_at "s"
        intro p7 np7
        generalize hg7 : upd H6 p7 _ = H7
        have s7 : Same H6 H7 := hg7 ▸ same_new np7
        have e7 := (congrFun hg7 p7).symm.trans upd_same
        clear hg7
        have S7 := (s5.trans s6).trans s7
        have e57 := s7 _ _ (s6 _ _ e5)
        have e67 := s7 _ _ e6
        have m7 : Lv T [st, pl] H3 H7 := m4.trans (.same S7)
        have nc : ∀ {d c}, d ∉ M → c ∈ M → c ≠ d := fun h hc z => h (z ▸ hc)
        have o2 : ∀ c, c ≠ st → c ≠ pl → c ∉ [st, pl] := fun c h1 h2 => by simp [h1, h2]
        have d4 : DrawAt H4 a := m4.draws (o2 _ nas nap) d3
        have L4 : LiveAt CL H4 g r0 r1 D (setR s b l) (s :: hist) := L3.lv m4 (o2 _ n0s n0p) (o2 _ n1s n1p) (o2 _ nDs nDp)
        have exM4 : ∀ c ∈ M, ∃ xs, H4 c = some (.lst xs) := fun c hc => by
          obtain ⟨xs, e⟩ := W2.exM c hc
          exact ⟨xs, m4.lst (m3.lst e (o4 _ (nc naM hc) (nc n0M hc) (nc n1M hc) (nc nDM hc))) (o2 _ (nc nsM hc) (nc npM hc))⟩
        have ex4 : ∀ c ∈ (a :: r0 :: r1 :: D :: st :: pl :: M), ∃ xs, H4 c = some (.lst xs) := fun c hc => by
          obtain ⟨dx, TT, ts, log, R⟩ := L4
          obtain ⟨ds, e3, _⟩ := d4
          simp only [List.mem_cons] at hc
          rcases hc with rfl | rfl | rfl | rfl | rfl | rfl | hc
          · exact ⟨_, e3⟩
          · exact ⟨_, R.h0⟩
          · exact ⟨_, R.h1⟩
          · exact ⟨_, R.hD⟩
          · exact ⟨_, a2⟩
          · exact ⟨_, a1⟩
          · exact exM4 c hc
        have new4 : ∀ {c}, H4 c = none → c ∉ (a :: r0 :: r1 :: D :: st :: pl :: M) := fun h hc => by
          obtain ⟨xs, e⟩ := ex4 _ hc
          rw [h] at e
          cases e
        have n5S := new4 np5
        have n6S := new4 (s5.free np6)
        repeat walk_at "s"
        have ixn : atI [V.ref p5, V.ref p6] (if b = true then (1 : Int) else 0) = some (.ref (if b = true then p6 else p5)) := by
          cases b
          · exact at0
          · exact at1
        refine ⟨_, _, _, _, rfl, rfl, SqL.new e7, ixn, ?_⟩
        have a27 := S7 _ _ a2
        have a17 := S7 _ _ a1
        repeat walk_at "s"
        rw [decide_eq_true rfl]
        have m8 : Lv T [st, pl] H7 (upd H7 st (HO.lst ([V.ref b0, V.ref pl].set (Int.toNat 0) (V.ref (if b = true then p6 else p5))))) := .put a27 (by simp)
        have a8 : (upd H7 st (HO.lst ([V.ref b0, V.ref pl].set (Int.toNat 0) (V.ref (if b = true then p6 else p5))))) st = some (.lst [.ref (if b = true then p6 else p5), .ref pl]) := upd_same
        have b8 : (upd H7 st (HO.lst ([V.ref b0, V.ref pl].set (Int.toNat 0) (V.ref (if b = true then p6 else p5))))) pl = some (.lst ((bs ++ [b0]).map V.ref)) := by rw [upd_ne (Ne.symm nsp)]; exact a17
        generalize upd H7 st (HO.lst ([V.ref b0, V.ref pl].set (Int.toNat 0) (V.ref (if b = true then p6 else p5)))) = H8 at m8 a8 b8 ⊢
        have m48 : Lv T [st, pl] H4 H8 := (Lv.same S7).trans m8
        have mS48 : Lv T (a :: r0 :: r1 :: D :: st :: pl :: M) H4 H8 := m48.mono fun c => in2
        have mS28 : Lv T (a :: r0 :: r1 :: D :: st :: pl :: M) H2 H8 := mS3.trans ((m4.mono fun c => in2).trans mS48)
        have u8 := m48.lst eu4 (nin nu)
        have p8 := m48.lst ep4 (nin np)
        have t8 := m48.lst et4 (nin nt)
        have x5 := m8.lst e57 (nin n5S)
        have x6 := m8.lst e67 (nin n6S)
        refine q (setR s b l) (s :: hist) H8 (L2.trans ((m3.mono (by simp)).trans ((m4.mono (by simp)).trans (m48.mono (by simp))))) ⟨m48.draws (o2 _ nas nap) d4, L4.lv m48 (o2 _ n0s n0p) (o2 _ n1s n1p) (o2 _ nDs nDp), ⟨_, bs ++ [b0], a8, b8, ?_, by rw [List.length_append, lbs]; rfl, fun j c x h1 h2 => ?_⟩, fun c hc => ?_, W.nd, m48.tabs (m4.tabs (m3.tabs W2.tabs))⟩ (by simp) List.getLast?_cons_cons
        · cases b
          · exact ⟨n5S, u, t', x5, nu, nt, u8, t8⟩
          · exact ⟨n6S, p', u, x6, np, nu, p8, u8⟩
        · rw [List.reverse_cons] at h2
          by_cases cj : j < bs.length
          · rw [List.getElem?_append_left cj] at h1
            rw [List.getElem?_append_left (by rw [List.length_reverse, ← lbs]; exact cj)] at h2
            exact (Bs2 j c x h1 h2).lv mS28
          · rw [List.getElem?_append_right (by omega)] at h1
            rw [List.getElem?_append_right (by rw [List.length_reverse, ← lbs]; omega), List.length_reverse, ← lbs] at h2
            cases z2 : j - bs.length with
            | zero => rw [z2] at h1 h2; cases h1; cases h2; exact B2.lv mS28
            | succ k => rw [z2] at h1; simp at h1
        · obtain ⟨xs, e⟩ := exM4 c hc
          exact ⟨xs, m48.lst e (o2 _ (nc nsM hc) (nc npM hc))⟩

theorem FnOk.either {CX : CXT} {k : Nat} {f : Addr} {fd : FuncData} {ps : List Str} {s1 s2 sp : L2.Sp} (a : FnOk P w K mg base CX k f fd ps s1) (b : FnOk P w K mg base CX k f fd ps s2) (h : ∀ vs H Q E, sp vs H Q E → s1 vs H Q E ∨ s2 vs H Q E) : FnOk P w K mg base CX k f fd ps sp :=
  ⟨fun vs H Q E z => (h vs H Q E z).elim (a.len vs H Q E) (b.len vs H Q E), fun A outer s H args us vs Q E hr he hb hv hs => (h vs H Q E hs).elim (a.run A outer s H args us vs Q E hr he hb hv) (b.run A outer s H args us vs Q E hr he hb hv)⟩
theorem ok_check_ref49 {CP C1 C2 C3 C4 CS f : Addr} {fd : FuncData} (F : Fun K "check_place" "check_place" scheck_place f fd) (rs : Rsds K mg CP C1 C2 C3 C4 CS) (cis_whole : Cal P w K mg base 1 "is_whole" ["thing"] (spIsWhole K)) : FnOk P w K mg base (L2.CX P w) 2 f fd ["thing", "many"] (spCheckR K CP) := by
  have nd := sccheck_place.nd
  refine F.okX sccheck_place (fun vs H Q E h => ?_) (fun cdv A outer s H vs Q E hr h => ?_)
  · obtain ⟨x, m, rfl, _⟩ := h
    rfl
  · obtain ⟨x, m, rfl, bad, q⟩ := h
    refine ⟨_, pss_one (ps_if (PW.pt (pw_or (pt_not (pt_val (pe_own cis_whole (hr.mono (by decide)) (by rfl) (pa_cons (pv 0) pa_nil)))) (pw_or1 (pt_not (pt_chain op_le op_lt pe_int (pv 0) (pv 1)))))) (pss_one (ps_raise rfl (takes_of rfl rfl rfl rfl) (pmk_own PySem.F.excBase_ValueError rs.plc.xC rs.plc.gC rs.plc.kC (raises_own rs.plc.bC rs.plc.tC) rfl))) pss_nil), ?_⟩
    repeat walk_at "s"
    rcases bad with ⟨n, rfl, out⟩ | no
    · refine .inl ⟨⟨n, rfl⟩, ?_⟩
      repeat walk_at "s"
      by_cases c : 0 ≤ n
      · rw [decide_eq_true c]
        repeat walk_at "s"
        rw [decide_eq_false (show ¬ n < m from fun k => out ⟨c, k⟩)]
        exact q
      · rw [decide_eq_false c]
        refine iteF ?_
        repeat walk_at "s"
        exact q
    · refine .inr ⟨no, ?_⟩
      repeat walk_at "s"
      exact q
theorem ok_lrow_ref {CL CP C1 C2 C3 C4 CS f : Addr} {fd : FuncData} (F : Fun K "_row_of" "Live._row_of" sLive__row_of f fd) (rs : Rsds K mg CP C1 C2 C3 C4 CS) (cis_whole : Cal P w K mg base 1 "is_whole" ["thing"] (spIsWhole K)) : FnOk P w K mg base (L2.CX P w) 2 f fd ["self", "side"] (spLRowR K CL C2) := by
  have nd := scLive__row_of.nd
  refine F.okX scLive__row_of (fun vs H Q E h => ?_) (fun cdv A outer s H vs Q E hr h => ?_)
  · obtain ⟨g, r0, r1, D, x, st, hist, rfl, _⟩ := h
    rfl
  · obtain ⟨g, r0, r1, D, x, st, hist, rfl, LV, bad, q⟩ := h
    refine ⟨_, pss_cons (ps_if (PW.pt (pw_or (pt_not (pt_val (pe_own cis_whole (hr.mono (by decide)) (by rfl) (pa_cons (pv 1) pa_nil)))) (pw_or1 (pt_not (pt_chain op_le op_le pe_int (pv 1) pe_int))))) (pss_one (ps_raise rfl (takes_of rfl rfl rfl rfl) (pmk_own PySem.F.excBase_ValueError rs.side.xC rs.side.gC rs.side.kC (raises_own rs.side.bC rs.side.tC) rfl))) pss_nil) pss_never, ?_⟩
    repeat walk_at "s"
    rcases bad with ⟨n, rfl, out⟩ | no
    · refine .inl ⟨⟨n, rfl⟩, ?_⟩
      repeat walk_at "s"
      by_cases c : 0 ≤ n
      · rw [decide_eq_true c]
        repeat walk_at "s"
        rw [decide_eq_false (show ¬ n ≤ 1 from fun k => out ⟨c, by omega⟩)]
        exact q
      · rw [decide_eq_false c]
        refine iteF ?_
        repeat walk_at "s"
        exact q
    · refine .inr ⟨no, ?_⟩
      repeat walk_at "s"
      exact q
theorem ok_lput_ref {CL CP C1 C2 C3 C4 CS f : Addr} {fd : FuncData} {tk : Tok} (B : Bt mg) (F : Fun K "put" "Live.put" sLive_put f fd) (li : LiT K CL) (most : mg "MOST" = some (.int 300 tk)) (rs : Rsds K mg CP C1 C2 C3 C4 CS) (cis_whole : Cal P w K mg base 1 "is_whole" ["thing"] (spIsWhole K)) (cLive__row_of : Ob.CalM P w K mg base 2 CL "_row_of" ["self", "side"] (spLRow CL)) (xLive__row_of : Ob.CalMX P w K mg base 2 CL "_row_of" ["self", "side"] (spLRowR K CL C2)) : FnOk P w K mg base (L2.CX P w) 3 f fd ["self", "side", "number"] (spLPutR2 K CL C2 C3 CP) := by
  have nd := scLive_put.nd
  have a1 : FnOk P w K mg base (L2.CX P w) 3 f fd ["self", "side", "number"] (fun vs H _ E => ∃ (g r0 r1 D : Addr) (x y : V) (s : R2) (hist : List R2), vs = [.ref g, x, y] ∧ LiveAt CL H g r0 r1 D s hist ∧ Bad K H x 2 ∧ E (.ref C2) none H) := by
    refine F.okX scLive_put (fun vs H Q E h => ?_) (fun cdv A outer s H vs Q E hr h => ?_)
    · obtain ⟨g, r0, r1, D, x, y, st, hist, rfl, _⟩ := h
      rfl
    · obtain ⟨g, r0, r1, D, x, y, st, hist, rfl, LV, bad, q⟩ := h
      refine ⟨_, pss_cons (ps_set (i := 3) nd rfl (.inl rfl) (Ob.pe_mS (pv 0) xLive__row_of (hr.mono (by decide)) (pa_cons (pv 1) pa_nil) (takes_of rfl rfl rfl rfl))) pss_never, ?_⟩
      obtain ⟨dx, T, ts, log, R⟩ := id LV
      repeat walk_at "s"
      refine ⟨g, dx, _, rfl, R.hg, rows_no _ _ (by decide +kernel) (by decide +kernel), ?_⟩
      repeat walk_at "s"
      exact ⟨g, r0, r1, D, x, st, hist, rfl, LV, bad, q⟩
  have a2 : FnOk P w K mg base (L2.CX P w) 3 f fd ["self", "side", "number"] (fun vs H _ E => ∃ (g r0 r1 D : Addr) (b : Bool) (y : V) (s : R2) (hist : List R2), vs = [.ref g, sideI b, y] ∧ LiveAt CL H g r0 r1 D s hist ∧ (NoInt K H y ∨ ∃ n, y = .int n ∧ 300 ≤ (sideR s b).length) ∧ E (.ref C3) none H) := by
    refine F.okX scLive_put (fun vs H Q E h => ?_) (fun cdv A outer s H vs Q E hr h => ?_)
    · obtain ⟨g, r0, r1, D, b, y, st, hist, rfl, _⟩ := h
      rfl
    · obtain ⟨g, r0, r1, D, b, y, st, hist, rfl, LV, bad, q⟩ := h
      refine ⟨_, pss_cons (ps_set (i := 3) nd rfl (.inl rfl) (Ob.pe_m (pv 0) cLive__row_of (hr.mono (by decide)) (pa_cons (pv 1) pa_nil)))
        (pss_cons (ps_if (PW.pt (pw_or (pt_not (pt_val (pe_own cis_whole (hr.mono (by decide)) (by rfl) (pa_cons (pv 2) pa_nil)))) (pw_or1 (pt_cmpR op_ge (pe_callB call_len_seq (by rfl) B.len_ (by decide +kernel) (pa_cons (pv 3) pa_nil)) (pe_glob (v := .int 300) rfl most ⟨_, rfl⟩) (nomark _))))) (pss_one (ps_raise rfl (takes_of rfl rfl rfl rfl) (pmk_own PySem.F.excBase_ValueError rs.num.xC rs.num.gC rs.num.kC (raises_own rs.num.bC rs.num.tC) rfl))) pss_nil) pss_never), ?_⟩
      obtain ⟨dx, T, ts, log, R⟩ := id LV
      repeat walk_at "s"
      refine ⟨g, dx, _, rfl, R.hg, rows_no _ _ (by decide +kernel) (by decide +kernel), ?_⟩
      repeat walk_at "s"
      refine ⟨g, r0, r1, D, b, st, hist, rfl, LV, ?_⟩
      repeat walk_at "s"
      have hrow := R.row b
      rcases bad with no | ⟨n, rfl, ln⟩
      · refine .inr ⟨no, ?_⟩
        repeat walk_at "s"
        exact q
      · refine .inl ⟨⟨n, rfl⟩, ?_⟩
        repeat walk_at "s"
        refine ⟨_, _, rfl, .inl (SqL.new hrow), ?_⟩
        rw [List.length_map]
        repeat walk_at "s"
        rw [decide_eq_true (show (300 : Int) ≤ ((sideR st b).length : Int) by omega)]
        exact q
  refine FnOk.either a1 a2 fun vs H Q E h => ?_
  obtain ⟨g, r0, r1, D, x, y, i, st, hist, rfl, LV, bad, q⟩ := h
  rcases bad with ⟨rfl, b⟩ | ⟨rfl, b, rfl, no⟩
  · exact .inl ⟨g, r0, r1, D, x, y, st, hist, rfl, LV, b, q⟩
  · exact .inr ⟨g, r0, r1, D, b, y, st, hist, rfl, LV, no, q⟩
theorem ok_ltake_ref2 {CL CP C1 C2 C3 C4 CS f : Addr} {fd : FuncData} (F : Fun K "take" "Live.take" sLive_take f fd) (li : LiT K CL) (rs : Rsds K mg CP C1 C2 C3 C4 CS) (cis_whole : Cal P w K mg base 1 "is_whole" ["thing"] (spIsWhole K)) (cstands_in : Cal P w K mg base 2 "stands_in" ["row", "number"] (spStands K)) (cLive__row_of : Ob.CalM P w K mg base 2 CL "_row_of" ["self", "side"] (spLRow CL)) (xLive__row_of : Ob.CalMX P w K mg base 2 CL "_row_of" ["self", "side"] (spLRowR K CL C2)) : FnOk P w K mg base (L2.CX P w) 3 f fd ["self", "side", "number"] (spLTakeR2 K CL C2 C3 CP) := by
  have nd := scLive_take.nd
  have a1 : FnOk P w K mg base (L2.CX P w) 3 f fd ["self", "side", "number"] (fun vs H _ E => ∃ (g r0 r1 D : Addr) (x y : V) (s : R2) (hist : List R2), vs = [.ref g, x, y] ∧ LiveAt CL H g r0 r1 D s hist ∧ Bad K H x 2 ∧ E (.ref C2) none H) := by
    refine F.okX scLive_take (fun vs H Q E h => ?_) (fun cdv A outer s H vs Q E hr h => ?_)
    · obtain ⟨g, r0, r1, D, x, y, st, hist, rfl, _⟩ := h
      rfl
    · obtain ⟨g, r0, r1, D, x, y, st, hist, rfl, LV, bad, q⟩ := h
      refine ⟨_, pss_cons (ps_set (i := 3) nd rfl (.inl rfl) (Ob.pe_mS (pv 0) xLive__row_of (hr.mono (by decide)) (pa_cons (pv 1) pa_nil) (takes_of rfl rfl rfl rfl))) pss_never, ?_⟩
      obtain ⟨dx, T, ts, log, R⟩ := id LV
      repeat walk_at "s"
      refine ⟨g, dx, _, rfl, R.hg, rows_no _ _ (by decide +kernel) (by decide +kernel), ?_⟩
      repeat walk_at "s"
      exact ⟨g, r0, r1, D, x, st, hist, rfl, LV, bad, q⟩
  have a2 : FnOk P w K mg base (L2.CX P w) 3 f fd ["self", "side", "number"] (fun vs H _ E => ∃ (g r0 r1 D : Addr) (b : Bool) (y : V) (s : R2) (hist : List R2), vs = [.ref g, sideI b, y] ∧ LiveAt CL H g r0 r1 D s hist ∧ (NoInt K H y ∨ ∃ n, y = .int n ∧ n ∉ sideR s b) ∧ E (.ref C3) none H) := by
    refine F.okX scLive_take (fun vs H Q E h => ?_) (fun cdv A outer s H vs Q E hr h => ?_)
    · obtain ⟨g, r0, r1, D, b, y, st, hist, rfl, _⟩ := h
      rfl
    · obtain ⟨g, r0, r1, D, b, y, st, hist, rfl, LV, bad, q⟩ := h
      refine ⟨_, pss_cons (ps_set (i := 3) nd rfl (.inl rfl) (Ob.pe_m (pv 0) cLive__row_of (hr.mono (by decide)) (pa_cons (pv 1) pa_nil)))
        (pss_cons (ps_if (PW.pt (pw_or (pt_not (pt_val (pe_own cis_whole (hr.mono (by decide)) (by rfl) (pa_cons (pv 2) pa_nil)))) (pw_or1 (pt_not (pt_val (pe_own cstands_in (hr.mono (by decide)) (by rfl) (pa_cons (pv 3) (pa_cons (pv 2) pa_nil)))))))) (pss_one (ps_raise rfl (takes_of rfl rfl rfl rfl) (pmk_own PySem.F.excBase_ValueError rs.num.xC rs.num.gC rs.num.kC (raises_own rs.num.bC rs.num.tC) rfl))) pss_nil) pss_never), ?_⟩
      obtain ⟨dx, T, ts, log, R⟩ := id LV
      repeat walk_at "s"
      refine ⟨g, dx, _, rfl, R.hg, rows_no _ _ (by decide +kernel) (by decide +kernel), ?_⟩
      repeat walk_at "s"
      refine ⟨g, r0, r1, D, b, st, hist, rfl, LV, ?_⟩
      repeat walk_at "s"
      have hrow := R.row b
      have gd := R.gd
      rcases bad with no | ⟨n, rfl, ln⟩
      · refine .inr ⟨no, ?_⟩
        repeat walk_at "s"
        exact q
      · refine .inl ⟨⟨n, rfl⟩, ?_⟩
        repeat walk_at "s"
        refine ⟨rowV r0 r1 b, sideR st b, n, rfl, SqL.new hrow, (gd.fine b).1, by have := gd.len b; omega, ?_⟩
        rw [decide_eq_false ln]
        exact ⟨_, rfl, q⟩
  refine FnOk.either a1 a2 fun vs H Q E h => ?_
  obtain ⟨g, r0, r1, D, x, y, i, st, hist, rfl, LV, bad, q⟩ := h
  rcases bad with ⟨rfl, b⟩ | ⟨rfl, b, rfl, no⟩
  · exact .inl ⟨g, r0, r1, D, x, y, st, hist, rfl, LV, b, q⟩
  · exact .inr ⟨g, r0, r1, D, b, y, st, hist, rfl, LV, no, q⟩
theorem ok_lat_ref {CL CP f : Addr} {fd : FuncData} (F : Fun K "at" "Live.at" sLive_at f fd) (li : LiT K CL) (xsum_at : Xc.CalX P w K mg base 5 "sum_at" ["one", "other", "place"] (spSumR K CP)) : FnOk P w K mg base (L2.CX P w) 6 f fd ["self", "place"] (spLAtR K CL CP) := by
  have nd := scLive_at.nd
  refine F.okX scLive_at (fun vs H Q E h => ?_) (fun cdv A outer s H vs Q E hr h => ?_)
  · obtain ⟨g, r0, r1, D, y, st, hist, rfl, _⟩ := h
    rfl
  · obtain ⟨g, r0, r1, D, y, st, hist, rfl, ⟨dx, T, ts, log, R⟩, bad, q⟩ := h
    have gd := R.gd
    have := gd.l1
    have := gd.l2
    refine ⟨_, pss_one (ps_ret (Xc.pe_ownX (E := E) xsum_at (hr.mono (by decide)) (by rfl) (pa_cons (pe_ix ix_tup (pe_fld (pv 0) rfl) pe_int (fun _ _ => rfl)) (pa_cons (pe_ix ix_tup (pe_fld (pv 0) rfl) pe_int (fun _ _ => rfl)) (pa_cons (pv 1) pa_nil))) (takes_of rfl rfl rfl rfl) (fun _ _ _ _ h => h))), ?_⟩
    repeat walk_at "s"
    refine ⟨g, CL, dx, _, _, rfl, R.hg, li.cl, li.nR, lf_rows _ _, ?_⟩
    refine ⟨_, _, _, .ref r0, rfl, rfl, .inl (.inl R.hT), at0, ?_⟩
    repeat walk_at "s"
    refine ⟨g, CL, dx, _, _, rfl, R.hg, li.cl, li.nR, lf_rows _ _, ?_⟩
    refine ⟨_, _, _, .ref r1, rfl, rfl, .inl (.inl R.hT), at1, ?_⟩
    repeat walk_at "s"
    exact ⟨r0, r1, st.1, st.2, y, rfl, SqL.new R.h0, SqL.new R.h1, by omega, by omega, bad, q⟩

theorem ok_caught49 {CL CP C1 C2 C3 C4 CS f : Addr} {fd : FuncData} (B : Bt mg) (F : Fun K "_law_caught" "_law_caught" slaw_caught f fd) (zVE : mg "ValueError" = none) (rs : Rsds K mg CP C1 C2 C3 C4 CS) (xLive_put : Ob.CalMX P w K mg base 3 CL "put" ["self", "side", "number"] (spLPutR2 K CL C2 C3 CP)) (xLive_take : Ob.CalMX P w K mg base 3 CL "take" ["self", "side", "number"] (spLTakeR2 K CL C2 C3 CP)) (xLive_at : Ob.CalMX P w K mg base 6 CL "at" ["self", "place"] (spLAtR K CL CP)) : FnOk P w K mg base CX0 7 f fd ["live", "way", "side", "number"] (spCaught49 K CL) := by
  have nd := sclaw_caught.nd
  refine F.ok sclaw_caught (fun vs H Q E h => ?_) (fun cdv A outer s H vs Q E hr h => ?_)
  · obtain ⟨g, r0, r1, D, way, x, y, i, st, hist, rfl, _⟩ := h
    rfl
  · obtain ⟨g, r0, r1, D, way, x, y, i, st, hist, rfl, LV, ask, q⟩ := h
    have hu := hr.units
    refine ⟨_, (pss_cons (ps_set (i := 4) nd rfl (.inl rfl) pe_non)
      (pss_cons (Xc.ps_try_keep (i := 5) (j := 4) rfl rfl nd rfl rfl ⟨rfl, by decide, .inl rs.gS⟩ (by decide) rfl (fun W pn xe tk _ => (pss_one (ps_if (pt_cmpR op_eq (pv 1) pe_int (nomark _)) (pss_one (ps_expr (Ob.pe_mS (pv 0) xLive_put (hr.mono (by decide)) (pa_cons (pv 2) (pa_cons (pv 3) pa_nil)) tk))) (pss_one (ps_if (pt_cmpR op_eq (pv 1) pe_int (nomark _)) (pss_one (ps_expr (Ob.pe_mS (pv 0) xLive_take (hr.mono (by decide)) (pa_cons (pv 2) (pa_cons (pv 3) pa_nil)) tk))) (pss_one (ps_expr (Ob.pe_mS (pv 0) xLive_at (hr.mono (by decide)) (pa_cons (pv 3) pa_nil) tk)))))))) (fun a pn => (pss_one (ps_set (i := 4) nd rfl (.inl rfl) (pv 5)))))
      (pss_cons (ps_if (PW.pt (pw_or (pt_not (pt_val (pe_callB Lx.call_isAny (by rfl) B.isinstance_ (by decide +kernel) (pa_cons (pv 4) (pa_cons (pe_bltn (v := .ty "ValueError") (by rfl) zVE (by decide +kernel) rfl) pa_nil))))) (pw_or1 (pt_val (pe_callB Lx.call_isAny (by rfl) B.isinstance_ (by decide +kernel) (pa_cons (pv 4) (pa_cons (pe_tup (pa_cons (pe_glob (v := .ref C1) rfl rs.g1 rfl) (pa_cons (pe_glob (v := .ref C4) rfl rs.g4 rfl) pa_nil))) pa_nil))))))) (pss_one (ps_ret (pe_un un_neg pe_int))) pss_nil)
      (pss_cons (ps_set (i := 6) nd rfl (.inl rfl) (pe_lst (pa_cons (pe_callB Lx.call_isAny (by rfl) B.isinstance_ (by decide +kernel) (pa_cons (pv 4) (pa_cons (pe_glob (v := .ref C2) rfl rs.side.gC rfl) pa_nil))) (pa_cons (pe_callB Lx.call_isAny (by rfl) B.isinstance_ (by decide +kernel) (pa_cons (pv 4) (pa_cons (pe_glob (v := .ref C3) rfl rs.num.gC rfl) pa_nil))) (pa_cons (pe_callB Lx.call_isAny (by rfl) B.isinstance_ (by decide +kernel) (pa_cons (pv 4) (pa_cons (pe_glob (v := .ref CP) rfl rs.plc.gC rfl) pa_nil))) pa_nil)))))
      (pss_one (ps_ret (pe_ifExp (pt_cmpR op_eq (pe_bm PySem.F.plainAttrs_list PySem.F.slot_list_count PySem.F.type_list_count Lx.mt_lcountF (pv 6) (pa_cons pe_bl pa_nil)) pe_int (nomark _)) (pe_bm PySem.F.plainAttrs_list PySem.F.slot_list_index PySem.F.type_list_index mt_index (pv 6) (pa_cons pe_bl pa_nil)) (pe_un un_neg pe_int)))))))), ?_⟩
    obtain ⟨dx, T, ts, log, R⟩ := id LV
    have i3 : i = 0 ∨ i = 1 ∨ i = 2 := by
      rcases ask with ⟨_, h⟩ | ⟨_, h⟩ | ⟨_, h, _⟩
      · rcases h with ⟨h, _⟩ | ⟨h, _⟩
        · exact .inl h
        · exact .inr (.inl h)
      · rcases h with ⟨h, _⟩ | ⟨h, _⟩
        · exact .inl h
        · exact .inr (.inl h)
      · exact .inr (.inr h)
    obtain ⟨b2, b3, bp, isx, eC, kn, flags⟩ : ∃ b2 b3 bp, ExcC K (clsI C2 C3 CP i) ∧ PySem.W.exmOne K (.ref (clsI C2 C3 CP i)) (.ref CS) = some true ∧ Kin K (clsI C2 C3 CP i) C1 C4 C2 C3 CP b2 b3 bp ∧ ((b2, b3, bp, i) = (true, false, false, 0) ∨ (b2, b3, bp, i) = (false, true, false, 1) ∨ (b2, b3, bp, i) = (false, false, true, 2)) := by
      rcases i3 with rfl | rfl | rfl
      · exact ⟨_, _, _, rs.side.is, rs.side.eC, rs.kSide, .inl rfl⟩
      · exact ⟨_, _, _, rs.num.is, rs.num.eC, rs.kNum, .inr (.inl rfl)⟩
      · exact ⟨_, _, _, rs.plc.is, rs.plc.eC, rs.kPlc, .inr (.inr rfl)⟩
    obtain ⟨cc, hcc⟩ : ∃ cc, clsI C2 C3 CP i = cc := ⟨_, rfl⟩
    rw [hcc] at isx eC kn
    rcases ask with ⟨rfl, pb⟩ | ⟨rfl, pb⟩ | ⟨rfl, h2, pb⟩
    all_goals repeat walk_at "s"
    all_goals refine ⟨g, dx, _, rfl, R.hg, rows_no _ _ (by decide +kernel) (by decide +kernel), ?_⟩
    all_goals repeat walk_at "s"
    all_goals first | refine ⟨g, r0, r1, D, x, y, i, st, hist, rfl, LV, pb, ?_⟩ | refine ⟨g, r0, r1, D, y, st, hist, rfl, LV, pb, ?_⟩
    all_goals first | rw [hcc] | obtain rfl : cc = CP := by rw [← hcc, h2]; rfl
    all_goals refine ⟨rfl, eC, fun a na => ?_⟩
    all_goals have s5 := same_new na (o := Xc.ExK (.ref cc) a)
    all_goals have ha : (upd H a (Xc.ExK (.ref cc) a)) a = some (Xc.ExK (.ref cc) a) := upd_same
    all_goals generalize upd H a (Xc.ExK (.ref cc) a) = H5 at ha s5 ⊢
    all_goals repeat walk_at "s"
    all_goals refine ⟨cc, isx, a, .ty "ValueError", true, rfl, ha, .inl ⟨.type "ValueError", fun u r => r, kn.val⟩, ?_⟩
    all_goals repeat walk_at "s"
    all_goals intro p1 np1
    all_goals generalize hg1 : upd H5 p1 _ = H1
    all_goals have s1 : Same H5 H1 := hg1 ▸ same_new np1
    all_goals have e1 := (congrFun hg1 p1).symm.trans upd_same
    all_goals clear hg1
    all_goals have ha1 := s1 _ _ ha
    all_goals repeat walk_at "s"
    all_goals refine ⟨cc, isx, a, .ref p1, false, rfl, ha1, .inr ⟨p1, _, rfl, e1, fun us r => (match us, r with | [_, _], .cons rfl (.cons rfl .nil) => kn.no)⟩, ?_⟩
    all_goals repeat walk_at "s"
    all_goals refine ⟨cc, isx, a, .ref C2, b2, rfl, ha1, .inl ⟨.ref C2, fun u r => r, kn.k2⟩, ?_⟩
    all_goals repeat walk_at "s"
    all_goals refine ⟨cc, isx, a, .ref C3, b3, rfl, ha1, .inl ⟨.ref C3, fun u r => r, kn.k3⟩, ?_⟩
    all_goals repeat walk_at "s"
    all_goals refine ⟨cc, isx, a, _, bp, rfl, ha1, .inl ⟨_, fun u r => r, kn.kp⟩, ?_⟩
    all_goals repeat walk_at "s"
    all_goals intro p2 np2
    all_goals generalize hg2 : upd H1 p2 _ = H2
    all_goals have s2 : Same H1 H2 := hg2 ▸ same_new np2
    all_goals have e2 := (congrFun hg2 p2).symm.trans upd_same
    all_goals clear hg2
    all_goals have S := s5.trans (s1.trans s2)
    all_goals repeat walk_at "s"
    all_goals refine ⟨.inl ⟨rfl, _, SqL.new e2⟩, ?_⟩
    all_goals repeat walk_at "s"
    all_goals refine ⟨p2, _, _, rfl, rfl, SqL.new e2, rfl, rfl, ?_⟩
    all_goals clear rs xLive_put xLive_take xLive_at LV R kn isx eC pb
    all_goals (rcases flags with h | h | h) <;> cases h
    all_goals try (exact absurd h2 (by decide))
    all_goals repeat walk_at "s"
    all_goals refine ⟨.inl ⟨rfl, _, SqL.new e2⟩, ?_⟩
    all_goals repeat walk_at "s"
    all_goals have no1 : ∀ (m : Nat) (z : V), m < 1 → [V.bl false, V.bl true, V.bl false][m]? = some z → eqV z (.bl true) = false := fun m z h hz => (match m, hz with | 0, hz => by cases hz; rfl)
    all_goals have no2 : ∀ (m : Nat) (z : V), m < 2 → [V.bl false, V.bl false, V.bl true][m]? = some z → eqV z (.bl true) = false := fun m z h hz => (match m, hz with | 0, hz => by cases hz; rfl | 1, hz => by cases hz; rfl)
    all_goals first
      | exact ⟨p2, _, _, 0, _, rfl, rfl, SqL.new e2, rfl, rfl, rfl, rfl, (fun m z h => absurd h (Nat.not_lt_zero _)), q H2 S⟩
      | exact ⟨p2, _, _, 1, _, rfl, rfl, SqL.new e2, rfl, rfl, rfl, rfl, no1, q H2 S⟩
      | exact ⟨p2, _, _, 2, _, rfl, rfl, SqL.new e2, rfl, rfl, rfl, rfl, no2, q H2 S⟩

theorem ok_deep43 {f : Addr} {fd : FuncData} (B : Bt mg) (F : Fun K "_law_deep" "_law_deep" slaw_deep f fd) : FnOk P w K mg base CX0 1 f fd ["many"] (spDeepL K) := by
  have nd := sclaw_deep.nd
  refine F.ok sclaw_deep (fun vs H Q E h => ?_) (fun cdv A outer s H vs Q E hr h => ?_)
  · obtain ⟨k, rfl, _⟩ := h
    rfl
  · obtain ⟨k, rfl, hk, q⟩ := h
    refine ⟨_, (pss_cons (ps_set (i := 1) nd rfl (.inl rfl) (pe_lst pa_nil))
      (pss_cons (ps_for PassesOwn.never rfl (pi_range1 (by rfl) B.range_ (pa_cons (pv 0) pa_nil)) (pg_name (i := 2) nd rfl (.inl rfl)) (pss_one (ps_set (i := 1) nd rfl (.inl rfl) (pe_lst (pa_cons (pv 1) pa_nil)))))
      (pss_one (ps_ret (pv 1))))), ?_⟩
    repeat walk_at "s"
    intro p1 np1
    generalize hg1 : upd H p1 _ = H1
    have s1 : Same H H1 := hg1 ▸ same_new np1
    have e1 := (congrFun hg1 p1).symm.trans upd_same
    clear hg1
    refine ⟨_, rfl, ?_⟩
    refine ⟨(k : Int), rfl, by omega, by omega, ?_⟩
    refine for_range (lo := 0) (n := k) (fun i σ H' => Same H H' ∧ ∃ (t : Addr) (l : List V) (v2 : Option V), σ = [some (.int (k : Int)), some (.ref t), v2] ∧ H' t = some (.lst l)) ⟨s1, p1, _, none, rfl, e1⟩ (fun i σ Hi hi w => ?_) (fun σ Hd w => ?_)
    · obtain ⟨si, t, l, v2, rfl, et⟩ := w
      repeat walk_at "s"
      intro p2 np2
      generalize hg2 : upd Hi p2 _ = H2
      have s2 : Same Hi H2 := hg2 ▸ same_new np2
      have e2 := (congrFun hg2 p2).symm.trans upd_same
      clear hg2
      exact ⟨si.trans s2, p2, _, _, rfl, e2⟩
    · obtain ⟨sd, t, l, v2, rfl, et⟩ := w
      exact ⟨_, rfl, q t l Hd sd et⟩

theorem ok_odd49 {f : Addr} {fd : FuncData} (F : Fun K "_law_odd" "_law_odd" slaw_odd f fd) (claw_take : Cal P w K mg base 1 "_law_take" ["draws", "many"] spTake) (claw_deep : Cal P w K mg base 1 "_law_deep" ["many"] (spDeepL K)) : FnOk P w K mg base CX0 2 f fd ["draws"] (spOdd49 K) := by
  have nd := sclaw_odd.nd
  refine F.ok sclaw_odd (fun vs H Q E h => ?_) (fun cdv A outer s H vs Q E hr h => ?_)
  · obtain ⟨a, rfl, _⟩ := h
    rfl
  · obtain ⟨a, rfl, h0, q⟩ := h
    have hu := hr.units
    refine ⟨_, (pss_cons (ps_set (i := 1) nd rfl (.inl rfl) (pe_lst (pa_cons pe_non (pa_cons pe_bl (pa_cons pe_bl (pa_cons pe_str (pa_cons pe_str (pa_cons pe_str (pa_cons (pe_lst (pa_cons pe_int pa_nil)) (pa_cons (pe_tup (pa_cons pe_int pa_nil)) (pa_cons pe_dnewK (pa_cons (pe_lst pa_nil) (pa_cons (pe_tup pa_nil) (pa_cons (pe_own claw_deep (hr.mono (by decide)) (by rfl) (pa_cons pe_int pa_nil)) pa_nil))))))))))))))
      (pss_one (ps_ret (pe_ix ix_list (pv 1) (pe_own claw_take (hr.mono (by decide)) (by rfl) (pa_cons (pv 0) (pa_cons pe_int pa_nil))) (fun _ _ => rfl))))), ?_⟩
    repeat walk_at "s"
    intro p1 np1
    generalize hg1 : upd H p1 _ = H1
    have s1 : Same H H1 := hg1 ▸ same_new np1
    have e1 := (congrFun hg1 p1).symm.trans upd_same
    clear hg1
    have n1 : p1 ≠ a := DrawAt.ne (by walk_at "hand") np1
    repeat walk_at "s"
    intro p2 np2
    generalize hg2 : upd H1 p2 _ = H2
    have s2 : Same H1 H2 := hg2 ▸ same_new np2
    have e2 := (congrFun hg2 p2).symm.trans upd_same
    clear hg2
    have n2 : p2 ≠ a := DrawAt.ne (by walk_at "hand") np2
    repeat walk_at "s"
    intro p3 np3
    generalize hg3 : upd H2 p3 _ = H3
    have s3 : Same H2 H3 := hg3 ▸ same_new np3
    have e3 := (congrFun hg3 p3).symm.trans upd_same
    clear hg3
    have n3 : p3 ≠ a := DrawAt.ne (by walk_at "hand") np3
    repeat walk_at "s"
    intro p4 np4
    generalize hg4 : upd H3 p4 _ = H4
    have s4 : Same H3 H4 := hg4 ▸ same_new np4
    have e4 := (congrFun hg4 p4).symm.trans upd_same
    clear hg4
    have n4 : p4 ≠ a := DrawAt.ne (by walk_at "hand") np4
    repeat walk_at "s"
    intro p5 np5
    generalize hg5 : upd H4 p5 _ = H5
    have s5 : Same H4 H5 := hg5 ▸ same_new np5
    have e5 := (congrFun hg5 p5).symm.trans upd_same
    clear hg5
    have n5 : p5 ≠ a := DrawAt.ne (by walk_at "hand") np5
    repeat walk_at "s"
    intro t l H6 s6 et
    repeat walk_at "s"
    intro p7 np7
    generalize hg7 : upd H6 p7 _ = H7
    have s7 : Same H6 H7 := hg7 ▸ same_new np7
    have e7 := (congrFun hg7 p7).symm.trans upd_same
    clear hg7
    have n7 : p7 ≠ a := DrawAt.ne (by walk_at "hand") np7
    have S5 := (((s1.trans s2).trans s3).trans s4).trans s5
    have h7 := ((h0.same S5).same s6).same s7
    repeat walk_at "s"
    refine ⟨a, _, rfl, (by walk_at "hand"), (by walk_at "pos"), ?_⟩
    intro r8 H8 x8 ra8 rb8 rc8
    have lst := x8.keep _ _ e7 n7
    obtain ⟨x, hx, mx⟩ := at_draw (xs := [V.non, V.bl true, V.bl false, V.str "0", V.str "1", V.str "", V.ref p1, V.ref p2, V.ref p3, V.ref p4, V.ref p5, V.ref t]) ra8 rb8
    refine ⟨_, _, _, _, rfl, rfl, SqL.new lst, hx, ?_⟩
    have XX : ExtD a H H8 := (ExtD.same ((S5.trans s6).trans s7)).trans x8
    refine q x H8 XX ?_
    have Y : ∀ {b : Addr} {o : HO}, H5 b = some o → b ≠ a → H8 b = some o := fun e nb => x8.keep _ _ (s7 _ _ (s6 _ _ e)) nb
    have ft : NoInt K H8 (.ref t) := (no_lst (s7 _ _ et)).extD x8 h7
    have f1 := Y (s5 _ _ (s4 _ _ (s3 _ _ (s2 _ _ e1)))) n1
    have f2 := Y (s5 _ _ (s4 _ _ (s3 _ _ e2))) n2
    have f3 := Y (s5 _ _ (s4 _ _ e3)) n3
    have f4 := Y (s5 _ _ e4) n4
    have f5 := Y e5 n5
    simp only [List.mem_cons, List.not_mem_nil, or_false] at mx
    rcases mx with rfl | rfl | rfl | rfl | rfl | rfl | rfl | rfl | rfl | rfl | rfl | rfl
    · exact no_non
    · exact no_bl
    · exact no_bl
    · exact no_str
    · exact no_str
    · exact no_str
    · exact no_lst f1
    · exact no_tup f2
    · exact no_dct f3
    · exact no_lst f4
    · exact no_tup f5
    · exact ft
theorem ok_noside49 {f : Addr} {fd : FuncData} (F : Fun K "_law_no_side" "_law_no_side" slaw_no_side f fd) (claw_take : Cal P w K mg base 1 "_law_take" ["draws", "many"] spTake) (claw_odd : Cal P w K mg base 2 "_law_odd" ["draws"] (spOdd49 K)) : FnOk P w K mg base CX0 3 f fd ["draws"] (spNoSide49 K) := by
  have nd := sclaw_no_side.nd
  refine F.ok sclaw_no_side (fun vs H Q E h => ?_) (fun cdv A outer s H vs Q E hr h => ?_)
  · obtain ⟨a, rfl, _⟩ := h
    rfl
  · obtain ⟨a, rfl, h0, q⟩ := h
    have hu := hr.units
    have t40 : (10 : Int) ^ Int.toNat 40 = 10000000000000000000000000000000000000000 := by decide
    refine ⟨_, (pss_cons (ps_set (i := 1) nd rfl (.inl rfl) (pe_op op_add pe_int (pe_op op_mulW (pe_own claw_take (hr.mono (by decide)) (by rfl) (pa_cons (pv 0) (pa_cons pe_int pa_nil))) (pe_op op_add pe_int (pe_own claw_take (hr.mono (by decide)) (by rfl) (pa_cons (pv 0) (pa_cons pe_int pa_nil)))))))
      (pss_cons (ps_set (i := 2) nd rfl (.inl rfl) (pe_lst (pa_cons pe_int (pa_cons (pe_un un_neg pe_int) (pa_cons (pe_op op_pow pe_int pe_int) (pa_cons (pe_op op_sub pe_int (pe_op op_pow pe_int pe_int)) (pa_cons (pv 1) (pa_cons (pe_op op_sub pe_int (pv 1)) (pa_cons (pe_own claw_odd (hr.mono (by decide)) (by rfl) (pa_cons (pv 0) pa_nil)) pa_nil)))))))))
      (pss_one (ps_ret (pe_ix ix_list (pv 2) (pe_own claw_take (hr.mono (by decide)) (by rfl) (pa_cons (pv 0) (pa_cons pe_int pa_nil))) (fun _ _ => rfl)))))), ?_⟩
    repeat walk_at "s"
    refine ⟨a, _, rfl, (by walk_at "hand"), (by walk_at "pos"), ?_⟩
    intro r1 H1 x1 ra1 rb1 rc1
    repeat walk_at "s"
    have h1 := x1.hand h0
    refine ⟨a, _, rfl, (by walk_at "hand"), (by walk_at "pos"), ?_⟩
    intro r2 H2 x2 ra2 rb2 rc2
    repeat walk_at "s"
    have h2 := x2.hand h1
    have pp : 0 ≤ r1 * (1 + r2) := Int.mul_nonneg ra1 (by omega)
    obtain ⟨far, hfar, far0⟩ : ∃ far : Int, 2 + r1 * (1 + r2) = far ∧ 2 ≤ far := ⟨_, rfl, by omega⟩
    try rw [hfar]
    refine ⟨h2, fun o H3 x3 no => ?_⟩
    have h3 := x3.hand h2
    repeat walk_at "s"
    intro p4 np4
    generalize hg4 : upd H3 p4 _ = H4
    have s4 : Same H3 H4 := hg4 ▸ same_new np4
    have e4 := (congrFun hg4 p4).symm.trans upd_same
    clear hg4
    have n4 : p4 ≠ a := DrawAt.ne (by walk_at "hand") np4
    have h4 := h3.same s4
    have no4 : NoInt K H4 o := no.up s4
    repeat walk_at "s"
    refine ⟨a, _, rfl, (by walk_at "hand"), (by walk_at "pos"), ?_⟩
    intro r5 H5 x5 ra5 rb5 rc5
    have lst := x5.keep _ _ e4 n4
    obtain ⟨x, hx, mx⟩ := at_draw (xs := [V.int 2, V.int (-1), V.int (10 ^ Int.toNat 40), V.int (0 - 10 ^ Int.toNat 40), V.int (2 + r1 * (1 + r2)), V.int (0 - far), o]) ra5 rb5
    refine ⟨_, _, _, _, rfl, rfl, SqL.new lst, hx, ?_⟩
    refine q x H5 ((((x1.trans x2).trans x3).trans (.same s4)).trans x5) ?_
    simp only [List.mem_cons, List.not_mem_nil, or_false] at mx
    rw [t40, hfar] at mx
    rcases mx with rfl | rfl | rfl | rfl | rfl | rfl | rfl
    · exact .out (by omega)
    · exact .out (by omega)
    · exact .out (by omega)
    · exact .out (by omega)
    · exact .out (by omega)
    · exact .out (by omega)
    · exact .inr (no4.extD x5 h4)
theorem ok_noplace49 {f : Addr} {fd : FuncData} (F : Fun K "_law_no_place" "_law_no_place" slaw_no_place f fd) (claw_take : Cal P w K mg base 1 "_law_take" ["draws", "many"] spTake) (claw_odd : Cal P w K mg base 2 "_law_odd" ["draws"] (spOdd49 K)) : FnOk P w K mg base CX0 3 f fd ["draws", "size"] (spNoPlace49 K) := by
  have nd := sclaw_no_place.nd
  refine F.ok sclaw_no_place (fun vs H Q E h => ?_) (fun cdv A outer s H vs Q E hr h => ?_)
  · obtain ⟨a, m, rfl, _⟩ := h
    rfl
  · obtain ⟨a, m, rfl, h0, m0, m1, q⟩ := h
    have hu := hr.units
    have t40 : (10 : Int) ^ Int.toNat 40 = 10000000000000000000000000000000000000000 := by decide
    refine ⟨_, (pss_cons (ps_set (i := 2) nd rfl (.inl rfl) (pe_lst (pa_cons (pv 1) (pa_cons (pe_op op_add (pv 1) (pe_own claw_take (hr.mono (by decide)) (by rfl) (pa_cons (pv 0) (pa_cons pe_int pa_nil)))) (pa_cons (pe_un un_neg pe_int) (pa_cons (pe_op op_pow pe_int pe_int) (pa_cons (pe_op op_sub pe_int (pe_op op_pow pe_int pe_int)) (pa_cons (pe_own claw_odd (hr.mono (by decide)) (by rfl) (pa_cons (pv 0) pa_nil)) (pa_cons (pe_own claw_odd (hr.mono (by decide)) (by rfl) (pa_cons (pv 0) pa_nil)) pa_nil)))))))))
      (pss_one (ps_ret (pe_ix ix_list (pv 2) (pe_own claw_take (hr.mono (by decide)) (by rfl) (pa_cons (pv 0) (pa_cons pe_int pa_nil))) (fun _ _ => rfl))))), ?_⟩
    repeat walk_at "s"
    refine ⟨a, _, rfl, (by walk_at "hand"), (by walk_at "pos"), ?_⟩
    intro r1 H1 x1 ra1 rb1 rc1
    repeat walk_at "s"
    have h1 := x1.hand h0
    refine ⟨h1, fun o H2 x2 no => ?_⟩
    have h2 := x2.hand h1
    repeat walk_at "s"
    intro o2 H3 x3 no2
    have h3 := x3.hand h2
    have noB := no
    repeat walk_at "s"
    intro p4 np4
    generalize hg4 : upd H3 p4 _ = H4
    have s4 : Same H3 H4 := hg4 ▸ same_new np4
    have e4 := (congrFun hg4 p4).symm.trans upd_same
    clear hg4
    have n4 : p4 ≠ a := DrawAt.ne (by walk_at "hand") np4
    have h4 := h3.same s4
    repeat walk_at "s"
    refine ⟨a, _, rfl, (by walk_at "hand"), (by walk_at "pos"), ?_⟩
    intro r5 H5 x5 ra5 rb5 rc5
    have lst := x5.keep _ _ e4 n4
    obtain ⟨x, hx, mx⟩ := at_draw (xs := [V.int m, V.int (m + r1), V.int (-1), V.int (10 ^ Int.toNat 40), V.int (0 - 10 ^ Int.toNat 40), o, o2]) ra5 rb5
    refine ⟨_, _, _, _, rfl, rfl, SqL.new lst, hx, ?_⟩
    refine q x H5 ((((x1.trans x2).trans x3).trans (.same s4)).trans x5) ?_
    simp only [List.mem_cons, List.not_mem_nil, or_false] at mx
    rw [t40] at mx
    rcases mx with rfl | rfl | rfl | rfl | rfl | rfl | rfl
    · exact .out (by omega)
    · exact .out (by omega)
    · exact .out (by omega)
    · exact .out (by omega)
    · exact .out (by omega)
    · exact .inr (((no.extD x3 h2).up s4).extD x5 h4)
    · exact .inr ((no2.up s4).extD x5 h4)
theorem ok_notthere49 {f : Addr} {fd : FuncData} (B : Bt mg) (F : Fun K "_law_not_there" "_law_not_there" slaw_not_there f fd) (claw_take : Cal P w K mg base 1 "_law_take" ["draws", "many"] spTake) : FnOk P w K mg base CX0 2 f fd ["draws", "row"] spNotThere49 := by
  have nd := sclaw_not_there.nd
  refine F.ok sclaw_not_there (fun vs H Q E h => ?_) (fun cdv A outer s H vs Q E hr h => ?_)
  · obtain ⟨a, p, ns, rfl, _⟩ := h
    rfl
  · obtain ⟨a, p, ns, rfl, h0, hp, npa, l1, fn, q⟩ := h
    have hu := hr.units
    have t40 : (10 : Int) ^ Int.toNat 40 = 10000000000000000000000000000000000000000 := by decide
    refine ⟨_, (pss_cons (ps_set (i := 2) nd rfl (.inl rfl) (pe_lst pa_nil))
      (pss_cons (ps_for PassesOwn.never rfl (pi_list (pe_op op_cat (pe_op op_cat (pe_slice sl_list (pv 1) po_none (po_some pe_int)) (pe_slice sl_list (pv 1) (po_some (pe_un un_neg pe_int)) po_none)) (pe_lst (pa_cons pe_int pa_nil)))) (pg_name (i := 3) nd rfl (.inl rfl)) (pss_one (ps_set (i := 2) nd rfl (.inl rfl) (pe_op op_cat (pv 2) (pe_lst (pa_cons (pe_op op_add (pv 3) pe_int) (pa_cons (pe_op op_sub (pv 3) pe_int) pa_nil)))))))
      (Evl.pss_cut (ps_if (pt_cmpR (op_neD hu) (pv 1) (pe_lst pa_nil) (nomark _)) (pss_cons (ps_set (i := 4) nd rfl (.inl rfl) (pe_op op_mod (pe_own claw_take (hr.mono (by decide)) (by rfl) (pa_cons (pv 0) (pa_cons pe_int pa_nil))) (pe_callB call_len_seq (by rfl) B.len_ (by decide +kernel) (pa_cons (pv 1) pa_nil))))
      (pss_one (ps_set (i := 2) nd rfl (.inl rfl) (pe_op op_cat (pv 2) (pe_op op_rep (pe_lst (pa_cons (pe_op op_fdivW (pe_op op_add (pe_ix ix_list (pv 1) (pv 4) (fun _ _ => rfl)) (pe_ix ix_list (pv 1) (pe_op op_sub (pv 4) pe_int) (fun _ _ => rfl))) pe_int) (pa_cons (pe_op op_add (pe_ix ix_list (pv 1) (pv 4) (fun _ _ => rfl)) pe_int) pa_nil))) pe_int))))) pss_nil)
      (pss_cons (ps_setLc (i := 2) (own := [("number", 3)]) (by rfl) nd rfl rfl (sw_true rfl rfl rfl (by decide +kernel)) (pi_list (pe_op op_cat (pv 2) (pe_lst (pa_cons (pe_op op_pow pe_int pe_int) (pa_cons (pe_op op_sub pe_int (pe_op op_pow pe_int pe_int)) pa_nil))))) (blkOk_by (own := [("number", 3)]) (N := ["draws", "row", "some", "number", "at"]) (sc := defScope slaw_not_there) (by decide +kernel)) (fun _ _ _ _ _ => (pg_name (i := 3) nd rfl (.inl rfl))) (fun _ _ _ _ _ => (pts_one (pt_cmpR (Lx.op_notIn_K (K := K) rfl) (pv 3) (pv 1) rfl))) (fun _ _ _ _ _ => (pv 3)))
      (pss_one (ps_ret (pe_ix ix_list (pv 2) (pe_own claw_take (hr.mono (by decide)) (by rfl) (pa_cons (pv 0) (pa_cons (pe_callB call_len_seq (by rfl) B.len_ (by decide +kernel) (pa_cons (pv 2) pa_nil)) pa_nil))) (fun _ _ => rfl)))))))), ?_⟩
    repeat walk_at "s"
    intro p1 np1
    generalize hg1 : upd H p1 _ = H1
    have s1 : Same H H1 := hg1 ▸ same_new np1
    have e1 := (congrFun hg1 p1).symm.trans upd_same
    clear hg1
    have n1 : p1 ≠ a := DrawAt.ne (by walk_at "hand") np1
    repeat walk_at "s"
    refine ⟨p, ns.map V.int, rfl, SqL.new (s1 _ _ hp), ?_⟩
    intro p2 np2
    generalize hg2 : upd H1 p2 _ = H2
    have s2 : Same H1 H2 := hg2 ▸ same_new np2
    have e2 := (congrFun hg2 p2).symm.trans upd_same
    clear hg2
    have n2 : p2 ≠ a := DrawAt.ne (by walk_at "hand") np2
    obtain ⟨u1, eu1, su1⟩ := cut_sub (ns := ns) none (some 2)
    have l2 := su1.length_le
    rw [eu1] at e2
    repeat walk_at "s"
    refine ⟨p, ns.map V.int, rfl, SqL.new (s2 _ _ (s1 _ _ hp)), ?_⟩
    intro p3 np3
    generalize hg3 : upd H2 p3 _ = H3
    have s3 : Same H2 H3 := hg3 ▸ same_new np3
    have e3 := (congrFun hg3 p3).symm.trans upd_same
    clear hg3
    have n3 : p3 ≠ a := DrawAt.ne (by walk_at "hand") np3
    obtain ⟨u2, eu2, su2⟩ := cut_sub (ns := ns) (some (-2)) none
    have l3 := su2.length_le
    rw [eu2] at e3
    repeat walk_at "s"
    refine ⟨p2, p3, _, _, rfl, rfl, s3 _ _ e2, e3, small (by rw [List.length_map, List.length_map]; omega), ?_⟩
    intro p4 np4
    generalize hg4 : upd H3 p4 _ = H4
    have s4 : Same H3 H4 := hg4 ▸ same_new np4
    have e4 := (congrFun hg4 p4).symm.trans upd_same
    clear hg4
    have n4 : p4 ≠ a := DrawAt.ne (by walk_at "hand") np4
    repeat walk_at "s"
    intro p5 np5
    generalize hg5 : upd H4 p5 _ = H5
    have s5 : Same H4 H5 := hg5 ▸ same_new np5
    have e5 := (congrFun hg5 p5).symm.trans upd_same
    clear hg5
    have n5 : p5 ≠ a := DrawAt.ne (by walk_at "hand") np5
    refine ⟨p4, p5, _, _, rfl, rfl, s5 _ _ e4, e5, small (by rw [List.length_append, List.length_map, List.length_map]; simp; omega), ?_⟩
    intro p6 np6
    generalize hg6 : upd H5 p6 _ = H6
    have s6 : Same H5 H6 := hg6 ▸ same_new np6
    have e6 := (congrFun hg6 p6).symm.trans upd_same
    clear hg6
    have n6 : p6 ≠ a := DrawAt.ne (by walk_at "hand") np6
    obtain ⟨ms, hms, lms⟩ : ∃ ms : List Int, (u1.map V.int ++ u2.map V.int) ++ [V.int 0] = ms.map V.int ∧ ms.length ≤ 2001 := ⟨(u1 ++ u2) ++ [0], by simp, by simp; omega⟩
    rw [hms] at e6
    have S6 := (((((s1.trans s2).trans s3).trans s4).trans s5).trans s6)
    have e16 := s6 _ _ (s5 _ _ (s4 _ _ (s3 _ _ (s2 _ _ e1))))
    have h6 := h0.same S6
    refine ⟨p6, rfl, ⟨_, SqL.new e6⟩, ?_⟩
    refine for_list (K := K) (a := p6) (xs := ms.map V.int) (fun k σ H' => Same H6 H' ∧ ∃ (t : Addr) (zs : List Int) (v3 : Option V), H' t = some (.lst (zs.map V.int)) ∧ t ≠ a ∧ zs.length ≤ 2 * k ∧ σ = [some (.ref a), some (.ref p), some (.ref t), v3, none])
      ⟨.refl _, p1, [], none, e16, n1, Nat.zero_le _, rfl⟩ (fun k σ Hk _ w => w.1.seq (SqL.new e6)) (fun k v σ Hk hv w => ?_) (fun σ Hk w => ?_)
    · obtain ⟨sk, t, zs, v3, et, nt, lz, rfl⟩ := w
      obtain ⟨x, hx, rfl⟩ := int_at hv
      have kl := (List.getElem?_eq_some_iff.mp hx).1
      repeat walk_at "s"
      intro p7 np7
      generalize hg7 : upd Hk p7 _ = H7
      have s7 : Same Hk H7 := hg7 ▸ same_new np7
      have e7 := (congrFun hg7 p7).symm.trans upd_same
      clear hg7
      have n7 : p7 ≠ a := DrawAt.ne (by walk_at "hand") np7
      refine ⟨t, p7, _, _, rfl, rfl, s7 _ _ et, e7, small (by rw [List.length_map]; simp; omega), ?_⟩
      intro p8 np8
      generalize hg8 : upd H7 p8 _ = H8
      have s8 : Same H7 H8 := hg8 ▸ same_new np8
      have e8 := (congrFun hg8 p8).symm.trans upd_same
      clear hg8
      have n8 : p8 ≠ a := DrawAt.ne (by walk_at "hand") np8
      repeat walk_at "s"
      refine ⟨(sk.trans s7).trans s8, p8, zs ++ [x + 1, x - 1], some (.int x), by rw [e8]; simp, n8, by rw [List.length_append]; simp; omega, rfl⟩
    obtain ⟨sk, t, zs, v3, et, nt, lz, rfl⟩ := w
    rw [List.length_map] at lz
    clear e1 e2 e3 e4 e5 e16
    have hk := h6.same sk
    have hpk := sk _ _ (S6 _ _ hp)
    refine ⟨fun σ' H' => ExtD a Hk H' ∧ ∃ (t2 : Addr) (ys : List Int) (v3 v4 : Option V), H' t2 = some (.lst (ys.map V.int)) ∧ t2 ≠ a ∧ ys.length ≤ 5000 ∧ σ' = [some (.ref a), some (.ref p), some (.ref t2), v3, v4], ?_, ?_⟩
    · repeat walk_at "s"
      intro p7 np7
      generalize hg7 : upd Hk p7 _ = H7
      have s7 : Same Hk H7 := hg7 ▸ same_new np7
      have e7 := (congrFun hg7 p7).symm.trans upd_same
      clear hg7
      have n7 : p7 ≠ a := DrawAt.ne (by walk_at "hand") np7
      have h7 := hk.same s7
      refine ⟨_, _, dp_ints (SqL.new (s7 _ _ hpk)), dp_ints (ns := []) (SqL.new e7), shaped_ints _, shaped_ints _, ?_⟩
      rw [eqv_ints]
      refine ⟨_, rfl, ?_⟩
      by_cases z : ns = []
      · rw [decide_eq_true z]
        exact ⟨.same s7, t, zs, v3, none, s7 _ _ et, nt, by omega, rfl⟩
      · rw [decide_eq_false z]
        refine iteT ?_
        have pn := List.length_pos_iff.mpr z
        repeat walk_at "s"
        refine ⟨a, _, rfl, (by walk_at "hand"), (by walk_at "pos"), ?_⟩
        intro r8 H8 x8 ra8 rb8 rc8
        have hp8 := x8.keep _ _ (s7 _ _ hpk) npa
        have et8 := x8.keep _ _ (s7 _ _ et) nt
        have h8 := x8.hand h7
        repeat walk_at "s"
        refine ⟨_, _, rfl, .inl (SqL.new hp8), ?_⟩
        rw [List.length_map]
        have m0 := Int.emod_nonneg r8 (show (ns.length : Int) ≠ 0 by omega)
        have m1 := Int.emod_lt_of_pos r8 (show (0 : Int) < (ns.length : Int) by omega)
        obtain ⟨k, hk1⟩ : ∃ k : Nat, r8 % (ns.length : Int) = (k : Int) := ⟨(r8 % (ns.length : Int)).toNat, by omega⟩
        obtain ⟨x, hx⟩ : ∃ x, ns[k]? = some x := ⟨_, List.getElem?_eq_getElem (by omega)⟩
        have ax : atI (ns.map V.int) (k : Int) = some (.int x) := atI_nat (by rw [List.getElem?_map, hx]; rfl)
        obtain ⟨y, ay⟩ : ∃ y, atI (ns.map V.int) ((k : Int) - 1) = some (.int y) := by
          by_cases c : k = 0
          · obtain ⟨y, _, _, h⟩ := last_one ns pn
            exact ⟨y, by rw [c]; exact h⟩
          · obtain ⟨y, hy⟩ : ∃ y, ns[k - 1]? = some y := ⟨_, List.getElem?_eq_getElem (by omega)⟩
            exact ⟨y, by rw [show (k : Int) - 1 = ((k - 1 : Nat) : Int) by omega]; exact atI_nat (by rw [List.getElem?_map, hy]; rfl)⟩
        refine ⟨_, _, rfl, rfl, by omega, ?_⟩
        dsimp only
        rw [hk1]
        repeat walk_at "s"
        refine ⟨_, _, _, .int x, rfl, rfl, SqL.new hp8, ax, ?_⟩
        repeat walk_at "s"
        refine ⟨_, _, _, .int y, rfl, rfl, SqL.new hp8, ay, ?_⟩
        repeat walk_at "s"
        refine ⟨_, _, _, .int x, rfl, rfl, SqL.new hp8, ax, ?_⟩
        repeat walk_at "s"
        intro p9 np9
        generalize hg9 : upd H8 p9 _ = H9
        have s9 : Same H8 H9 := hg9 ▸ same_new np9
        have e9 := (congrFun hg9 p9).symm.trans upd_same
        clear hg9
        have n9 : p9 ≠ a := DrawAt.ne (by walk_at "hand") np9
        repeat walk_at "s"
        refine ⟨p9, 3, _, rfl, rfl, e9, by decide, by decide, small (by show 2 * 3 ≤ 100000; decide), ?_⟩
        intro p10 np10
        generalize hg10 : upd H9 p10 _ = H10
        have s10 : Same H9 H10 := hg10 ▸ same_new np10
        have e10 := (congrFun hg10 p10).symm.trans upd_same
        clear hg10
        have n10 : p10 ≠ a := DrawAt.ne (by walk_at "hand") np10
        have et10 := s10 _ _ (s9 _ _ et8)
        have e10 : H10 p10 = some (.lst ([(x + y) / 2, x + 2, (x + y) / 2, x + 2, (x + y) / 2, x + 2].map V.int)) := e10
        refine ⟨t, p10, _, _, rfl, rfl, et10, e10, small (by rw [List.length_map]; simp; omega), ?_⟩
        intro p11 np11
        generalize hg11 : upd H10 p11 _ = H11
        have s11 : Same H10 H11 := hg11 ▸ same_new np11
        have e11 := (congrFun hg11 p11).symm.trans upd_same
        clear hg11
        have n11 : p11 ≠ a := DrawAt.ne (by walk_at "hand") np11
        repeat walk_at "s"
        exact ⟨(((ExtD.same s7).trans x8).trans (.same ((s9.trans s10).trans s11))), p11, zs ++ [(x + y) / 2, x + 2, (x + y) / 2, x + 2, (x + y) / 2, x + 2], _, _, by rw [e11, List.map_append], n11, by rw [List.length_append]; simp; omega, rfl⟩
    · rintro σ' Hx ⟨X, t2, ys, v3, v4, et2, nt2, ly, rfl⟩
      have h8 := X.hand hk
      have hp8 := X.keep _ _ hpk npa
      repeat walk_at "s"
      intro p9 np9
      generalize hg9 : upd Hx p9 _ = H9
      have s9 : Same Hx H9 := hg9 ▸ same_new np9
      have e9 := (congrFun hg9 p9).symm.trans upd_same
      clear hg9
      have n9 : p9 ≠ a := DrawAt.ne (by walk_at "hand") np9
      refine ⟨t2, p9, _, _, rfl, rfl, s9 _ _ et2, e9, small (by rw [List.length_map]; simp; omega), ?_⟩
      intro p10 np10
      generalize hg10 : upd H9 p10 _ = H10
      have s10 : Same H9 H10 := hg10 ▸ same_new np10
      have e10 := (congrFun hg10 p10).symm.trans upd_same
      clear hg10
      have n10 : p10 ≠ a := DrawAt.ne (by walk_at "hand") np10
      have e10 : H10 p10 = some (.lst ((ys ++ [10 ^ Int.toNat 40, 0 - 10 ^ Int.toNat 40]).map V.int)) := by rw [e10, List.map_append]; rfl
      have S10 := s9.trans s10
      have hp10 := S10 _ _ hp8
      have h10 := h8.same S10
      repeat walk_at "s"
      refine ⟨⟨_, SqL.new e10⟩, ?_⟩
      intro D nD
      have nDa : D ≠ a := DrawAt.ne h10 nD
      refine lc_list (K := K) (a := p10) (xs := (ys ++ [10 ^ Int.toNat 40, 0 - 10 ^ Int.toNat 40]).map V.int) (fun j H' => Same H10 H' ∧ ∃ fs : List Int, H' D = some (.lst (fs.map V.int)) ∧ fs.length ≤ j ∧ (∀ n ∈ fs, n ∉ ns) ∧ (∀ (i : Nat) (y : Int), i < j → (ys ++ [10 ^ Int.toNat 40, 0 - 10 ^ Int.toNat 40])[i]? = some y → y ∉ ns → fs ≠ []))
        ⟨same_new nD, [], upd_same, Nat.zero_le _, (fun _ h => nomatch h), fun i y hi => absurd hi (Nat.not_lt_zero _)⟩ (fun j Hj _ w => w.1.seq (SqL.new e10)) (fun j v Hj hv w => ?_) (fun H11 w => ?_)
      · obtain ⟨w1, fs, w2, w3, w4, w5⟩ := w
        obtain ⟨x, hx, rfl⟩ := int_at hv
        have lj := (List.getElem?_eq_some_iff.mp hx).1
        rw [List.length_append] at lj
        have lj : j < ys.length + 2 := lj
        refine ⟨rfl, ?_⟩
        repeat walk_at "s"
        refine ⟨p, ns.map V.int, rfl, .inl (SqL.new (w1 _ _ hp10)), rfl, Lx.flat_ints _, ?_⟩
        rw [if_pos rfl, Lx.inV_ints]
        refine ⟨_, rfl, ?_⟩
        by_cases c : x ∈ ns
        · rw [decide_eq_true c]
          refine ⟨w1, fs, w2, by omega, w4, fun i y hi hy ny => ?_⟩
          by_cases d : i = j
          · subst d
            rw [hx] at hy
            cases hy
            exact absurd c ny
          · exact w5 i y (by omega) hy ny
        · rw [decide_eq_false c]
          repeat walk_at "s"
          refine ⟨_, w2, smallLt (by rw [List.length_map]; omega), same_app nD w1, fs ++ [x], by rw [upd_same, List.map_append]; rfl, by rw [List.length_append]; simp; omega, fun n hn => ?_, fun i y hi hy ny h => absurd h (by simp)⟩
          rcases List.mem_append.mp hn with h | h
          · exact w4 n h
          · rw [List.mem_singleton.mp h]
            exact c
      obtain ⟨s11, fs, e11, z3, z4, z5⟩ := w
      have nz : (10 : Int) ^ Int.toNat 40 ∉ ns := fun h => by
        have := fn.2 _ h
        rw [t40] at this
        omega
      have ne0 : fs ≠ [] := z5 ys.length _ (by rw [List.length_map, List.length_append]; simp) (by rw [List.getElem?_append_right (Nat.le_refl _), Nat.sub_self]; rfl) nz
      have fpos := List.length_pos_iff.mpr ne0
      have h11 := h10.same s11
      repeat walk_at "s"
      refine ⟨_, _, rfl, .inl (SqL.new e11), ?_⟩
      rw [List.length_map]
      repeat walk_at "s"
      refine ⟨a, _, rfl, h11, by omega, fun r H12 x12 ra rb rc => ?_⟩
      obtain ⟨k, hkr⟩ : ∃ k : Nat, r = (k : Int) := ⟨r.toNat, by omega⟩
      subst hkr
      obtain ⟨n, hn⟩ : ∃ n, fs[k]? = some n := ⟨_, List.getElem?_eq_getElem (by omega)⟩
      refine ⟨_, _, _, .int n, rfl, rfl, SqL.new (x12.keep _ _ e11 nDa), atI_nat (by rw [List.getElem?_map, hn]; rfl), ?_⟩
      exact q n H12 ((((((ExtD.same S6).trans (.same sk)).trans X).trans (.same S10)).trans (.same s11)).trans x12) (z4 n (List.mem_of_getElem? hn))

theorem ok_refused49 {CL f : Addr} {fd : FuncData} (B : Bt mg) (F : Fun K "_law_refused" "_law_refused" slaw_refused f fd) (claw_take : Cal P w K mg base 1 "_law_take" ["draws", "many"] spTake) (claw_number : Cal P w K mg base 2 "_law_number" ["draws", "row"] spNumL) (claw_no_side : Cal P w K mg base 3 "_law_no_side" ["draws"] (spNoSide49 K)) (claw_odd : Cal P w K mg base 2 "_law_odd" ["draws"] (spOdd49 K))
    (claw_caught : Cal P w K mg base 7 "_law_caught" ["live", "way", "side", "number"] (spCaught49 K CL)) (claw_not_there : Cal P w K mg base 2 "_law_not_there" ["draws", "row"] spNotThere49) (claw_no_place : Cal P w K mg base 3 "_law_no_place" ["draws", "size"] (spNoPlace49 K)) : FnOk P w K mg base CX0 8 f fd ["draws", "live", "both"] (spRefused49 K CL) := by
  have nd := sclaw_refused.nd
  refine F.ok sclaw_refused (fun vs H Q E h => ?_) (fun cdv A outer s H vs Q E hr h => ?_)
  · obtain ⟨a, g, r0, r1, D, b, p, t, st, hist, rfl, _⟩ := h
    rfl
  · obtain ⟨a, g, q0, q1, D, b, p, t, st, hist, rfl, h0, LV, na0, na1, naD, eb, nba, npa, nta, ep, et, q⟩ := h
    have hu := hr.units
    have z0 : ((0 : Nat) : Int) = 0 := rfl
    have z1 : ((1 : Nat) : Int) = 1 := rfl
    have z2 : ((2 : Nat) : Int) = 2 := rfl
    have gd := LV.gd
    have l1 := gd.l1
    have l2 := gd.l2
    refine ⟨_, (pss_cons (ps_set (i := 3) nd rfl (.inl rfl) (pe_own claw_take (hr.mono (by decide)) (by rfl) (pa_cons (pv 0) (pa_cons pe_int pa_nil))))
      (pss_cons (ps_set (i := 4) nd rfl (.inl rfl) (pe_ix ix_list (pv 2) (pv 3) (fun _ _ => rfl)))
      (pss_cons (ps_set (i := 5) nd rfl (.inl rfl) (pe_own claw_number (hr.mono (by decide)) (by rfl) (pa_cons (pv 0) (pa_cons (pv 4) pa_nil))))
      (pss_cons (ps_set (i := 6) nd rfl (.inl rfl) (pe_own claw_no_side (hr.mono (by decide)) (by rfl) (pa_cons (pv 0) pa_nil)))
      (pss_cons (ps_set (i := 7) nd rfl (.inl rfl) (pe_own claw_odd (hr.mono (by decide)) (by rfl) (pa_cons (pv 0) pa_nil)))
      (pss_cons (ps_for PassesOwn.never rfl (pi_range1 (by rfl) B.range_ (pa_cons pe_int pa_nil)) (pg_name (i := 8) nd rfl (.inl rfl)) (pss_cons (ps_if (PW.pt (pw_or (pt_cmpR op_ne (pe_own claw_caught (hr.mono (by decide)) (by rfl) (pa_cons (pv 1) (pa_cons (pv 8) (pa_cons (pv 6) (pa_cons (pv 5) pa_nil))))) pe_int (nomark _)) (pw_or1 (pt_cmpR op_ne (pe_own claw_caught (hr.mono (by decide)) (by rfl) (pa_cons (pv 1) (pa_cons (pv 8) (pa_cons (pv 6) (pa_cons (pv 7) pa_nil))))) pe_int (nomark _))))) (pss_one (ps_ret pe_bl)) pss_nil)
      (pss_one (ps_if (PW.pt (pw_or (pt_cmpR op_ne (pe_own claw_caught (hr.mono (by decide)) (by rfl) (pa_cons (pv 1) (pa_cons (pv 8) (pa_cons (pv 3) (pa_cons (pv 7) pa_nil))))) pe_int (nomark _)) (pw_or1 (pt_cmpR op_ne (pe_own claw_caught (hr.mono (by decide)) (by rfl) (pa_cons (pv 1) (pa_cons (pv 8) (pa_cons (pv 3) (pa_cons (pe_callTy call_str_int (by rfl) B.str_ (by decide +kernel) (pa_cons (pv 5) pa_nil)) pa_nil))))) pe_int (nomark _))))) (pss_one (ps_ret pe_bl)) pss_nil))))
      (pss_cons (ps_if (pt_cmpR op_ne (pe_own claw_caught (hr.mono (by decide)) (by rfl) (pa_cons (pv 1) (pa_cons pe_int (pa_cons (pv 3) (pa_cons (pe_own claw_not_there (hr.mono (by decide)) (by rfl) (pa_cons (pv 0) (pa_cons (pv 4) pa_nil))) pa_nil))))) pe_int (nomark _)) (pss_one (ps_ret pe_bl)) pss_nil)
      (pss_cons (ps_if (PW.pt (pw_and (pt_cmpR op_gt (pe_callB call_len_seq (by rfl) B.len_ (by decide +kernel) (pa_cons (pv 4) pa_nil)) pe_int (nomark _)) (pw_and1 (pt_cmpR op_ne (pe_own claw_caught (hr.mono (by decide)) (by rfl) (pa_cons (pv 1) (pa_cons pe_int (pa_cons (pv 3) (pa_cons (pv 5) pa_nil))))) pe_int (nomark _))))) (pss_one (ps_ret pe_bl)) pss_nil)
      (pss_one (ps_ret (pe_cmpR op_eq (pe_own claw_caught (hr.mono (by decide)) (by rfl) (pa_cons (pv 1) (pa_cons pe_int (pa_cons pe_non (pa_cons (pe_own claw_no_place (hr.mono (by decide)) (by rfl) (pa_cons (pv 0) (pa_cons (pe_op op_mulW (pe_callB call_len_seq (by rfl) B.len_ (by decide +kernel) (pa_cons (pe_ix ix_list (pv 2) pe_int (fun _ _ => rfl)) pa_nil)) (pe_callB call_len_seq (by rfl) B.len_ (by decide +kernel) (pa_cons (pe_ix ix_list (pv 2) pe_int (fun _ _ => rfl)) pa_nil))) pa_nil))) pa_nil))))) pe_int (nomark _)))))))))))), ?_⟩
    repeat walk_at "s"
    refine ⟨a, _, rfl, (by walk_at "hand"), (by walk_at "pos"), ?_⟩
    intro r1 H1 x1 ra1 rb1 rc1
    repeat walk_at "s"
    have h1 := x1.hand h0
    have eb1 := x1.keep _ _ eb nba
    have LV1 := LV.extD x1 h0 na0 na1 naD
    obtain ⟨bb, rr, hb, nra, at1', er1⟩ : ∃ (bb : Bool) (rr : Addr), V.int r1 = sideI bb ∧ rr ≠ a ∧ atI [V.ref p, V.ref t] r1 = some (.ref rr) ∧ H1 rr = some (.lst ((sideR st bb).map V.int)) := by
      by_cases c : r1 = 0
      · rw [c]
        exact ⟨false, p, rfl, npa, at0, x1.keep _ _ ep npa⟩
      · obtain rfl : r1 = 1 := by omega
        exact ⟨true, t, rfl, nta, at1, x1.keep _ _ et nta⟩
    have lr := gd.len bb
    refine ⟨_, _, _, .ref rr, rfl, rfl, SqL.new eb1, at1', ?_⟩
    rw [hb]
    repeat walk_at "s"
    refine ⟨a, rr, sideR st bb, rfl, h1, er1, nra, by omega, gd.fine bb, fun n H2 x2 sn => ?_⟩
    have h2 := x2.hand h1
    have er2 := x2.keep _ _ er1 nra
    have LV2 := LV1.extD x2 h1 na0 na1 naD
    repeat walk_at "s"
    intro bad H3 x3 hbad
    have h3 := x3.hand h2
    have er3 := x3.keep _ _ er2 nra
    have LV3 := LV2.extD x3 h2 na0 na1 naD
    repeat walk_at "s"
    intro odd H4 x4 hodd
    have h4 := x4.hand h3
    have er4 := x4.keep _ _ er3 nra
    have LV4 := LV3.extD x4 h3 na0 na1 naD
    have hbad4 := hbad.extD x4 h3
    repeat walk_at "s"
    refine for_range (lo := 0) (n := 2) (fun k σ H' => Same H4 H' ∧ ∃ v8 : Option V, σ = [some (.ref a), some (.ref g), some (.ref b), some (sideI bb), some (.ref rr), some (.int n), some bad, some odd, v8]) ⟨.refl _, none, rfl⟩ (fun k σ Hk hk w => ?_) (fun σ H5 w => ?_)
    · obtain ⟨sk, v8, rfl⟩ := w
      obtain ⟨way, hw, way2⟩ : ∃ way : Int, (0 : Int) + (k : Int) = way ∧ (way = 0 ∨ way = 1) := ⟨_, rfl, by omega⟩
      try dsimp only
      try rw [hw]
      have LVk := LV4.same sk
      repeat walk_at "s"
      refine ⟨g, q0, q1, D, way, bad, .int n, 0, st, hist, rfl, LVk, ask_side way2 (hbad4.up sk), fun H6 s6 => ?_⟩
      repeat walk_at "s"
      repeat walk_at "s"
      refine ⟨g, q0, q1, D, way, bad, odd, 0, st, hist, rfl, LVk.same s6, ask_side way2 ((hbad4.up sk).up s6), fun H7 s7 => ?_⟩
      have S7 := (sk.trans s6).trans s7
      repeat walk_at "s"
      repeat walk_at "s"
      refine ⟨g, q0, q1, D, way, sideI bb, odd, 1, st, hist, rfl, LV4.same S7, ask_num bb way2 (hodd.up S7), fun H8 s8 => ?_⟩
      repeat walk_at "s"
      repeat walk_at "s"
      refine ⟨small_log sn, ?_⟩
      repeat walk_at "s"
      have S8 := S7.trans s8
      refine ⟨g, q0, q1, D, way, sideI bb, .str _, 1, st, hist, rfl, LV4.same S8, ask_num bb way2 no_str, fun H9 s9 => ?_⟩
      repeat walk_at "s"
      repeat walk_at "s"
      exact ⟨S8.trans s9, _, rfl⟩
    obtain ⟨s5, v8, rfl⟩ := w
    have h5 := h4.same s5
    have LV5 := LV4.same s5
    have er5 := s5 _ _ er4
    repeat walk_at "s"
    refine ⟨a, rr, sideR st bb, rfl, h5, er5, nra, by omega, gd.fine bb, fun no H6 x6 hno => ?_⟩
    have h6 := x6.hand h5
    have LV6 := LV5.extD x6 h5 na0 na1 naD
    have er6 := x6.keep _ _ er5 nra
    refine ⟨g, q0, q1, D, 1, sideI bb, .int no, 1, st, hist, rfl, LV6, .inr (.inl ⟨rfl, .inr ⟨rfl, bb, rfl, .inr ⟨no, rfl, hno⟩⟩⟩), fun H7 s7 => ?_⟩
    repeat walk_at "s"
    have h7 := h6.same s7
    have LV7 := LV6.same s7
    have er7 := s7 _ _ er6
    have X7 : ExtD a H H7 := (((((x1.trans x2).trans x3).trans x4).trans (.same s5)).trans x6).trans (.same s7)
    have mm : (st.1.length : Int) * (st.2.length : Int) ≤ 90000 := by
      have := Nat.mul_le_mul l1 l2
      rw [← Int.natCast_mul]
      omega
    by_cases c : (299 : Int) < ((sideR st bb).length : Int)
    · repeat walk_at "s"
      refine ⟨_, _, rfl, .inl (SqL.new er7), ?_⟩
      rw [List.length_map]
      repeat walk_at "s"
      rw [decide_eq_true c]
      refine iteT ?_
      repeat walk_at "s"
      refine ⟨g, q0, q1, D, 0, sideI bb, .int n, 1, st, hist, rfl, LV7, .inl ⟨rfl, .inr ⟨rfl, bb, rfl, .inr ⟨n, rfl, by omega⟩⟩⟩, fun Hc sc => ?_⟩
      have hc := h7.same sc
      have LVc := LV7.same sc
      have Xc := X7.trans (.same sc)
      have ebc := Xc.keep _ _ eb nba
      have sbc : SqL K Hc b [V.ref p, V.ref t] := SqL.new ebc
      have epc := Xc.keep _ _ ep npa
      have etc := Xc.keep _ _ et nta
      repeat walk_at "s"
      refine ⟨_, _, rfl, .inl (SqL.new epc), ?_⟩
      rw [List.length_map]
      repeat walk_at "s"
      refine ⟨_, _, rfl, .inl (SqL.new etc), ?_⟩
      rw [List.length_map]
      refine ⟨_, _, rfl, rfl, mulW (by omega) (by omega) (by omega) (by omega), ?_⟩
      refine ⟨a, _, rfl, hc, Int.mul_nonneg (by omega) (by omega), mm, fun np H9 x9 hnp => ?_⟩
      have LV9 := LVc.extD x9 hc na0 na1 naD
      refine ⟨g, q0, q1, D, 2, .non, np, 2, st, hist, rfl, LV9, .inr (.inr ⟨rfl, rfl, hnp⟩), fun Ha sa => ?_⟩
      repeat walk_at "s"
      exact q Ha ((Xc.trans x9).trans (.same sa))
    · repeat walk_at "s"
      refine ⟨_, _, rfl, .inl (SqL.new er7), ?_⟩
      rw [List.length_map]
      repeat walk_at "s"
      rw [decide_eq_false c]
      refine iteF ?_
      obtain ⟨Hc, hHc⟩ : ∃ Hc, H7 = Hc := ⟨_, rfl⟩
      have sc : Same H7 Hc := by rw [hHc]; exact .refl _
      rw [hHc]
      have hc := h7.same sc
      have LVc := LV7.same sc
      have Xc := X7.trans (.same sc)
      have ebc := Xc.keep _ _ eb nba
      have sbc : SqL K Hc b [V.ref p, V.ref t] := SqL.new ebc
      have epc := Xc.keep _ _ ep npa
      have etc := Xc.keep _ _ et nta
      repeat walk_at "s"
      refine ⟨_, _, rfl, .inl (SqL.new epc), ?_⟩
      rw [List.length_map]
      repeat walk_at "s"
      refine ⟨_, _, rfl, .inl (SqL.new etc), ?_⟩
      rw [List.length_map]
      refine ⟨_, _, rfl, rfl, mulW (by omega) (by omega) (by omega) (by omega), ?_⟩
      refine ⟨a, _, rfl, hc, Int.mul_nonneg (by omega) (by omega), mm, fun np H9 x9 hnp => ?_⟩
      have LV9 := LVc.extD x9 hc na0 na1 naD
      refine ⟨g, q0, q1, D, 2, .non, np, 2, st, hist, rfl, LV9, .inr (.inr ⟨rfl, rfl, hnp⟩), fun Ha sa => ?_⟩
      repeat walk_at "s"
      exact q Ha ((Xc.trans x9).trans (.same sa))

theorem ok_good49 {CL f : Addr} {fd : FuncData} {T : List (Addr × Str)} (B : Bt mg) (F : Fun K "_law_good_behind" "_law_good_behind" slaw_good_behind f fd) (cLive_put : Ob.CalM P w K mg base 3 CL "put" ["self", "side", "number"] (spLPut CL)) (cLive_take : Ob.CalM P w K mg base 3 CL "take" ["self", "side", "number"] (spLTake CL)) (cLive_undo : Ob.CalM P w K mg base 3 CL "undo" ["self"] (spLUndo CL))
    (claw_take : Cal P w K mg base 1 "_law_take" ["draws", "many"] spTake) (claw_not_there : Cal P w K mg base 2 "_law_not_there" ["draws", "row"] spNotThere49) (claw_caught : Cal P w K mg base 7 "_law_caught" ["live", "way", "side", "number"] (spCaught49 K CL)) : FnOk P w K mg base CX0 8 f fd ["draws", "live", "state"] (spGood49 CL T) := by
  have nd := sclaw_good_behind.nd
  refine F.ok sclaw_good_behind (fun vs H Q E h => ?_) (fun cdv A outer s H vs Q E hr h => ?_)
  · obtain ⟨M, a, g, st, pl, q0, q1, D, s, hist, rfl, _⟩ := h
    rfl
  · obtain ⟨M, a, g, sta, pl, q0, q1, D, st, hist, rfl, W, lh, q⟩ := h
    have hu := hr.units
    have h0 := W.draws
    have LV := W.live
    have gd := LV.gd
    have t15 : (10 : Int) ^ Int.toNat 15 = 1000000000000000 := by decide
    obtain ⟨b, bs, es, _, ⟨nb, p, t, eb, np, nt, ep, et⟩, _, _⟩ := id W.state
    have nds := (List.nodup_cons.mp W.nd).1
    have ne : ∀ {c : Addr}, c ∉ (a :: q0 :: q1 :: D :: sta :: pl :: M) → c ≠ a := fun h z => h (by rw [z]; simp)
    have nba := ne nb
    have npa := ne np
    have nta := ne nt
    have nsa : sta ≠ a := fun z => nds (by rw [← z]; simp)
    have na0 : q0 ≠ a := fun z => nds (by rw [← z]; simp)
    have na1 : q1 ≠ a := fun z => nds (by rw [← z]; simp)
    have naD : D ≠ a := fun z => nds (by rw [← z]; simp)
    refine ⟨_, (pss_cons (ps_set (i := 3) nd rfl (.inl rfl) (pe_own claw_take (hr.mono (by decide)) (by rfl) (pa_cons (pv 0) (pa_cons pe_int pa_nil))))
      (pss_cons (ps_set (i := 4) nd rfl (.inl rfl) (pe_ix ix_list (pe_ix ix_list (pv 2) pe_int (fun _ _ => rfl)) (pv 3) (fun _ _ => rfl)))
      (pss_cons (ps_set (i := 5) nd rfl (.inl rfl) (pe_own claw_not_there (hr.mono (by decide)) (by rfl) (pa_cons (pv 0) (pa_cons (pv 4) pa_nil))))
      (pss_cons (ps_if (PW.pt (pw_or (pt_cmpR op_gt (pe_callB call_len_seq (by rfl) B.len_ (by decide +kernel) (pa_cons (pv 4) pa_nil)) pe_int (nomark _)) (pw_or1 (pt_cmpR op_gt (pe_callB call_abs (by rfl) B.abs_ (by decide +kernel) (pa_cons (pv 5) pa_nil)) (pe_op op_pow pe_int pe_int) (nomark _))))) (pss_one (ps_ret pe_bl)) pss_nil)
      (pss_cons (ps_if (PW.pt (pw_or (pt_cmpR op_ne (pe_own claw_caught (hr.mono (by decide)) (by rfl) (pa_cons (pv 1) (pa_cons pe_int (pa_cons (pv 3) (pa_cons (pv 5) pa_nil))))) pe_int (nomark _)) (pw_or1 (pt_cmpR op_notN (Ob.pe_m (pv 1) cLive_put (hr.mono (by decide)) (pa_cons (pv 3) (pa_cons (pv 5) pa_nil))) pe_non (nomark _))))) (pss_one (ps_ret pe_bl)) pss_nil)
      (pss_cons (ps_if (PW.pt (pw_or (pt_cmpR op_notN (Ob.pe_m (pv 1) cLive_take (hr.mono (by decide)) (pa_cons (pv 3) (pa_cons (pv 5) pa_nil))) pe_non (nomark _)) (pw_or1 (pt_cmpR op_ne (pe_own claw_caught (hr.mono (by decide)) (by rfl) (pa_cons (pv 1) (pa_cons pe_int (pa_cons (pv 3) (pa_cons (pv 5) pa_nil))))) pe_int (nomark _))))) (pss_one (ps_ret pe_bl)) pss_nil)
      (pss_one (ps_ret (pe_and (pe_cmpR op_isBl (Ob.pe_m0 (pv 1) cLive_undo (hr.mono (by decide))) pe_bl (nomark _)) (pe_one (pe_cmpR op_isBl (Ob.pe_m0 (pv 1) cLive_undo (hr.mono (by decide))) pe_bl (nomark _)))))))))))), ?_⟩
    repeat walk_at "s"
    refine ⟨a, _, rfl, (by walk_at "hand"), (by walk_at "pos"), ?_⟩
    intro r1 H1 x1 ra1 rb1 rc1
    repeat walk_at "s"
    have h1 := x1.hand h0
    have es1 := x1.keep _ _ es nsa
    have eb1 := x1.keep _ _ eb nba
    obtain ⟨bb, rr, hb, nra, at1', er1⟩ : ∃ (bb : Bool) (rr : Addr), V.int r1 = sideI bb ∧ rr ≠ a ∧ atI [V.ref p, V.ref t] r1 = some (.ref rr) ∧ H1 rr = some (.lst ((sideR st bb).map V.int)) := by
      by_cases c : r1 = 0
      · rw [c]
        exact ⟨false, p, rfl, npa, at0, x1.keep _ _ ep npa⟩
      · obtain rfl : r1 = 1 := by omega
        exact ⟨true, t, rfl, nta, at1, x1.keep _ _ et nta⟩
    have lr := gd.len bb
    try refine ⟨_, _, _, .ref b, rfl, rfl, SqL.new es1, at0, ?_⟩
    repeat walk_at "s"
    refine ⟨_, _, _, .ref rr, rfl, rfl, SqL.new eb1, at1', ?_⟩
    rw [hb]
    repeat walk_at "s"
    refine ⟨a, rr, sideR st bb, rfl, h1, er1, nra, by omega, gd.fine bb, fun n H2 x2 hn => ?_⟩
    have h2 := x2.hand h1
    have X2 := x1.trans x2
    have er2 := x2.keep _ _ er1 nra
    have W2 := W.ext X2
    have LV2 := W2.live
    have m2 : Lv T [a, q0, q1, D] H H2 := .ext X2 h0 (by simp)
    repeat walk_at "s"
    refine ⟨_, _, rfl, .inl (SqL.new er2), ?_⟩
    rw [List.length_map]
    repeat walk_at "s"
    by_cases c1 : (299 : Int) < ((sideR st bb).length : Int)
    · rw [decide_eq_true c1]
      refine iteT ?_
      repeat walk_at "s"
      exact q H2 m2 W2
    rw [decide_eq_false c1]
    refine iteF ?_
    repeat walk_at "s"
    refine ite2 (fun z => ?_) (fun z => ?_)
    · repeat walk_at "s"
      exact q H2 m2 W2
    have sn : Small n := by
      have z2 : ¬ (10 : Int) ^ Int.toNat 15 < (if n < 0 then -n else n) := fun h => z (decide_eq_true h)
      rw [t15] at z2
      unfold Small
      split at z2 <;> omega
    clear z
    obtain ⟨dx, T2, ts, log, R⟩ := id LV2
    repeat walk_at "s"
    refine ⟨g, q0, q1, D, 1, sideI bb, .int n, 1, st, hist, rfl, LV2, .inr (.inl ⟨rfl, .inr ⟨rfl, bb, rfl, .inr ⟨n, rfl, hn⟩⟩⟩), fun H3 s3 => ?_⟩
    have LV3 := LV2.same s3
    repeat walk_at "s"
    refine ⟨g, dx, _, rfl, s3 _ _ R.hg, rows_no _ _ (by decide +kernel) (by decide +kernel), ?_⟩
    repeat walk_at "s"
    refine ⟨g, q0, q1, D, bb, n, st, hist, rfl, LV3, sn, by omega, by omega, fun H4 m4 LV4 => ?_⟩
    obtain ⟨dx4, T4, ts4, log4, R4⟩ := id LV4
    repeat walk_at "s"
    refine ⟨g, dx4, _, rfl, R4.hg, rows_no _ _ (by decide +kernel) (by decide +kernel), ?_⟩
    repeat walk_at "s"
    refine ⟨g, q0, q1, D, bb, n, _, _, rfl, LV4, by rw [side_set]; exact (ins_perm _ _).mem_iff.mpr (by simp), by simp; omega, fun H5 m5 LV5 => ?_⟩
    rw [set_set, side_set, del_ins, set_side] at LV5
    have LV6 : LiveAt CL H5 g q0 q1 D st _ := LV5
    repeat walk_at "s"
    refine ⟨g, q0, q1, D, 1, sideI bb, .int n, 1, st, _, rfl, LV6, .inr (.inl ⟨rfl, .inr ⟨rfl, bb, rfl, .inr ⟨n, rfl, hn⟩⟩⟩), fun H6 s6 => ?_⟩
    have LV6 := LV6.same s6
    obtain ⟨dx6, T6, ts6, log6, R6⟩ := id LV6
    repeat walk_at "s"
    refine ⟨g, dx6, _, rfl, R6.hg, rows_no _ _ (by decide +kernel) (by decide +kernel), ?_⟩
    repeat walk_at "s"
    refine ⟨g, q0, q1, D, st, _, rfl, LV6, (fun e => nomatch e), fun p7 rest7 H7 e7 m7 LV7 => ?_⟩
    cases e7
    repeat walk_at "s"
    obtain ⟨dx7, T7, ts7, log7, R7⟩ := id LV7
    refine ⟨g, dx7, _, rfl, R7.hg, rows_no _ _ (by decide +kernel) (by decide +kernel), ?_⟩
    repeat walk_at "s"
    refine ⟨g, q0, q1, D, _, _, rfl, LV7, (fun e => nomatch e), fun p8 rest8 H8 e8 m8 LV8 => ?_⟩
    cases e8
    have mm : Lv T [q0, q1, D] H2 H8 := (((((Lv.same s3).trans (m4 T)).trans (m5 T)).trans (.same s6)).trans (m7 T)).trans (m8 T)
    have W8 := W2.relive mm LV8
    have M8 : Lv T [a, q0, q1, D] H H8 := m2.trans (mm.mono fun c hc => by simp at hc ⊢; exact .inr hc)
    repeat walk_at "s"
    show Q (.bl (decide (true = true))) H8
    rw [decide_eq_true rfl]
    exact q H8 M8 W8

theorem ok_start49 {f : Addr} {fd : FuncData} (B : Bt mg) (F : Fun K "_law_start" "_law_start" slaw_start f fd) (claw_take : Cal P w K mg base 1 "_law_take" ["draws", "many"] spTake) (claw_row : Cal P w K mg base 2 "_law_row" ["draws", "most"] spRowD) : FnOk P w K mg base CX0 3 f fd ["draws"] spStart49 := by
  have nd := sclaw_start.nd
  refine F.ok sclaw_start (fun vs H Q E h => ?_) (fun cdv A outer s H vs Q E hr h => ?_)
  · obtain ⟨a, rfl, _⟩ := h
    rfl
  · obtain ⟨a, rfl, h0, q⟩ := h
    have hu := hr.units
    refine ⟨_, (pss_cons (ps_set (i := 1) nd rfl (.inl rfl) (pe_own claw_row (hr.mono (by decide)) (by rfl) (pa_cons (pv 0) (pa_cons pe_int pa_nil))))
      (pss_cons (ps_if (pt_cmpR op_eq (pe_own claw_take (hr.mono (by decide)) (by rfl) (pa_cons (pv 0) (pa_cons pe_int pa_nil))) pe_int (nomark _)) (pss_cons (ps_set (i := 2) nd rfl (.inr rfl) (pe_op op_add pe_int (pe_own claw_take (hr.mono (by decide)) (by rfl) (pa_cons (pv 0) (pa_cons pe_int pa_nil)))))
      (pss_one (ps_ret (pe_lc (own := [("k", 3)]) (by rfl) nd (pi_range1 (by rfl) B.range_ (pa_cons (pe_op op_sub pe_int (pe_own claw_take (hr.mono (by decide)) (by rfl) (pa_cons (pv 0) (pa_cons pe_int pa_nil)))) pa_nil)) (blkOk_by (own := [("k", 3)]) (N := ["draws", "row", "step", "k"]) (sc := defScope slaw_start) (by decide +kernel)) (fun _ _ _ _ _ => (pg_name (i := 3) nd rfl (.inl rfl))) (fun _ _ _ _ _ => pts_nil) (fun _ _ _ _ _ => (pe_op op_sub (pe_op op_fdivW (pe_op op_mulW (pv 3) (pv 2)) pe_int) pe_int)))))) pss_nil)
      (pss_one (ps_ret (pv 1))))), ?_⟩
    repeat walk_at "s"
    refine ⟨a, 300, rfl, h0, by decide, fun p us H1 x1 np e1 l1 f1 => ?_⟩
    have h1 := x1.hand h0
    have npa : p ≠ a := DrawAt.ne h0 np
    repeat walk_at "s"
    refine ⟨a, _, rfl, (by walk_at "hand"), (by walk_at "pos"), ?_⟩
    intro r2 H2 x2 ra2 rb2 rc2
    repeat walk_at "s"
    refine ⟨rfl, _, rfl, ?_⟩
    have h2 := x2.hand h1
    have X2 := x1.trans x2
    refine ite2 (fun z => ?_) (fun z => ?_)
    · repeat walk_at "s"
      refine ⟨a, _, rfl, (by walk_at "hand"), (by walk_at "pos"), ?_⟩
      intro r3 H3 x3 ra3 rb3 rc3
      repeat walk_at "s"
      have h3 := x3.hand h2
      refine ⟨a, _, rfl, (by walk_at "hand"), (by walk_at "pos"), ?_⟩
      intro r4 H4 x4 ra4 rb4 rc4
      repeat walk_at "s"
      have h4 := x4.hand h3
      have X4 := (X2.trans x3).trans x4
      obtain ⟨c, hc, c1⟩ : ∃ c : Nat, (300 : Int) - r4 = (c : Int) ∧ c ≤ 300 := ⟨(300 - r4).toNat, by omega, by omega⟩
      try dsimp only
      rw [hc]
      intro D nD
      refine lc_range (lo := 0) (n := c) (fun i H' => Same H4 H' ∧ H' D = some (.lst ((stepL (1 + r3) i).map V.int))) ⟨same_new nD, upd_same⟩ (fun i Hi hi w => ?_) (fun H5 w => ?_)
      · obtain ⟨w1, w2⟩ := w
        refine ⟨rfl, ?_⟩
        repeat walk_at "s"
        refine ⟨_, w2, smallLt (by rw [List.length_map, stepL_len]; omega), same_app nD w1, ?_⟩
        rw [upd_same, stepL_next, List.map_append, show (0 : Int) + (i : Int) = (i : Int) by omega]
        rfl
      obtain ⟨s5, e5⟩ := w
      have nDa : D ≠ a := DrawAt.ne h4 nD
      exact q D (stepL (1 + r3) c) H5 (X4.trans (.same s5)) (X4.free nDa nD) e5 (by rw [stepL_len]; omega) (stepL_fine (by omega) (by omega) c1)
    · repeat walk_at "s"
      exact q p us H2 X2 np (x2.keep _ _ e1 npa) (by omega) f1

theorem ok_whole1 {f : Addr} {fd : FuncData} (B : Bt mg) (F : Fun K "_law_whole" "_law_whole" slaw_whole f fd) : FnOk P w K mg base CX0 1 f fd ["thing"] spWhole1 := by
  have nd := sclaw_whole.nd
  refine F.ok sclaw_whole (fun vs H Q E h => ?_) (fun cdv A outer s H vs Q E hr h => ?_)
  · obtain ⟨x, rfl, _⟩ := h
    rfl
  · obtain ⟨x, rfl, q⟩ := h
    refine ⟨_, (pss_one (ps_ret (pe_and (pe_callB call_isi (by rfl) B.isinstance_ (by decide +kernel) (pa_cons (pv 0) (pa_cons (pe_bltn (v := .ty "int") (by rfl) B.int_ (by decide +kernel) rfl) pa_nil))) (pe_one (pe_not (pe_callB call_isi (by rfl) B.isinstance_ (by decide +kernel) (pa_cons (pv 0) (pa_cons (pe_bltn (v := .ty "bool") (by rfl) B.bool_ (by decide +kernel) rfl) pa_nil)))))))), ?_⟩
    repeat walk_at "s"
    refine ⟨_, _, _, _, true, rfl, .ty "int", .base (.int x), kit_ty (by decide +kernel), ?_⟩
    walk_at "s"
    refine iteT ?_
    walk_at "s"
    refine ⟨_, _, _, _, false, rfl, .ty "bool", .base (.int x), kit_ty (by decide +kernel), ?_⟩
    repeat walk_at "s"
    first
      | exact q
      | trace_state

theorem ok_wholes2 {f : Addr} {fd : FuncData} (B : Bt mg) (F : Fun K "_law_wholes" "_law_wholes" slaw_wholes f fd) (claw_whole : Cal P w K mg base 1 "_law_whole" ["thing"] spWhole1) : FnOk P w K mg base CX0 2 f fd ["thing", "many"] (spWholes2 K) := by
  have nd := sclaw_wholes.nd
  refine F.ok sclaw_wholes (fun vs H Q E h => ?_) (fun cdv A outer s H vs Q E hr h => ?_)
  · obtain ⟨t, zs, rfl, _⟩ := h
    rfl
  · obtain ⟨t, zs, rfl, ht, lz, q⟩ := h
    have hu := hr.units
    refine ⟨_, (pss_one (ps_ret (pe_and (pe_callB call_isi (by rfl) B.isinstance_ (by decide +kernel) (pa_cons (pv 0) (pa_cons (pe_bltn (v := .ty "tuple") (by rfl) B.tuple_ (by decide +kernel) rfl) pa_nil))) (pe_and (pe_cmpR op_eq (pe_callB call_len_seq (by rfl) B.len_ (by decide +kernel) (pa_cons (pv 0) pa_nil)) (pv 1) (nomark _)) (pe_one (pe_cmpR (op_eqD hu) (pe_lc (own := [("one", 2)]) (by rfl) nd (pi_tup (pv 0)) (blkOk_by (own := [("one", 2)]) (N := ["thing", "many", "one"]) (sc := defScope slaw_wholes) (by decide +kernel)) (fun _ _ _ _ _ => (pg_name (i := 2) nd rfl (.inl rfl))) (fun _ _ _ _ _ => (pts_one (pt_not (pt_val (pe_own claw_whole (hr.mono (by decide)) (by rfl) (pa_cons (pv 2) pa_nil)))))) (fun _ _ _ _ _ => (pv 2))) (pe_lst pa_nil) (nomark _))))))), ?_⟩
    repeat walk_at "s"
    refine ⟨_, _, _, _, true, rfl, .ty "tuple", .base (.tup ht), kit_ty (by decide +kernel), ?_⟩
    repeat walk_at "s"
    refine ⟨_, _, rfl, .inr (.inl (.inl ht)), ?_⟩
    rw [List.length_map]
    repeat walk_at "s"
    refine ⟨rfl, _, rfl, ?_⟩
    rw [decide_eq_true rfl]
    refine iteT ?_
    repeat walk_at "s"
    refine ⟨⟨_, .inl (.inl ht)⟩, ?_⟩
    intro D nD
    refine lc_tup (K := K) (a := t) (xs := zs.map V.int) (fun j H' => Same H H' ∧ H' D = some (.lst (([] : List Int).map V.int))) ⟨same_new nD, upd_same⟩ (fun j Hj _ w' => .inl (.inl (w'.1 _ _ ht))) (fun j x Hj hj w' => ?_) (fun H4 w' => ?_)
    · obtain ⟨w1, w2⟩ := w'
      obtain ⟨n, hn, rfl⟩ := int_at hj
      refine ⟨rfl, ?_⟩
      repeat walk_at "s"
      first
        | exact w2
        | exact ⟨w1, w2⟩
        | trace_state
    · obtain ⟨s4, w2⟩ := w'
      repeat walk_at "s"
      intro p5 np5
      generalize hg5 : upd H4 p5 _ = H5
      have s5 : Same H4 H5 := hg5 ▸ same_new np5
      have e5 := (congrFun hg5 p5).symm.trans upd_same
      clear hg5
      refine ⟨di [], di [], dp_ints (ns := []) (SqL.new (s5 _ _ w2)), dp_ints (ns := []) (SqL.new e5), shaped_ints _, shaped_ints _, ?_⟩
      rw [eqv_ints, decide_eq_true rfl]
      exact q H5 (s4.trans s5)

theorem ok_askedd {f : Addr} {fd : FuncData} (B : Bt mg) (F : Fun K "_law_asked" "_law_asked" slaw_asked f fd) (claw_take : Cal P w K mg base 1 "_law_take" ["draws", "many"] spTake) : FnOk P w K mg base CX0 2 f fd ["draws", "one", "other"] spAskedD := by
  have nd := sclaw_asked.nd
  refine F.ok sclaw_asked (fun vs H Q E h => ?_) (fun cdv A outer s H vs Q E hr h => ?_)
  · obtain ⟨a, p, t, us, ws, rfl, _⟩ := h
    rfl
  · obtain ⟨a, p, t, us, ws, rfl, h0, RP, RQ, q⟩ := h
    have hu := hr.units
    have lu := RP.len
    have lw := RQ.len
    refine ⟨_, (pss_cons (ps_set (i := 3) nd rfl (.inl rfl) (pe_own claw_take (hr.mono (by decide)) (by rfl) (pa_cons (pv 0) (pa_cons pe_int pa_nil))))
      (pss_cons (ps_if (PW.pt (pw_and (pt_cmpR op_lt (pv 3) pe_int (nomark _)) (pw_and (pt_cmpR (op_neD hu) (pv 1) (pe_lst pa_nil) (nomark _)) (pw_and1 (pt_cmpR (op_neD hu) (pv 2) (pe_lst pa_nil) (nomark _)))))) (pss_cons (ps_set (i := 4) nd rfl (.inl rfl) (pe_lst pa_nil))
      (pss_cons (ps_for PassesOwn.never rfl (pi_range1 (by rfl) B.range_ (pa_cons pe_int pa_nil)) (pg_name (i := 5) nd rfl (.inl rfl)) (pss_cons (ps_set (i := 6) nd rfl (.inl rfl) (pe_ix ix_list (pv 1) (pe_op op_mod (pe_own claw_take (hr.mono (by decide)) (by rfl) (pa_cons (pv 0) (pa_cons pe_int pa_nil))) (pe_callB call_len_seq (by rfl) B.len_ (by decide +kernel) (pa_cons (pv 1) pa_nil))) (fun _ _ => rfl)))
      (pss_one (ps_expr (pe_bm PySem.F.plainAttrs_list PySem.F.slot_list_append PySem.F.type_list_append mt_append (pv 4) (pa_cons (pe_op op_add (pv 6) (pe_ix ix_list (pv 2) (pe_op op_mod (pe_own claw_take (hr.mono (by decide)) (by rfl) (pa_cons (pv 0) (pa_cons pe_int pa_nil))) (pe_callB call_len_seq (by rfl) B.len_ (by decide +kernel) (pa_cons (pv 2) pa_nil))) (fun _ _ => rfl))) pa_nil))))))
      (pss_one (ps_ret (pe_ix ix_list (pe_lst (pa_cons (pe_ix ix_list (pv 4) pe_int (fun _ _ => rfl)) (pa_cons (pe_op op_add (pe_ix ix_list (pv 4) pe_int (fun _ _ => rfl)) pe_int) (pa_cons (pe_op op_sub (pe_ix ix_list (pv 4) pe_int (fun _ _ => rfl)) pe_int) (pa_cons (pe_op op_fdivW (pe_callB (cr_sum rfl) (by rfl) B.sum_ (by decide +kernel) (pa_cons (pv 4) pa_nil)) pe_int) (pa_cons (pe_op op_add (pe_op op_fdivW (pe_callB (cr_sum rfl) (by rfl) B.sum_ (by decide +kernel) (pa_cons (pv 4) pa_nil)) pe_int) pe_int) (pa_cons (pe_op op_sub (pe_op op_fdivW (pe_callB (cr_sum rfl) (by rfl) B.sum_ (by decide +kernel) (pa_cons (pv 4) pa_nil)) pe_int) pe_int) pa_nil))))))) (pv 3) (fun _ _ => rfl)))))) pss_nil)
      (pss_cons (ps_set (i := 7) nd rfl (.inl rfl) (pe_op op_mulW (pe_callTy call_int_str (by rfl) B.int_ (by decide +kernel) (pa_cons (pe_op op_add_str pe_str (pe_op op_mul_str pe_str (pe_own claw_take (hr.mono (by decide)) (by rfl) (pa_cons (pv 0) (pa_cons pe_int pa_nil))))) pa_nil)) (pe_ix ix_list (pe_lst (pa_cons pe_int (pa_cons (pe_un un_neg pe_int) pa_nil))) (pe_own claw_take (hr.mono (by decide)) (by rfl) (pa_cons (pv 0) (pa_cons pe_int pa_nil))) (fun _ _ => rfl))))
      (pss_cons (ps_set (i := 7) nd rfl (.inl rfl) (pe_ix ix_list (pe_lst (pa_cons (pe_op op_pow pe_int pe_int) (pa_cons (pe_op op_sub pe_int (pe_op op_pow pe_int pe_int)) (pa_cons (pe_op op_mulW pe_int (pe_op op_pow pe_int pe_int)) (pa_cons (pe_op op_sub pe_int (pe_op op_mulW pe_int (pe_op op_pow pe_int pe_int))) (pa_cons (pe_op op_sub pe_int (pe_op op_mulW pe_int (pe_op op_pow pe_int pe_int))) (pa_cons (pv 7) (pa_cons (pv 7) pa_nil)))))))) (pe_own claw_take (hr.mono (by decide)) (by rfl) (pa_cons (pv 0) (pa_cons pe_int pa_nil))) (fun _ _ => rfl)))
      (pss_one (ps_ret (pe_ix ix_list (pe_lst (pa_cons (pv 7) (pa_cons (pe_op op_sub (pe_own claw_take (hr.mono (by decide)) (by rfl) (pa_cons (pv 0) (pa_cons pe_int pa_nil))) pe_int) pa_nil))) (pe_op op_mod (pv 3) pe_int) (fun _ _ => rfl)))))))), ?_⟩
    repeat walk_at "s"
    refine ⟨a, _, rfl, (by walk_at "hand"), (by walk_at "pos"), ?_⟩
    intro r1 H1 x1 ra1 rb1 rc1
    have h1 := x1.hand h0
    have RP1 := RP.upD x1
    have RQ1 := RQ.upD x1
    dsimp only [gName]
    refine if_split (fun H2 => Same H1 H2 ∧ r1 < 6 ∧ us ≠ [] ∧ ws ≠ []) (fun H2 => Same H1 H2) (fun KK kt kf => ?_) (fun H2 h2 => ?_) (fun H2 h2 => ?_)
    · repeat walk_at "s"
      by_cases c : r1 < 6
      · rw [decide_eq_true c]
        refine iteT ?_
        repeat walk_at "s"
        intro p2 np2
        generalize hg2 : upd H1 p2 _ = H2
        have s2 : Same H1 H2 := hg2 ▸ same_new np2
        have e2 := (congrFun hg2 p2).symm.trans upd_same
        clear hg2
        have n2 : p2 ≠ a := DrawAt.ne (by walk_at "hand") np2
        refine ⟨_, _, dp_ints ((RP1.upD (.same s2)).sq), dp_ints (ns := []) (SqL.new e2), shaped_ints _, shaped_ints _, ?_⟩
        rw [eqv_ints]
        refine ⟨_, rfl, ?_⟩
        by_cases zA : us = []
        · rw [decide_eq_true zA]
          exact kf H2 s2
        · rw [decide_eq_false zA]
          refine iteT ?_
          repeat walk_at "s"
          intro p3 np3
          generalize hg3 : upd H2 p3 _ = H3
          have s3 : Same H2 H3 := hg3 ▸ same_new np3
          have e3 := (congrFun hg3 p3).symm.trans upd_same
          clear hg3
          have n3 : p3 ≠ a := DrawAt.ne (by walk_at "hand") np3
          refine ⟨_, _, dp_ints ((RQ1.upD (.same (s2.trans s3))).sq), dp_ints (ns := []) (SqL.new e3), shaped_ints _, shaped_ints _, ?_⟩
          rw [eqv_ints]
          refine ⟨_, rfl, ?_⟩
          by_cases zB : ws = []
          · rw [decide_eq_true zB]
            exact kf H3 (s2.trans s3)
          · rw [decide_eq_false zB]
            exact kt H3 ⟨s2.trans s3, c, zA, zB⟩
      · rw [decide_eq_false c]
        exact kf H1 (.refl _)
    · obtain ⟨s2, c, zA, zB⟩ := h2
      have p0 := List.length_pos_iff.mpr zA
      have q0 := List.length_pos_iff.mpr zB
      have RP2 := RP1.upD (.same s2)
      have RQ2 := RQ1.upD (.same s2)
      have h2 := h1.same s2
      repeat walk_at "s"
      intro p3 np3
      generalize hg3 : upd H2 p3 _ = H3
      have s3 : Same H2 H3 := hg3 ▸ same_new np3
      have e3 := (congrFun hg3 p3).symm.trans upd_same
      clear hg3
      have n3 : p3 ≠ a := DrawAt.ne (by walk_at "hand") np3
      repeat walk_at "s"
      refine for_range (lo := 0) (n := 2) (fun i σ H' => ExtD a H2 H' ∧ ∃ (zs : List Int) (v5 v6 v7 : Option V), zs.length = i ∧ H' p3 = some (.lst (zs.map V.int)) ∧ σ = [some (.ref a), some (.ref p), some (.ref t), some (.int r1), some (.ref p3), v5, v6, v7]) ⟨.same s3, [], none, none, none, rfl, e3, rfl⟩ (fun i σ Hi hi w => ?_) (fun σ Hi w => ?_)
      · obtain ⟨xi, zs, v5, v6, v7, lz, ez, rfl⟩ := w
        have hi' := xi.hand h2
        have RPi := RP2.upD xi
        have RQi := RQ2.upD xi
        repeat walk_at "s"
        refine ⟨a, _, rfl, (by walk_at "hand"), (by walk_at "pos"), ?_⟩
        intro r4 H4 x4 ra4 rb4 rc4
        repeat walk_at "s"
        refine ⟨_, _, rfl, .inl (RPi.upD x4).sq, ?_⟩
        rw [List.length_map]
        repeat walk_at "s"
        have m0 := Int.emod_nonneg r4 (show (us.length : Int) ≠ 0 by omega)
        have m1 := Int.emod_lt_of_pos r4 (show (0 : Int) < (us.length : Int) by omega)
        obtain ⟨n, hn⟩ : ∃ n : Nat, r4 % (us.length : Int) = (n : Int) := ⟨(r4 % (us.length : Int)).toNat, by omega⟩
        obtain ⟨x, hx⟩ : ∃ x, us[n]? = some x := ⟨_, List.getElem?_eq_getElem (by omega)⟩
        refine ⟨_, _, _, .int x, rfl, rfl, (RPi.upD x4).sq, by show atI _ (r4 % (us.length : Int)) = _; rw [hn]; exact atI_nat (by rw [List.getElem?_map, hx]; rfl), ?_⟩
        have h4 := x4.hand hi'
        repeat walk_at "s"
        have ez4 := x4.keep _ _ ez n3
        refine ⟨.inl ⟨rfl, _, SqL.new ez4⟩, ?_⟩
        repeat walk_at "s"
        refine ⟨a, _, rfl, (by walk_at "hand"), (by walk_at "pos"), ?_⟩
        intro r5 H5 x5 ra5 rb5 rc5
        repeat walk_at "s"
        refine ⟨_, _, rfl, .inl ((RQi.upD x4).upD x5).sq, ?_⟩
        rw [List.length_map]
        repeat walk_at "s"
        have m2 := Int.emod_nonneg r5 (show (ws.length : Int) ≠ 0 by omega)
        have m3 := Int.emod_lt_of_pos r5 (show (0 : Int) < (ws.length : Int) by omega)
        obtain ⟨m, hm⟩ : ∃ n : Nat, r5 % (ws.length : Int) = (n : Int) := ⟨(r5 % (ws.length : Int)).toNat, by omega⟩
        obtain ⟨y, hy⟩ : ∃ x, ws[m]? = some x := ⟨_, List.getElem?_eq_getElem (by omega)⟩
        refine ⟨_, _, _, .int y, rfl, rfl, ((RQi.upD x4).upD x5).sq, by show atI _ (r5 % (ws.length : Int)) = _; rw [hm]; exact atI_nat (by rw [List.getElem?_map, hy]; rfl), ?_⟩
        refine ⟨_, _, rfl, rfl, ?_⟩
        refine ⟨p3, _, _, rfl, rfl, x5.keep _ _ ez4 n3, smallLt (by rw [List.length_map]; omega), ?_⟩
        refine ⟨ext_appD (ExtD.same (.refl _) |>.free n3 np3) n3 ((xi.trans x4).trans x5), zs ++ [x + y], _, _, _, by rw [List.length_append, lz]; rfl, by rw [upd_same, List.map_append]; rfl, rfl⟩
      · obtain ⟨xi, zs, v5, v6, v7, lz, ez, rfl⟩ := w
        have lz2 : zs.length = 2 := lz
        match zs, lz2, ez with
        | [z0, z1], _, ez =>
        have hi' := xi.hand h2
        repeat walk_at "s"
        refine ⟨p3, [z0, z1], rfl, SqL.new ez, ?_⟩
        repeat walk_at "s"
        refine ⟨p3, [z0, z1], rfl, SqL.new ez, ?_⟩
        repeat walk_at "s"
        refine ⟨p3, [z0, z1], rfl, SqL.new ez, ?_⟩
        repeat walk_at "s"
        intro p4 np4
        generalize hg4 : upd Hi p4 _ = H4
        have s4 : Same Hi H4 := hg4 ▸ same_new np4
        have e4 := (congrFun hg4 p4).symm.trans upd_same
        clear hg4
        have n4 : p4 ≠ a := DrawAt.ne (by walk_at "hand") np4
        obtain ⟨y, hy⟩ : ∃ y : Int, atI [V.int z0, V.int (z0 + 1), V.int (z0 - 1), V.int ([z0, z1].sum / 2), V.int ([z0, z1].sum / 2 + 1), V.int ([z0, z1].sum / 2 - 1)] r1 = some (.int y) := by
          obtain ⟨x, h1, h2⟩ := at_draw (xs := [V.int z0, V.int (z0 + 1), V.int (z0 - 1), V.int ([z0, z1].sum / 2), V.int ([z0, z1].sum / 2 + 1), V.int ([z0, z1].sum / 2 - 1)]) ra1 c
          simp only [List.mem_cons, List.not_mem_nil, or_false] at h2
          rcases h2 with rfl | rfl | rfl | rfl | rfl | rfl
          all_goals exact ⟨_, h1⟩
        refine ⟨_, rfl, ?_⟩
        refine ⟨_, _, _, _, rfl, rfl, SqL.new e4, hy, ?_⟩
        exact q y H4 (((x1.trans (.same s2)).trans xi).trans (.same s4))
    · have h2' := h1.same h2
      repeat walk_at "s"
      refine ⟨a, _, rfl, (by walk_at "hand"), (by walk_at "pos"), ?_⟩
      intro r3 H3 x3 ra3 rb3 rc3
      repeat walk_at "s"
      have rb3' : r3 < 41 := by omega
      obtain ⟨k1, k2, k3⟩ := noughts ra3 rb3'
      have tp := ten_pow ra3 rb3'
      refine ⟨noughts_mul ra3 rb3', ?_⟩
      refine ⟨_, _, rfl, rfl, k3, ?_⟩
      refine ⟨_, _, rfl, k1, k2, ?_⟩
      have h3 := x3.hand h2'
      repeat walk_at "s"
      intro p4 np4
      generalize hg4 : upd H3 p4 _ = H4
      have s4 : Same H3 H4 := hg4 ▸ same_new np4
      have e4 := (congrFun hg4 p4).symm.trans upd_same
      clear hg4
      have n4 : p4 ≠ a := DrawAt.ne (by walk_at "hand") np4
      repeat walk_at "s"
      refine ⟨a, _, rfl, (by walk_at "hand"), (by walk_at "pos"), ?_⟩
      intro r5 H5 x5 ra5 rb5 rc5
      obtain ⟨c, hc, c0, c1⟩ : ∃ y : Int, atI [V.int 1, V.int (-1)] r5 = some (.int y) ∧ -1 ≤ y ∧ y ≤ 1 := by
        obtain ⟨x, h1, h2⟩ := at_draw (xs := [V.int 1, V.int (-1)]) ra5 rb5
        simp only [List.mem_cons, List.not_mem_nil, or_false] at h2
        rcases h2 with rfl | rfl
        all_goals exact ⟨_, h1, by decide, by decide⟩
      refine ⟨_, _, _, _, rfl, rfl, SqL.new (x5.keep _ _ e4 n4), hc, ?_⟩
      refine ⟨_, _, rfl, rfl, mulW tp.1 tp.2 (by omega) (by omega), ?_⟩
      have h5 := (x5.hand (h3.same s4))
      repeat walk_at "s"
      intro p6 np6
      generalize hg6 : upd H5 p6 _ = H6
      have s6 : Same H5 H6 := hg6 ▸ same_new np6
      have e6 := (congrFun hg6 p6).symm.trans upd_same
      clear hg6
      have n6 : p6 ≠ a := DrawAt.ne (by walk_at "hand") np6
      repeat walk_at "s"
      refine ⟨a, _, rfl, (by walk_at "hand"), (by walk_at "pos"), ?_⟩
      intro r7 H7 x7 ra7 rb7 rc7
      obtain ⟨y, hy⟩ : ∃ y : Int, atI [V.int (10 ^ Int.toNat 40), V.int (0 - 10 ^ Int.toNat 40), V.int (2 * 10 ^ Int.toNat 15), V.int (0 - 2 * 10 ^ Int.toNat 15), V.int (1 - 2 * 10 ^ Int.toNat 15), V.int (10 ^ r3.toNat * c), V.int (10 ^ r3.toNat * c)] r7 = some (.int y) := by
        obtain ⟨x, h1, h2⟩ := at_draw (xs := [V.int (10 ^ Int.toNat 40), V.int (0 - 10 ^ Int.toNat 40), V.int (2 * 10 ^ Int.toNat 15), V.int (0 - 2 * 10 ^ Int.toNat 15), V.int (1 - 2 * 10 ^ Int.toNat 15), V.int (10 ^ r3.toNat * c), V.int (10 ^ r3.toNat * c)]) ra7 rb7
        simp only [List.mem_cons, List.not_mem_nil, or_false] at h2
        rcases h2 with rfl | rfl | rfl | rfl | rfl | rfl | rfl
        all_goals exact ⟨_, h1⟩
      refine ⟨_, _, _, _, rfl, rfl, SqL.new (x7.keep _ _ e6 n6), hy, ?_⟩
      have h7 := x7.hand (h5.same s6)
      repeat walk_at "s"
      refine ⟨a, _, rfl, (by walk_at "hand"), (by walk_at "pos"), ?_⟩
      intro r8 H8 x8 ra8 rb8 rc8
      repeat walk_at "s"
      intro p9 np9
      generalize hg9 : upd H8 p9 _ = H9
      have s9 : Same H8 H9 := hg9 ▸ same_new np9
      have e9 := (congrFun hg9 p9).symm.trans upd_same
      clear hg9
      have n9 : p9 ≠ a := DrawAt.ne (by walk_at "hand") np9
      obtain ⟨z, hz⟩ : ∃ z : Int, atI [V.int y, V.int (r8 - 500)] (r1 % 2) = some (.int z) := by
        obtain ⟨x, h1, h2⟩ := at_draw (xs := [V.int y, V.int (r8 - 500)]) (Int.emod_nonneg r1 (show (2 : Int) ≠ 0 by decide)) (show r1 % 2 < (2 : Int) from Int.emod_lt_of_pos r1 (by decide))
        simp only [List.mem_cons, List.not_mem_nil, or_false] at h2
        rcases h2 with rfl | rfl
        all_goals exact ⟨_, h1⟩
      repeat walk_at "s"
      refine ⟨_, _, _, _, rfl, rfl, SqL.new e9, hz, ?_⟩
      exact q z H9 ((((((((x1.trans (.same h2)).trans x3).trans (.same s4)).trans x5).trans (.same s6)).trans x7).trans x8).trans (.same s9))

theorem ok_belowl {f : Addr} {fd : FuncData} (B : Bt mg) (F : Fun K "_law_below" "_law_below" slaw_below f fd) : FnOk P w K mg base CX0 1 f fd ["one", "other", "number"] (spBelowL K) := by
  have nd := sclaw_below.nd
  refine F.ok sclaw_below (fun vs H Q E h => ?_) (fun cdv A outer s H vs Q E hr h => ?_)
  · obtain ⟨p, t, ns, ms, n, rfl, _⟩ := h
    rfl
  · obtain ⟨p, t, ns, ms, n, rfl, hS, hT, hsort, hsm, l1, q⟩ := h
    refine ⟨_, (pss_cons (ps_set (i := 3) nd rfl (.inl rfl) (pe_lst pa_nil))
      (pss_cons (ps_set (i := 4) nd rfl (.inl rfl) (pe_callB call_len_seq (by rfl) B.len_ (by decide +kernel) (pa_cons (pv 1) pa_nil)))
      (pss_cons (ps_for PassesOwn.never rfl (pi_list (pv 0)) (pg_name (i := 5) nd rfl (.inl rfl)) (pss_cons (ps_while PassesOwn.never (PW.pt (pw_and (pt_cmpR op_gt (pv 4) pe_int (nomark _)) (pw_and1 (pt_cmpR op_ge (pe_op op_add (pv 5) (pe_ix ix_list (pv 1) (pe_op op_sub (pv 4) pe_int) (fun _ _ => rfl))) (pv 2) (nomark _))))) (pss_one (ps_set (i := 4) nd rfl (.inl rfl) (pe_op op_sub (pv 4) pe_int))))
      (pss_one (ps_expr (pe_bm PySem.F.plainAttrs_list PySem.F.slot_list_append PySem.F.type_list_append mt_append (pv 3) (pa_cons (pv 4) pa_nil))))))
      (pss_one (ps_ret (pv 3)))))), ?_⟩
    repeat walk_at "s"
    intro p1 np1
    generalize hg1 : upd H p1 _ = H1
    have s1 : Same H H1 := hg1 ▸ same_new np1
    have e1 := (congrFun hg1 p1).symm.trans upd_same
    clear hg1
    repeat walk_at "s"
    refine ⟨_, _, rfl, .inl (s1.seq hT), ?_⟩
    rw [List.length_map]
    refine ⟨_, rfl, _, rfl, ⟨_, s1.seq hS⟩, ?_⟩
    refine for_list (K := K) (a := p) (xs := ns.map V.int) (fun i σ H' => Same H H' ∧ H' p1 = some (.lst (((belowL ns ms n).take i).map V.int)) ∧ ∃ (en : Nat) (v5 : Option V), σ = [some (.ref p), some (.ref t), some (.int n), some (.ref p1), some (.int (en : Int)), v5] ∧ en ≤ ms.length ∧ ∀ (j : Nat) (x : Int), i ≤ j → ns[j]? = some x → cntB ms (n - x) ≤ en)
      ⟨s1, e1, ms.length, none, rfl, Nat.le_refl _, fun j x _ _ => cntB_le _ _⟩ (fun i σ Hi _ w => w.1.seq hS) (fun i v σ Hi hv w => ?_) (fun σ Hi w => ?_)
    · obtain ⟨si, eL, en, v5, rfl, hen, hall⟩ := w
      obtain ⟨x, hx, rfl⟩ := int_at hv
      have li := (List.getElem?_eq_some_iff.mp hx).1
      have after : ∀ (j : Nat) (y : Int), i + 1 ≤ j → ns[j]? = some y → cntB ms (n - y) ≤ cntB ms (n - x) := fun j y hj hy => cntB_mono (by have := sorted_le hsort hx hy (by omega); omega)
      have app : ∀ e' : Nat, e' = cntB ms (n - x) → Same H (upd Hi p1 (.lst (((belowL ns ms n).take i).map V.int ++ [V.int (e' : Int)]))) ∧ (upd Hi p1 (.lst (((belowL ns ms n).take i).map V.int ++ [V.int (e' : Int)]))) p1 = some (.lst (((belowL ns ms n).take (i + 1)).map V.int)) := fun e' he =>
        ⟨same_app np1 si, by rw [upd_same, take_snoc (belowL_at hx), List.map_append, he]; rfl⟩
      have lb : ((belowL ns ms n).take i).length ≤ 1000 := by rw [List.length_take, belowL_len]; omega
      refine ⟨fun m σ H1 => ∃ e : Nat, σ = [some (.ref p), some (.ref t), some (.int n), some (.ref p1), some (.int (e : Int)), some (.int x)] ∧ H1 = Hi ∧ m = e ∧ cntB ms (n - x) ≤ e ∧ e ≤ ms.length,
        ⟨_, en, rfl, rfl, rfl, hall i x (Nat.le_refl _) hx, hen⟩, fun m σ H1 w => ?_⟩
      obtain ⟨e, rfl, rfl, rfl, h1, h2⟩ := w
      repeat walk_at "s"
      refine ite2 (fun z => ?_) (fun z => ?_)
      · have z1 : (0 : Int) < (m : Int) := of_decide_eq_true z
        obtain ⟨y, hy⟩ : ∃ y, ms[m - 1]? = some y := ⟨_, List.getElem?_eq_getElem (by omega)⟩
        have key := cntB_lt (n := n - x) hsm hy
        repeat walk_at "s"
        refine ⟨_, _, _, .int y, rfl, rfl, si.seq hT, ?_, ?_⟩
        · show atI _ ((m : Int) - 1) = _
          rw [show (m : Int) - 1 = ((m - 1 : Nat) : Int) from by omega]
          exact atI_nat (by rw [List.getElem?_map, hy]; rfl)
        repeat walk_at "s"
        refine ite2 (fun u => ?_) (fun u => ?_)
        · have u1 : n ≤ x + y := of_decide_eq_true u
          refine ⟨_, fun σ' H' k => k, ?_⟩
          repeat walk_at "s"
          refine ⟨m - 1, by omega, m - 1, ?_, rfl, rfl, ?_, by omega⟩
          · show [some (V.ref p), some (V.ref t), some (V.int n), some (V.ref p1), some (V.int ((m : Int) - 1)), some (V.int x)] = _
            rw [show (m : Int) - 1 = ((m - 1 : Nat) : Int) from by omega]
          · have : ¬ y < n - x := by omega
            have := fun z => this (key.mpr z)
            omega
        · have u1 : ¬ n ≤ x + y := fun k => u (decide_eq_true k)
          have e1 : m = cntB ms (n - x) := by
            have := key.mp (by omega)
            omega
          obtain ⟨sa, ea⟩ := app m e1
          repeat walk_at "s"
          refine ⟨.inl ⟨rfl, _, SqL.new eL⟩, ?_⟩
          repeat walk_at "s"
          refine ⟨p1, _, _, rfl, rfl, eL, smallLt (by rw [List.length_map]; omega), ?_⟩
          exact ⟨sa, ea, m, some (.int x), rfl, h2, fun j y hj hy => by rw [e1]; exact after j y hj hy⟩
      · have z1 : ¬ (0 : Int) < (m : Int) := fun k => z (decide_eq_true k)
        have e1 : m = cntB ms (n - x) := by omega
        obtain ⟨sa, ea⟩ := app m e1
        repeat walk_at "s"
        refine ⟨.inl ⟨rfl, _, SqL.new eL⟩, ?_⟩
        repeat walk_at "s"
        refine ⟨p1, _, _, rfl, rfl, eL, smallLt (by rw [List.length_map]; omega), ?_⟩
        exact ⟨sa, ea, m, some (.int x), rfl, h2, fun j y hj hy => by rw [e1]; exact after j y hj hy⟩
    · obtain ⟨si, eL, en, v5, rfl, hen, hall⟩ := w
      rw [List.length_map, ← belowL_len ns ms n, take_all] at eL
      repeat walk_at "s"
      exact q p1 Hi si np1 eL

theorem ok_manybelow {f : Addr} {fd : FuncData} (B : Bt mg) (F : Fun K "_law_many_below" "_law_many_below" slaw_many_below f fd) (claw_below : Cal P w K mg base 1 "_law_below" ["one", "other", "number"] (spBelowL K)) : FnOk P w K mg base CX0 2 f fd ["one", "other", "number"] (spSums2 K) := by
  have nd := sclaw_many_below.nd
  refine F.ok sclaw_many_below (fun vs H Q E h => ?_) (fun cdv A outer s H vs Q E hr h => ?_)
  · obtain ⟨p, t, ns, ms, n, rfl, _⟩ := h
    rfl
  · obtain ⟨p, t, ns, ms, n, rfl, hS, hT, sn, sm, l1, q⟩ := h
    refine ⟨_, (pss_one (ps_ret (pe_callB (cr_sum rfl) (by rfl) B.sum_ (by decide +kernel) (pa_cons (pe_own claw_below (hr.mono (by decide)) (by rfl) (pa_cons (pv 0) (pa_cons (pv 1) (pa_cons (pv 2) pa_nil)))) pa_nil)))), ?_⟩
    repeat walk_at "s"
    refine ⟨p, t, ns, ms, n, rfl, hS, hT, sn, sm, l1, fun r H1 s1 nr er => ?_⟩
    refine ⟨r, _, rfl, SqL.new er, ?_⟩
    rw [belowL_sum]
    exact q H1 s1

theorem ok_lpair {f : Addr} {fd : FuncData} (F : Fun K "_law_pair_at" "_law_pair_at" slaw_pair_at f fd) (claw_below : Cal P w K mg base 1 "_law_below" ["one", "other", "number"] (spBelowL K)) (claw_many_below : Cal P w K mg base 2 "_law_many_below" ["one", "other", "number"] (spSums2 K)) : FnOk P w K mg base CX0 3 f fd ["one", "other", "place"] (spLPair K) := by
  have nd := sclaw_pair_at.nd
  refine F.ok sclaw_pair_at (fun vs H Q E h => ?_) (fun cdv A outer s H vs Q E hr h => ?_)
  · obtain ⟨p, t, ns, ms, n, L, w, rfl, _⟩ := h
    rfl
  · obtain ⟨p, t, ns, ms, n, L, wv, rfl, hS, hT, sn, sm, l1, l2, o, hw, q⟩ := h
    have hn : n < ns.length * ms.length := by rw [← o.len]; exact (List.getElem?_eq_some_iff.mp hw).1
    have bw := ord_between o hw
    have pn : 0 < ns.length := Nat.pos_of_ne_zero fun z => by rw [z, Nat.zero_mul] at hn; omega
    have pm : 0 < ms.length := Nat.pos_of_ne_zero fun z => by rw [z, Nat.mul_zero] at hn; omega
    obtain ⟨x0, hx0⟩ : ∃ x, ns[0]? = some x := ⟨_, List.getElem?_eq_getElem pn⟩
    obtain ⟨y0, hy0⟩ : ∃ x, ms[0]? = some x := ⟨_, List.getElem?_eq_getElem pm⟩
    obtain ⟨x1, mx1, hx1, ax1⟩ := last_one ns pn
    obtain ⟨y1, my1, hy1, ay1⟩ := last_one ms pm
    have lo0 : ∀ x ∈ ns, x0 ≤ x ∧ x ≤ x1 := fun x hx => by
      obtain ⟨i, hi⟩ := List.mem_iff_getElem?.mp hx
      have := (List.getElem?_eq_some_iff.mp hi).1
      exact ⟨sorted_le sn hx0 hi (by omega), sorted_le sn hi hx1 (by omega)⟩
    have lo1 : ∀ x ∈ ms, y0 ≤ x ∧ x ≤ y1 := fun x hx => by
      obtain ⟨i, hi⟩ := List.mem_iff_getElem?.mp hx
      have := (List.getElem?_eq_some_iff.mp hi).1
      exact ⟨sorted_le sm hy0 hi (by omega), sorted_le sm hi hy1 (by omega)⟩
    refine ⟨_, (pss_cons (ps_set (i := 3) nd rfl (.inl rfl) (pe_op op_add (pe_ix ix_list (pv 0) pe_int (fun _ _ => rfl)) (pe_ix ix_list (pv 1) pe_int (fun _ _ => rfl))))
      (pss_cons (ps_set (i := 4) nd rfl (.inl rfl) (pe_op op_add (pe_ix ix_list (pv 0) (pe_un un_neg pe_int) (fun _ _ => rfl)) (pe_ix ix_list (pv 1) (pe_un un_neg pe_int) (fun _ _ => rfl))))
      (pss_cons (ps_while PassesOwn.never (pt_cmpR op_lt (pv 3) (pv 4) (nomark _)) (pss_cons (ps_set (i := 5) nd rfl (.inl rfl) (pe_op op_fdivW (pe_op op_add (pv 3) (pv 4)) pe_int))
      (pss_one (ps_if (pt_cmpR op_gt (pe_own claw_many_below (hr.mono (by decide)) (by rfl) (pa_cons (pv 0) (pa_cons (pv 1) (pa_cons (pe_op op_add (pv 5) pe_int) pa_nil)))) (pv 2) (nomark _)) (pss_one (ps_set (i := 4) nd rfl (.inl rfl) (pv 5))) (pss_one (ps_set (i := 3) nd rfl (.inl rfl) (pe_op op_add (pv 5) pe_int)))))))
      (pss_cons (ps_set (i := 6) nd rfl (.inl rfl) (pe_op op_sub (pv 2) (pe_own claw_many_below (hr.mono (by decide)) (by rfl) (pa_cons (pv 0) (pa_cons (pv 1) (pa_cons (pv 3) pa_nil))))))
      (pss_cons (ps_set (i := 7) nd rfl (.inl rfl) (pe_own claw_below (hr.mono (by decide)) (by rfl) (pa_cons (pv 0) (pa_cons (pv 1) (pa_cons (pv 3) pa_nil)))))
      (pss_cons (ps_set (i := 8) nd rfl (.inl rfl) (pe_own claw_below (hr.mono (by decide)) (by rfl) (pa_cons (pv 0) (pa_cons (pv 1) (pa_cons (pe_op op_add (pv 3) pe_int) pa_nil)))))
      (pss_cons (ps_set (i := 9) nd rfl (.inl rfl) pe_int)
      (pss_cons (ps_while PassesOwn.never (pt_cmpR op_ge (pv 6) (pe_op op_sub (pe_ix ix_list (pv 8) (pv 9) (fun _ _ => rfl)) (pe_ix ix_list (pv 7) (pv 9) (fun _ _ => rfl))) (nomark _)) (pss_cons (ps_set (i := 6) nd rfl (.inl rfl) (pe_op op_add (pe_op op_sub (pv 6) (pe_ix ix_list (pv 8) (pv 9) (fun _ _ => rfl))) (pe_ix ix_list (pv 7) (pv 9) (fun _ _ => rfl))))
      (pss_one (ps_set (i := 9) nd rfl (.inl rfl) (pe_op op_add (pv 9) pe_int)))))
      (pss_one (ps_ret (pe_tup (pa_cons (pv 3) (pa_cons (pv 9) (pa_cons (pe_op op_add (pe_ix ix_list (pv 7) (pv 9) (fun _ _ => rfl)) (pv 6)) pa_nil)))))))))))))), ?_⟩
    repeat walk_at "s"
    refine ⟨_, _, _, .int x0, rfl, rfl, hS, atI_nat (j := 0) (by rw [List.getElem?_map, hx0]; rfl), ?_⟩
    repeat walk_at "s"
    refine ⟨_, _, _, .int y0, rfl, rfl, hT, atI_nat (j := 0) (by rw [List.getElem?_map, hy0]; rfl), ?_⟩
    repeat walk_at "s"
    refine ⟨_, _, _, .int x1, rfl, rfl, hS, ax1, ?_⟩
    repeat walk_at "s"
    refine ⟨_, _, _, .int y1, rfl, rfl, hT, ay1, ?_⟩
    repeat walk_at "s"
    refine ⟨fun m σ H1 => ∃ (lo hi : Int) (v : Option V), σ = [some (.ref p), some (.ref t), some (.int (n : Int)), some (.int lo), some (.int hi), v, none, none, none, none] ∧ Same H H1 ∧ m = (hi - lo).toNat ∧ lo ≤ hi ∧ cntS ns ms lo ≤ n ∧ n < cntS ns ms (hi + 1),
      ⟨_, x0 + y0, x1 + y1, none, rfl, Same.refl _, rfl, ?_, ?_, ?_⟩, fun m σ H1 w => ?_⟩
    · have := lo0 x1 mx1
      have := lo1 y1 my1
      omega
    · rw [cntS_none fun x hx y hy => by have := lo0 x hx; have := lo1 y hy; omega]
      exact Nat.zero_le _
    · rw [cntS_all fun x hx y hy => by have := lo0 x hx; have := lo1 y hy; omega]
      exact hn
    obtain ⟨lo, hi, v, rfl, sk, rfl, a2, a4, a5⟩ := w
    repeat walk_at "s"
    refine ite2 (fun z => ?_) (fun z => ?_)
    · have z1 : lo < hi := of_decide_eq_true z
      refine ⟨_, fun σ' H' y => y, ?_⟩
      repeat walk_at "s"
      refine ⟨p, t, ns, ms, (lo + hi) / 2 + 1, rfl, sk.seq hS, sk.seq hT, sn, sm, by omega, fun H2 s2 => ?_⟩
      repeat walk_at "s"
      refine ite2 (fun y => ?_) (fun y => ?_)
      · have y1 : (n : Int) < ((cntS ns ms ((lo + hi) / 2 + 1) : Nat) : Int) := of_decide_eq_true y
        repeat walk_at "s"
        exact ⟨_, by omega, lo, (lo + hi) / 2, _, rfl, sk.trans s2, rfl, by omega, a4, by omega⟩
      · have y1 : ¬ (n : Int) < ((cntS ns ms ((lo + hi) / 2 + 1) : Nat) : Int) := fun w => y (decide_eq_true w)
        repeat walk_at "s"
        exact ⟨_, by omega, (lo + hi) / 2 + 1, hi, _, rfl, sk.trans s2, rfl, by omega, by omega, a5⟩
    · have z1 : ¬ lo < hi := fun y => z (decide_eq_true y)
      have e : lo = hi := by omega
      subst e
      have er : lo = wv.1 := between_one (f := fun k => cntS ns ms k) (fun a b h => cntS_mono h) ⟨a4, a5⟩ bw
      have nx := cntS_next ms lo ns
      repeat walk_at "s"
      refine ⟨p, t, ns, ms, lo, rfl, sk.seq hS, sk.seq hT, sn, sm, by omega, fun H2 s2 => ?_⟩
      have S2 := sk.trans s2
      repeat walk_at "s"
      refine ⟨p, t, ns, ms, lo, rfl, S2.seq hS, S2.seq hT, sn, sm, by omega, fun d H3 s3 nd3 ed => ?_⟩
      have S3 := S2.trans s3
      repeat walk_at "s"
      refine ⟨p, t, ns, ms, lo + 1, rfl, S3.seq hS, S3.seq hT, sn, sm, by omega, fun u H4 s4 nu eu => ?_⟩
      have S4 := S3.trans s4
      have ed4 := s4 _ _ ed
      repeat walk_at "s"
      have reads : ∀ (i : Nat) (x : Int), ns[i]? = some x → atI ((belowL ns ms lo).map V.int) (i : Int) = some (.int ((cntB ms (lo - x) : Nat) : Int)) ∧ atI ((belowL ns ms (lo + 1)).map V.int) (i : Int) = some (.int ((cntB ms (lo + 1 - x) : Nat) : Int)) := fun i x hx =>
        ⟨atI_nat (by rw [List.getElem?_map, belowL_at hx]; rfl), atI_nat (by rw [List.getElem?_map, belowL_at hx]; rfl)⟩
      have total : n < cntS ns ms lo + csum ns ms lo ns.length := by
        unfold csum
        rw [take_all]
        omega
      refine ⟨fun m σ H' => ∃ (i r : Nat), σ = [some (.ref p), some (.ref t), some (.int (n : Int)), some (.int lo), some (.int lo), v, some (.int (r : Int)), some (.ref d), some (.ref u), some (.int (i : Int))] ∧ H' = H4 ∧ m = ns.length - i ∧ i < ns.length ∧ n = cntS ns ms lo + (csum ns ms lo i + r),
        ⟨_, 0, n - cntS ns ms lo, ?_, rfl, rfl, pn, ?_⟩, fun m σ H' w => ?_⟩
      · rw [show ((n - cntS ns ms lo : Nat) : Int) = (n : Int) - ((cntS ns ms lo : Nat) : Int) from by omega]
        rfl
      · show n = cntS ns ms lo + (csum ns ms lo 0 + _)
        unfold csum
        simp
        omega
      obtain ⟨i, r, rfl, rfl, rfl, hi, e⟩ := w
      obtain ⟨x, hx⟩ : ∃ x, ns[i]? = some x := ⟨_, List.getElem?_eq_getElem hi⟩
      obtain ⟨rb, rt⟩ := reads i x hx
      have cn := cntB_next ms (lo - x)
      have e1 : lo + 1 - x = lo - x + 1 := by omega
      repeat walk_at "s"
      refine ⟨_, _, _, _, rfl, rfl, SqL.new eu, rt, ?_⟩
      repeat walk_at "s"
      refine ⟨_, _, _, _, rfl, rfl, SqL.new ed4, rb, ?_⟩
      repeat walk_at "s"
      refine ite2 (fun y => ?_) (fun y => ?_)
      · have y1 : ((cntB ms (lo + 1 - x) : Nat) : Int) - ((cntB ms (lo - x) : Nat) : Int) ≤ (r : Int) := of_decide_eq_true y
        rw [e1] at y1
        refine ⟨_, fun σ' H' y => y, ?_⟩
        repeat walk_at "s"
        refine ⟨_, _, _, _, rfl, rfl, SqL.new eu, rt, ?_⟩
        repeat walk_at "s"
        refine ⟨_, _, _, _, rfl, rfl, SqL.new ed4, rb, ?_⟩
        repeat walk_at "s"
        have cx := csum_next (ms := ms) (r := lo) hx
        have e2 : n = cntS ns ms lo + (csum ns ms lo (i + 1) + (r - ms.count (lo - x))) := by omega
        have hi2 : i + 1 < ns.length := by
          by_cases c : i + 1 < ns.length
          · exact c
          · have : i + 1 = ns.length := by omega
            rw [this] at e2
            omega
        refine ⟨ns.length - (i + 1), by omega, i + 1, r - ms.count (lo - x), ?_, rfl, rfl, hi2, e2⟩
        have ev : (r : Int) - ((cntB ms (lo + 1 - x) : Nat) : Int) + ((cntB ms (lo - x) : Nat) : Int) = ((r - ms.count (lo - x) : Nat) : Int) := by
          rw [e1]
          omega
        rw [← ev, Int.natCast_add]
        rfl
      · have y1 : ¬ ((cntB ms (lo + 1 - x) : Nat) : Int) - ((cntB ms (lo - x) : Nat) : Int) ≤ (r : Int) := fun w => y (decide_eq_true w)
        rw [e1] at y1
        repeat walk_at "s"
        refine ⟨_, _, _, _, rfl, rfl, SqL.new ed4, rb, ?_⟩
        repeat walk_at "s"
        intro k nk
        have fd := sum_found o sm (n := n) (r := lo) (i := i) (k := r) hx (by omega) (by rw [e]; rfl)
        rw [hw] at fd
        have ew := Option.some.inj fd
        refine q k _ (S4.trans (same_new nk)) (S4.free nk) ?_
        rw [upd_same, ew, Int.natCast_add]
        rfl

theorem ok_door {CL f : Addr} {fd : FuncData} {T : List (Addr × Str)} (B : Bt mg) (F : Fun K "_law_door" "_law_door" slaw_door f fd) (cLive_rows : Ob.CalM P w K mg base 1 CL "rows" ["self"] (spLRows CL)) (cLive_below : Ob.CalM P w K mg base 2 CL "below" ["self", "number"] (spLBelow CL)) (cLive_at : Ob.CalM P w K mg base 6 CL "at" ["self", "place"] (spLAt CL T)) (claw_take : Cal P w K mg base 1 "_law_take" ["draws", "many"] spTake)
    (claw_asked : Cal P w K mg base 2 "_law_asked" ["draws", "one", "other"] spAskedD) (claw_whole : Cal P w K mg base 1 "_law_whole" ["thing"] spWhole1) (claw_wholes : Cal P w K mg base 2 "_law_wholes" ["thing", "many"] (spWholes2 K)) (claw_many_below : Cal P w K mg base 2 "_law_many_below" ["one", "other", "number"] (spSums2 K)) (claw_pair_at : Cal P w K mg base 3 "_law_pair_at" ["one", "other", "place"] (spLPair K)) : FnOk P w K mg base CX0 7 f fd ["draws", "live", "both", "way", "held"] (spDoor K CL T) := by
  have nd := sclaw_door.nd
  refine F.ok sclaw_door (fun vs H Q E h => ?_) (fun cdv A outer s H vs Q E hr h => ?_)
  · obtain ⟨M, a, g, st, pl, r0, r1, D, hd, b, s, hist, hs, way, rfl, _⟩ := h
    rfl
  · obtain ⟨M, a, g, st, pl, r0, r1, D, hd, b, s, hist, hs, way, rfl, W, hm, BO, HE, lhs, q⟩ := h
    have hu := hr.units
    obtain ⟨nb, p, t, eb, np, nt, ep, et⟩ := id BO
    have gd := W.live.gd
    have lp := gd.l1
    have lq := gd.l2
    obtain ⟨dx, TT, ts, log, R⟩ := id W.live
    have noS : ∀ {c}, c ∉ (a :: r0 :: r1 :: D :: st :: pl :: M) → c ≠ a ∧ c ≠ hd := fun h => ⟨fun z => h (by rw [z]; simp), fun z => h (by rw [z]; simp [hm])⟩
    have naM : a ∉ M := by
      have nds := W.nd
      simp only [List.nodup_cons, List.mem_cons, not_or] at nds
      exact nds.1.2.2.2.2.2
    have nha : hd ≠ a := fun z => naM (z ▸ hm)
    refine ⟨_, (pss_cons (ps_if (pt_cmpR op_eq (pv 3) pe_int (nomark _)) (pss_cons (ps_set (i := 5) nd rfl (.inl rfl) (Ob.pe_m0 (pv 1) cLive_rows (hr.mono (by decide))))
      (pss_cons (ps_if (PW.pt (pw_or (pt_not (pt_val (pe_callB call_isi (by rfl) B.isinstance_ (by decide +kernel) (pa_cons (pv 5) (pa_cons (pe_bltn (v := .ty "tuple") (by rfl) B.tuple_ (by decide +kernel) rfl) pa_nil))))) (pw_or (pt_cmpR op_ne (pe_callB call_len_seq (by rfl) B.len_ (by decide +kernel) (pa_cons (pv 5) pa_nil)) pe_int (nomark _)) (pw_or1 (pt_cmpR (op_neD hu) (pe_callTy call_list_of (by rfl) B.list_ (by decide +kernel) (pa_cons (pv 5) pa_nil)) (pv 2) (nomark _)))))) (pss_one (ps_ret pe_bl)) pss_nil)
      (pss_cons (ps_for PassesOwn.never rfl (pi_tup (pv 5)) (pg_name (i := 6) nd rfl (.inl rfl)) (pss_one (ps_if (PW.pt (pw_or (pt_not (pt_val (pe_callB call_isi (by rfl) B.isinstance_ (by decide +kernel) (pa_cons (pv 6) (pa_cons (pe_bltn (v := .ty "list") (by rfl) B.list_ (by decide +kernel) rfl) pa_nil))))) (pw_or1 (pt_cmpR (op_neD hu) (pe_lc (own := [("number", 7)]) (by rfl) nd (pi_list (pv 6)) (blkOk_by (own := [("number", 7)]) (N := ["draws", "live", "both", "way", "held", "told", "row", "number", "size", "found", "place"]) (sc := defScope slaw_door) (by decide +kernel)) (fun _ _ _ _ _ => (pg_name (i := 7) nd rfl (.inl rfl))) (fun _ _ _ _ _ => (pts_one (pt_not (pt_val (pe_own claw_whole (hr.mono (by decide)) (by rfl) (pa_cons (pv 7) pa_nil)))))) (fun _ _ _ _ _ => pe_int)) (pe_lst pa_nil) (nomark _))))) (pss_one (ps_ret pe_bl)) pss_nil)))
      (pss_cons (ps_if (pt_cmpR op_eq (pe_own claw_take (hr.mono (by decide)) (by rfl) (pa_cons (pv 0) (pa_cons pe_int pa_nil))) pe_int (nomark _)) (pss_cons (ps_expr (pe_bm PySem.F.plainAttrs_list PySem.F.slot_list_append PySem.F.type_list_append mt_append (pv 4) (pa_cons (pe_tup (pa_cons (pv 5) (pa_cons (pe_lst (pa_cons (pe_callTy call_list_of (by rfl) B.list_ (by decide +kernel) (pa_cons (pe_ix ix_list (pv 2) pe_int (fun _ _ => rfl)) pa_nil)) (pa_cons (pe_callTy call_list_of (by rfl) B.list_ (by decide +kernel) (pa_cons (pe_ix ix_list (pv 2) pe_int (fun _ _ => rfl)) pa_nil)) pa_nil))) pa_nil))) pa_nil)))
      (pss_one (ps_ret pe_bl))) pss_nil)
      (pss_cons (ps_expr (pe_bm PySem.F.plainAttrs_list PySem.F.slot_list_append PySem.F.type_list_append mt_append (pe_ix ix_tup (pv 5) pe_int (fun _ _ => rfl)) (pa_cons pe_int pa_nil)))
      (pss_cons (ps_expr (pe_bm PySem.F.plainAttrs_list PySem.F.slot_list_append PySem.F.type_list_append mt_append (pe_ix ix_tup (pv 5) pe_int (fun _ _ => rfl)) (pa_cons pe_int pa_nil)))
      (pss_one (ps_ret (pe_cmpR (op_eqD hu) (pe_callTy call_list_of (by rfl) B.list_ (by decide +kernel) (pa_cons (pv 5) pa_nil)) (pe_lst (pa_cons (pe_op op_cat (pe_ix ix_list (pv 2) pe_int (fun _ _ => rfl)) (pe_lst (pa_cons pe_int pa_nil))) (pa_cons (pe_op op_cat (pe_ix ix_list (pv 2) pe_int (fun _ _ => rfl)) (pe_lst (pa_cons pe_int pa_nil))) pa_nil))) (nomark _)))))))))) pss_nil)
      (pss_cons (ps_set (i := 8) nd rfl (.inl rfl) (pe_op op_mulW (pe_callB call_len_seq (by rfl) B.len_ (by decide +kernel) (pa_cons (pe_ix ix_list (pv 2) pe_int (fun _ _ => rfl)) pa_nil)) (pe_callB call_len_seq (by rfl) B.len_ (by decide +kernel) (pa_cons (pe_ix ix_list (pv 2) pe_int (fun _ _ => rfl)) pa_nil))))
      (pss_cons (ps_if (pt_cmpR op_eq (pv 3) pe_int (nomark _)) (pss_cons (ps_set (i := 7) nd rfl (.inl rfl) (pe_own claw_asked (hr.mono (by decide)) (by rfl) (pa_cons (pv 0) (pa_cons (pe_ix ix_list (pv 2) pe_int (fun _ _ => rfl)) (pa_cons (pe_ix ix_list (pv 2) pe_int (fun _ _ => rfl)) pa_nil)))))
      (pss_cons (ps_set (i := 9) nd rfl (.inl rfl) (Ob.pe_m (pv 1) cLive_below (hr.mono (by decide)) (pa_cons (pv 7) pa_nil)))
      (pss_one (ps_ret (pe_and (pe_own claw_whole (hr.mono (by decide)) (by rfl) (pa_cons (pv 9) pa_nil)) (pe_one (pe_cmpR op_eq (pv 9) (pe_own claw_many_below (hr.mono (by decide)) (by rfl) (pa_cons (pe_ix ix_list (pv 2) pe_int (fun _ _ => rfl)) (pa_cons (pe_ix ix_list (pv 2) pe_int (fun _ _ => rfl)) (pa_cons (pv 7) pa_nil)))) (nomark _)))))))) pss_nil)
      (pss_cons (ps_if (pt_cmpR op_eq (pv 8) pe_int (nomark _)) (pss_one (ps_ret pe_bl)) pss_nil)
      (pss_cons (ps_set (i := 10) nd rfl (.inl rfl) (pe_ix ix_list (pe_lst (pa_cons pe_int (pa_cons (pe_op op_sub (pv 8) pe_int) (pa_cons (pe_op op_mod (pe_op op_add (pe_op op_mulW (pe_own claw_take (hr.mono (by decide)) (by rfl) (pa_cons (pv 0) (pa_cons pe_int pa_nil))) pe_int) (pe_own claw_take (hr.mono (by decide)) (by rfl) (pa_cons (pv 0) (pa_cons pe_int pa_nil)))) (pv 8)) pa_nil)))) (pe_own claw_take (hr.mono (by decide)) (by rfl) (pa_cons (pv 0) (pa_cons pe_int pa_nil))) (fun _ _ => rfl)))
      (pss_cons (ps_set (i := 9) nd rfl (.inl rfl) (Ob.pe_m (pv 1) cLive_at (hr.mono (by decide)) (pa_cons (pv 10) pa_nil)))
      (pss_one (ps_ret (pe_and (pe_own claw_wholes (hr.mono (by decide)) (by rfl) (pa_cons (pv 9) (pa_cons pe_int pa_nil))) (pe_one (pe_cmpR (op_eqD hu) (pv 9) (pe_own claw_pair_at (hr.mono (by decide)) (by rfl) (pa_cons (pe_ix ix_list (pv 2) pe_int (fun _ _ => rfl)) (pa_cons (pe_ix ix_list (pv 2) pe_int (fun _ _ => rfl)) (pa_cons (pv 10) pa_nil)))) (nomark _)))))))))))), ?_⟩
    repeat walk_at "s"
    refine ⟨rfl, _, rfl, ?_⟩
    by_cases c0 : way = 0
    · rw [decide_eq_true (congrArg V.int c0)]
      refine iteT ?_
      repeat walk_at "s"
      refine ⟨g, dx, _, rfl, R.hg, rows_no _ _ (by decide +kernel) (by decide +kernel), ?_⟩
      refine ⟨g, r0, r1, D, s, hist, rfl, W.live, fun t1 p1 q1 H1 s1 nt1 np1 nq1 n12 et1 ep1 eq1 => ?_⟩
      have W1 := W.same s1
      have B1 := BO.lv (.same s1 : Lv T _ _ _)
      obtain ⟨_, p', t', eb1, _, _, epb1, etb1⟩ := id B1
      have n1S := W.new np1
      have n2S := W.new nq1
      repeat walk_at "s"
      refine ⟨_, _, _, _, true, rfl, .ty "tuple", .base (.tup et1), kit_ty (by decide +kernel), ?_⟩
      repeat walk_at "s"
      refine ⟨_, _, rfl, .inr (.inl (.inl et1)), ?_⟩
      repeat walk_at "s"
      refine ⟨rfl, ?_⟩
      rw [decide_eq_true (show V.int (([V.ref p1, V.ref q1].length : Nat) : Int) = V.int 2 from rfl)]
      refine ⟨_, rfl, ?_⟩
      refine iteF ?_
      repeat walk_at "s"
      refine ⟨_, _, rfl, .inr (.inl (.inl et1)), ?_⟩
      intro p2 np2
      generalize hg2 : upd H1 p2 _ = H2
      have s2 : Same H1 H2 := hg2 ▸ same_new np2
      have e2 := (congrFun hg2 p2).symm.trans upd_same
      clear hg2
      repeat walk_at "s"
      refine ⟨_, _, dp_two e2 (SqL.new (s2 _ _ ep1)) (SqL.new (s2 _ _ eq1)), dp_two (s2 _ _ eb1) (SqL.new (s2 _ _ epb1)) (SqL.new (s2 _ _ etb1)), shaped_two _ _, shaped_two _ _, ?_⟩
      rw [eqv_two]
      repeat walk_at "s"
      have W2 := W1.same s2
      have et2 := s2 _ _ et1
      refine ⟨⟨_, .inl (.inl et2)⟩, ?_⟩
      refine for_tup (K := K) (a := t1) (xs := [V.ref p1, V.ref q1]) (fun j σ H' => Same H2 H' ∧ ∃ v6 : Option V, σ = [some (.ref a), some (.ref g), some (.ref b), some (.int way), some (.ref hd), some (.ref t1), v6, none, none, none, none]) ⟨.refl _, _, rfl⟩ (fun j σ Hj _ w' => .inl (.inl (w'.1 _ _ et2))) (fun j v σ Hj hv w' => ?_) (fun σ Hj w' => ?_)
      · obtain ⟨sj, v6, rfl⟩ := w'
        obtain ⟨r, us, rfl, er⟩ : ∃ (r : Addr) (us : List Int), v = .ref r ∧ H2 r = some (.lst (us.map V.int)) := by
          match j, hv with
          | 0, hv => cases hv; exact ⟨p1, _, rfl, s2 _ _ ep1⟩
          | 1, hv => cases hv; exact ⟨q1, _, rfl, s2 _ _ eq1⟩
          | j + 2, hv => simp at hv
        have erj := sj _ _ er
        repeat walk_at "s"
        refine ⟨_, _, _, _, true, rfl, .ty "list", tyList (SqL.new erj), kit_ty (by decide +kernel), ?_⟩
        repeat walk_at "s"
        refine ⟨⟨_, SqL.new erj⟩, ?_⟩
        intro D2 nD2
        refine lc_list (K := K) (a := r) (xs := us.map V.int) (fun j H' => Same Hj H' ∧ H' D2 = some (.lst (([] : List Int).map V.int))) ⟨same_new nD2, upd_same⟩ (fun j Hk _ w => w.1.seq (SqL.new erj)) (fun j v Hk hv w => ?_) (fun H5 w => ?_)
        · obtain ⟨w1, w2⟩ := w
          obtain ⟨y, hy, rfl⟩ := int_at hv
          refine ⟨rfl, ?_⟩
          repeat walk_at "s"
          first
            | exact w2
            | exact ⟨w1, w2⟩
            | trace_state
        obtain ⟨s5, w2⟩ := w
        repeat walk_at "s"
        intro p6 np6
        generalize hg6 : upd H5 p6 _ = H6
        have s6 : Same H5 H6 := hg6 ▸ same_new np6
        have e6 := (congrFun hg6 p6).symm.trans upd_same
        clear hg6
        refine ⟨di [], di [], dp_ints (ns := []) (SqL.new (s6 _ _ w2)), dp_ints (ns := []) (SqL.new e6), shaped_ints _, shaped_ints _, ?_⟩
        rw [eqv_ints, decide_eq_true rfl]
        repeat walk_at "s"
        exact ⟨(sj.trans s5).trans s6, _, rfl⟩
      obtain ⟨sj, v6, rfl⟩ := w'
      have W3 := W2.same sj
      have S3 : Same H Hj := (s1.trans s2).trans sj
      have et3 := sj _ _ et2
      have ep3 := sj _ _ (s2 _ _ ep1)
      have eq3 := sj _ _ (s2 _ _ eq1)
      repeat walk_at "s"
      refine ⟨a, 2, rfl, W3.draws, by decide, fun r4 H4 x4 ra4 rb4 _ => ?_⟩
      have W4 := W3.ext x4
      have L4 : Lv T [a, hd] H H4 := (Lv.same S3).trans (.ext x4 W3.draws (by simp))
      have LS4 : Lv T (a :: r0 :: r1 :: D :: st :: pl :: M) H H4 := (Lv.same S3).trans (.ext x4 W3.draws (by simp))
      have LS14 : Lv T (a :: r0 :: r1 :: D :: st :: pl :: M) H1 H4 := ((Lv.same s2).trans (.same sj)).trans (.ext x4 W3.draws (by simp))
      have et4 := LS14.tup et1
      have ep4 := LS14.lst ep1 n1S
      have eq4 := LS14.lst eq1 n2S
      have HE4 : Held (a :: r0 :: r1 :: D :: st :: pl :: M) H4 hd hs := ⟨x4.keep _ _ (S3 _ _ HE.1) nha, fun e he => (HE.2 e he).lv LS4⟩
      have BO4 := BO.lv LS4
      obtain ⟨_, p4, t4, eb4, np4, nt4, epb4, etb4⟩ := id BO4
      refine ⟨rfl, _, rfl, ?_⟩
      refine ite2 (fun z => ?_) (fun z => ?_)
      · repeat walk_at "s"
        refine ⟨.inl ⟨rfl, _, SqL.new HE4.1⟩, ?_⟩
        repeat walk_at "s"
        refine ⟨_, _, rfl, .inl (SqL.new epb4), ?_⟩
        intro p5 np5
        generalize hg5 : upd H4 p5 _ = H5
        have s5 : Same H4 H5 := hg5 ▸ same_new np5
        have e5 := (congrFun hg5 p5).symm.trans upd_same
        clear hg5
        repeat walk_at "s"
        refine ⟨_, _, rfl, .inl (SqL.new (s5 _ _ etb4)), ?_⟩
        intro p6 np6
        generalize hg6 : upd H5 p6 _ = H6
        have s6 : Same H5 H6 := hg6 ▸ same_new np6
        have e6 := (congrFun hg6 p6).symm.trans upd_same
        clear hg6
        repeat walk_at "s"
        intro p7 np7
        generalize hg7 : upd H6 p7 _ = H7
        have s7 : Same H6 H7 := hg7 ▸ same_new np7
        have e7 := (congrFun hg7 p7).symm.trans upd_same
        clear hg7
        repeat walk_at "s"
        intro e8 n8
        have s8 : Same H7 (upd H7 e8 (.tup [.ref t1, .ref p7])) := same_new n8
        have ee8 : (upd H7 e8 (.tup [.ref t1, .ref p7])) e8 = some (.tup [.ref t1, .ref p7]) := upd_same
        generalize upd H7 e8 (.tup [.ref t1, .ref p7]) = H8 at s8 ee8 ⊢
        have S8 : Same H4 H8 := ((s5.trans s6).trans s7).trans s8
        have eh8 := S8 _ _ HE4.1
        repeat walk_at "s"
        refine ⟨hd, _, _, rfl, rfl, eh8, smallLt (by rw [List.length_map]; omega), ?_⟩
        have m9 : Lv T [hd] H8 (upd H8 hd (.lst (hs.map V.ref ++ [V.ref e8]))) := .put eh8 (by simp)
        have eh9 : (upd H8 hd (.lst (hs.map V.ref ++ [V.ref e8]))) hd = some (.lst ((hs ++ [e8]).map V.ref)) := by rw [upd_same, List.map_append]; rfl
        generalize upd H8 hd (.lst (hs.map V.ref ++ [V.ref e8])) = H9 at m9 eh9 ⊢
        have mS9 : Lv T (a :: r0 :: r1 :: D :: st :: pl :: M) H8 H9 := m9.mono fun c hc => by
          rw [List.mem_singleton.mp hc]
          simp [hm]
        have n5S := W4.new np5
        have n6S := W4.new (s5.free np6)
        have n7S := W4.new ((s5.trans s6).free np7)
        repeat walk_at "s"
        refine q (hs ++ [e8]) H9 (L4.trans ((Lv.same S8).trans (m9.mono (by simp)))) ((W4.same S8).at_hd hm m9 ⟨_, eh9⟩) ⟨eh9, fun e he => ?_⟩ (by rw [List.length_append]; exact Nat.le_refl _)
        rcases List.mem_append.mp he with he | he
        · exact ((HE4.2 e he).lv (.same S8 : Lv T _ _ _)).lv mS9
        · rw [List.mem_singleton.mp he]
          exact ⟨t1, p7, p1, q1, p5, p6, s.1, s.2, mS9.tup ee8, mS9.tup (S8 _ _ et4), n1S, n2S, mS9.lst (S8 _ _ ep4) n1S, mS9.lst (S8 _ _ eq4) n2S, n7S, mS9.lst (s8 _ _ e7) n7S, n5S, n6S, mS9.lst (s8 _ _ (s7 _ _ (s6 _ _ e5))) n5S, mS9.lst (s8 _ _ (s7 _ _ e6)) n6S⟩
      · repeat walk_at "s"
        refine ⟨.inl ⟨rfl, _, SqL.new ep4⟩, ?_⟩
        repeat walk_at "s"
        refine ⟨p1, _, _, rfl, rfl, ep4, smallLt (by rw [List.length_map]; omega), ?_⟩
        have n1H : H p1 = none := np1
        have n2H : H q1 = none := nq1
        have m5 : Lv T [p1, q1] H4 (upd H4 p1 (.lst (s.1.map V.int ++ [V.int 7]))) := .put ep4 (by simp)
        have a5 : (upd H4 p1 (.lst (s.1.map V.int ++ [V.int 7]))) p1 = some (.lst ((s.1 ++ [7]).map V.int)) := by rw [upd_same, List.map_append]; rfl
        have b5 : (upd H4 p1 (.lst (s.1.map V.int ++ [V.int 7]))) q1 = some (.lst (s.2.map V.int)) := by rw [upd_ne n12.symm]; exact eq4
        have t5 := m5.tup et4
        generalize upd H4 p1 (.lst (s.1.map V.int ++ [V.int 7])) = H5 at m5 a5 b5 t5 ⊢
        repeat walk_at "s"
        refine ⟨.inl ⟨rfl, _, SqL.new b5⟩, ?_⟩
        repeat walk_at "s"
        refine ⟨q1, _, _, rfl, rfl, b5, smallLt (by rw [List.length_map]; omega), ?_⟩
        have m6 : Lv T [p1, q1] H5 (upd H5 q1 (.lst (s.2.map V.int ++ [V.int 8]))) := .put b5 (by simp)
        have b6 : (upd H5 q1 (.lst (s.2.map V.int ++ [V.int 8]))) q1 = some (.lst ((s.2 ++ [8]).map V.int)) := by rw [upd_same, List.map_append]; rfl
        have a6 : (upd H5 q1 (.lst (s.2.map V.int ++ [V.int 8]))) p1 = some (.lst ((s.1 ++ [7]).map V.int)) := by rw [upd_ne n12]; exact a5
        have t6 := m6.tup t5
        generalize upd H5 q1 (.lst (s.2.map V.int ++ [V.int 8])) = H6 at m6 a6 b6 t6 ⊢
        have M6 : Lv T [p1, q1] H4 H6 := m5.trans m6
        have o6 : ∀ {c}, c ∈ (a :: r0 :: r1 :: D :: st :: pl :: M) → c ∉ [p1, q1] := fun hc z => by
          simp only [List.mem_cons, List.not_mem_nil, or_false] at z
          rcases z with rfl | rfl
          · exact n1S hc
          · exact n2S hc
        have old : ∀ {c o}, H c = some o → c ∉ [p1, q1] := fun e z => by
          simp only [List.mem_cons, List.not_mem_nil, or_false] at z
          rcases z with rfl | rfl
          · rw [n1H] at e; cases e
          · rw [n2H] at e; cases e
        have eb6 := M6.lst eb4 (old eb)
        have epb6 := M6.lst epb4 (fun z => by
          have e := S3 _ _ ep
          obtain ⟨_, p9, t9, eb9, _, _, epb9, etb9⟩ := id BO
          have : H4 b = H4 b := rfl
          have e9 := LS4.lst eb9 nb
          rw [eb4] at e9
          cases e9
          exact old epb9 z)
        have etb6 := M6.lst etb4 (fun z => by
          obtain ⟨_, p9, t9, eb9, _, _, epb9, etb9⟩ := id BO
          have e9 := LS4.lst eb9 nb
          rw [eb4] at e9
          cases e9
          exact old etb9 z)
        repeat walk_at "s"
        refine ⟨_, _, rfl, .inr (.inl (.inl t6)), ?_⟩
        intro p7 np7
        generalize hg7 : upd H6 p7 _ = H7
        have s7 : Same H6 H7 := hg7 ▸ same_new np7
        have e7 := (congrFun hg7 p7).symm.trans upd_same
        clear hg7
        repeat walk_at "s"
        intro p8 np8
        generalize hg8 : upd H7 p8 _ = H8
        have s8 : Same H7 H8 := hg8 ▸ same_new np8
        have e8 := (congrFun hg8 p8).symm.trans upd_same
        clear hg8
        refine ⟨_, _, _, _, rfl, rfl, s8 _ _ (s7 _ _ epb6), e8, small (by rw [List.length_map]; show s.1.length + 1 ≤ 100000; omega), ?_⟩
        intro p9 np9
        generalize hg9 : upd H8 p9 _ = H9
        have s9 : Same H8 H9 := hg9 ▸ same_new np9
        have e9 := (congrFun hg9 p9).symm.trans upd_same
        clear hg9
        repeat walk_at "s"
        intro p10 np10
        generalize hg10 : upd H9 p10 _ = H10
        have s10 : Same H9 H10 := hg10 ▸ same_new np10
        have e10 := (congrFun hg10 p10).symm.trans upd_same
        clear hg10
        refine ⟨_, _, _, _, rfl, rfl, s10 _ _ (s9 _ _ (s8 _ _ (s7 _ _ etb6))), e10, small (by rw [List.length_map]; show s.2.length + 1 ≤ 100000; omega), ?_⟩
        intro p11 np11
        generalize hg11 : upd H10 p11 _ = H11
        have s11 : Same H10 H11 := hg11 ▸ same_new np11
        have e11 := (congrFun hg11 p11).symm.trans upd_same
        clear hg11
        repeat walk_at "s"
        intro p12 np12
        generalize hg12 : upd H11 p12 _ = H12
        have s12 : Same H11 H12 := hg12 ▸ same_new np12
        have e12 := (congrFun hg12 p12).symm.trans upd_same
        clear hg12
        have S12 := ((((s7.trans s8).trans s9).trans s10).trans s11).trans s12
        have e9' : H12 p9 = some (.lst ((s.1 ++ [7]).map V.int)) := by rw [List.map_append]; exact s12 _ _ (s11 _ _ (s10 _ _ e9))
        have e11' : H12 p11 = some (.lst ((s.2 ++ [8]).map V.int)) := by rw [List.map_append]; exact s12 _ _ e11
        refine ⟨_, _, dp_two (((((s8.trans s9).trans s10).trans s11).trans s12) _ _ e7) (SqL.new (S12 _ _ a6)) (SqL.new (S12 _ _ b6)), dp_two e12 (SqL.new e9') (SqL.new e11'), shaped_two _ _, shaped_two _ _, ?_⟩
        rw [eqv_two]
        have mT : Lv T [a] H H12 := by
          have m0 : Lv T [a, p1, q1] H H12 := ((Lv.same S3).trans (.ext x4 W3.draws (by simp))).trans ((M6.mono (by simp)).trans (.same S12))
          refine m0.less fun c hc => ?_
          simp only [List.mem_cons, List.not_mem_nil, or_false] at hc
          rcases hc with rfl | rfl | rfl
          · exact .inl (by simp)
          · exact .inr n1H
          · exact .inr n2H
        have mS : Lv T (a :: r0 :: r1 :: D :: st :: pl :: M) H H12 := mT.mono fun c hc => by rw [List.mem_singleton.mp hc]; simp
        have d6 : DrawAt H6 a := by
          obtain ⟨ds, e3, r⟩ := W4.draws
          exact ⟨ds, M6.lst e3 (o6 (by simp)), r⟩
        exact q hs _ (mT.mono (by simp)) (W.dr mT (d6.same S12)) ⟨mT.lst HE.1 (by simp [nha]), fun e he => (HE.2 e he).lv mS⟩ (Nat.le_succ _)
    · rw [decide_eq_false (fun z => c0 (V.int.inj z))]
      refine iteF ?_
      have big : (s.1.length : Int) * (s.2.length : Int) = ((s.1.length * s.2.length : Nat) : Int) := (Int.natCast_mul _ _).symm
      have lim : s.1.length * s.2.length ≤ 300 * 300 := Nat.mul_le_mul lp lq
      repeat walk_at "s"
      try refine ⟨_, _, _, _, rfl, rfl, SqL.new eb, at0, ?_⟩
      refine ⟨_, _, rfl, .inl (SqL.new ep), ?_⟩
      rw [List.length_map]
      repeat walk_at "s"
      try refine ⟨_, _, _, _, rfl, rfl, SqL.new eb, at1, ?_⟩
      refine ⟨_, _, rfl, .inl (SqL.new et), ?_⟩
      rw [List.length_map]
      refine ⟨_, _, rfl, rfl, mulW (by omega) (by omega) (by omega) (by omega), ?_⟩
      repeat walk_at "s"
      refine ⟨rfl, _, rfl, ?_⟩
      have RP : RowAt H a p s.1 := ⟨ep, (noS np).1, gd.f1, lp⟩
      have RT : RowAt H a t s.2 := ⟨et, (noS nt).1, gd.f2, lq⟩
      by_cases c1 : way = 1
      · rw [decide_eq_true (congrArg V.int c1)]
        refine iteT ?_
        repeat walk_at "s"
        try refine ⟨_, _, _, _, rfl, rfl, SqL.new eb, at0, ?_⟩
        repeat walk_at "s"
        try refine ⟨_, _, _, _, rfl, rfl, SqL.new eb, at1, ?_⟩
        repeat walk_at "s"
        refine ⟨a, p, t, s.1, s.2, rfl, W.draws, RP, RT, fun n H1 x1 => ?_⟩
        have W1 := W.ext x1
        have m1 : Lv T [a] H H1 := .ext x1 W.draws (by simp)
        obtain ⟨dx1, TT1, ts1, log1, R1⟩ := id W1.live
        repeat walk_at "s"
        refine ⟨g, dx1, _, rfl, R1.hg, rows_no _ _ (by decide +kernel) (by decide +kernel), ?_⟩
        repeat walk_at "s"
        refine ⟨g, r0, r1, D, n, s, hist, rfl, W1.live, ?_⟩
        repeat walk_at "s"
        have eb1 := x1.keep _ _ eb (noS nb).1
        have ep1 := x1.keep _ _ ep (noS np).1
        have et1 := x1.keep _ _ et (noS nt).1
        try refine ⟨_, _, _, _, rfl, rfl, SqL.new eb1, at0, ?_⟩
        repeat walk_at "s"
        try refine ⟨_, _, _, _, rfl, rfl, SqL.new eb1, at1, ?_⟩
        repeat walk_at "s"
        refine ⟨p, t, s.1, s.2, n, rfl, SqL.new ep1, SqL.new et1, gd.f1.1, gd.f2.1, by omega, fun H2 s2 => ?_⟩
        refine ⟨rfl, ?_⟩
        rw [decide_eq_true rfl]
        have mT : Lv T [a] H H2 := m1.trans (.same s2)
        have mS : Lv T (a :: r0 :: r1 :: D :: st :: pl :: M) H H2 := mT.mono fun c hc => by rw [List.mem_singleton.mp hc]; simp
        exact q hs _ (mT.mono (by simp)) (W1.same s2) ⟨mT.lst HE.1 (by simp [nha]), fun e he => (HE.2 e he).lv mS⟩ (Nat.le_succ _)
      · rw [decide_eq_false (fun z => c1 (V.int.inj z))]
        refine iteF ?_
        repeat walk_at "s"
        refine ⟨rfl, _, rfl, ?_⟩
        by_cases c2 : (s.1.length : Int) * (s.2.length : Int) = 0
        · rw [decide_eq_true (congrArg V.int c2)]
          refine iteT ?_
          repeat walk_at "s"
          exact q hs H .refl W HE (Nat.le_succ _)
        · rw [decide_eq_false (fun z => c2 (V.int.inj z))]
          refine iteF ?_
          have pos : 0 < s.1.length * s.2.length := by omega
          repeat walk_at "s"
          refine ⟨a, 1000, rfl, W.draws, by decide, fun r4 H4 x4 ra4 rb4 _ => ?_⟩
          have W4 := W.ext x4
          repeat walk_at "s"
          refine ⟨a, 1000, rfl, W4.draws, by decide, fun r5 H5 x5 ra5 rb5 _ => ?_⟩
          have W5 := W4.ext x5
          have m5 : Lv T [a] H H5 := (Lv.ext x4 W.draws (by simp)).trans (.ext x5 W4.draws (by simp))
          have hd5 := W5.draws
          repeat walk_at "s"
          intro p6 np6
          generalize hg6 : upd H5 p6 _ = H6
          have s6 : Same H5 H6 := hg6 ▸ same_new np6
          have e6 := (congrFun hg6 p6).symm.trans upd_same
          clear hg6
          have n6 : p6 ≠ a := DrawAt.ne (by walk_at "hand") np6
          have W6 := W5.same s6
          repeat walk_at "s"
          refine ⟨a, 3, rfl, W6.draws, by decide, fun r7 H7 x7 ra7 rb7 _ => ?_⟩
          have W7 := W6.ext x7
          have m7 : Lv T [a] H H7 := m5.trans ((Lv.same s6).trans (.ext x7 W6.draws (by simp)))
          have q0 := Int.emod_nonneg (r4 * 1000 + r5) (show (s.1.length : Int) * (s.2.length : Int) ≠ 0 by omega)
          have q1 := Int.emod_lt_of_pos (r4 * 1000 + r5) (show (0 : Int) < (s.1.length : Int) * (s.2.length : Int) by omega)
          obtain ⟨k, hk, lk⟩ : ∃ k : Nat, atI [V.int 0, V.int ((s.1.length : Int) * (s.2.length : Int) - 1), V.int ((r4 * 1000 + r5) % ((s.1.length : Int) * (s.2.length : Int)))] r7 = some (.int (k : Int)) ∧ k < s.1.length * s.2.length := by
            obtain ⟨x, h1, h2⟩ := at_draw (xs := [V.int 0, V.int ((s.1.length : Int) * (s.2.length : Int) - 1), V.int ((r4 * 1000 + r5) % ((s.1.length : Int) * (s.2.length : Int)))]) ra7 rb7
            simp only [List.mem_cons, List.not_mem_nil, or_false] at h2
            rcases h2 with rfl | rfl | rfl
            · exact ⟨0, h1, pos⟩
            · exact ⟨s.1.length * s.2.length - 1, by rw [h1, show (s.1.length : Int) * (s.2.length : Int) - 1 = ((s.1.length * s.2.length - 1 : Nat) : Int) from by omega], by omega⟩
            · exact ⟨((r4 * 1000 + r5) % ((s.1.length : Int) * (s.2.length : Int))).toNat, by rw [h1, Int.toNat_of_nonneg q0], by omega⟩
          refine ⟨_, _, _, _, rfl, rfl, SqL.new (x7.keep _ _ e6 n6), hk, ?_⟩
          obtain ⟨L, o⟩ := ord_exists s.1 s.2
          obtain ⟨wv, hw⟩ : ∃ w, L[k]? = some w := ⟨_, List.getElem?_eq_getElem (by rw [o.len]; exact lk)⟩
          obtain ⟨dx1, TT1, ts1, log1, R1⟩ := id W7.live
          repeat walk_at "s"
          refine ⟨g, dx1, _, rfl, R1.hg, rows_no _ _ (by decide +kernel) (by decide +kernel), ?_⟩
          repeat walk_at "s"
          refine ⟨g, r0, r1, D, k, s, hist, L, wv, rfl, W7.live, W7.tabs, o, hw, fun u H8 n8 eu => ?_⟩
          have W8 := W7.nx n8
          have m8 : Lv T [a] H H8 := m7.trans (.nx n8)
          repeat walk_at "s"
          refine ⟨u, [wv.1, wv.2.1, wv.2.2], rfl, eu, by simp, fun H9 s9 => ?_⟩
          have m9 : Lv T [a] H H9 := m8.trans (.same s9)
          have o1 : ∀ {c}, c ≠ a → c ∉ [a] := fun h => by simpa using h
          have eb9 := m9.lst eb (o1 (noS nb).1)
          have ep9 := m9.lst ep (o1 (noS np).1)
          have et9 := m9.lst et (o1 (noS nt).1)
          repeat walk_at "s"
          try refine ⟨_, _, _, _, rfl, rfl, SqL.new eb9, at0, ?_⟩
          repeat walk_at "s"
          try refine ⟨_, _, _, _, rfl, rfl, SqL.new eb9, at1, ?_⟩
          repeat walk_at "s"
          refine ⟨p, t, s.1, s.2, k, L, wv, rfl, SqL.new ep9, SqL.new et9, gd.f1.1, gd.f2.1, by omega, by omega, o, hw, fun v H10 s10 nv ev => ?_⟩
          refine ⟨dt wv, dt wv, dp_tri (s10 _ _ (s9 _ _ eu)), dp_tri ev, shaped_tri _, shaped_tri _, ?_⟩
          rw [eqv_tri]
          have mT : Lv T [a] H H10 := m9.trans (.same s10)
          have mS : Lv T (a :: r0 :: r1 :: D :: st :: pl :: M) H H10 := mT.mono fun c hc => by rw [List.mem_singleton.mp hc]; simp
          exact q hs _ (mT.mono (by simp)) ((W8.same s9).same s10) ⟨mT.lst HE.1 (by simp [nha]), fun e he => (HE.2 e he).lv mS⟩ (Nat.le_succ _)

theorem ok_standsl {CL f : Addr} {fd : FuncData} {T : List (Addr × Str)} (F : Fun K "_law_stands" "_law_stands" slaw_stands f fd) (claw_take : Cal P w K mg base 1 "_law_take" ["draws", "many"] spTake) (claw_door : Cal P w K mg base 7 "_law_door" ["draws", "live", "both", "way", "held"] (spDoor K CL T)) : FnOk P w K mg base CX0 8 f fd ["draws", "live", "both", "held"] (spStandsL K CL T) := by
  have nd := sclaw_stands.nd
  refine F.ok sclaw_stands (fun vs H Q E h => ?_) (fun cdv A outer s H vs Q E hr h => ?_)
  · obtain ⟨M, a, g, st, pl, r0, r1, D, hd, b, s, hist, hs, rfl, _⟩ := h
    rfl
  · obtain ⟨M, a, g, st, pl, r0, r1, D, hd, b, s, hist, hs, rfl, W, hm, BO, HE, lhs, q⟩ := h
    have hu := hr.units
    have naM : a ∉ M := by
      have nds := W.nd
      simp only [List.nodup_cons, List.mem_cons, not_or] at nds
      exact nds.1.2.2.2.2.2
    have nha : hd ≠ a := fun z => naM (z ▸ hm)
    refine ⟨_, (pss_cons (ps_set (i := 4) nd rfl (.inl rfl) (pe_ix ix_list (pe_lst (pa_cons (pe_lst (pa_cons pe_int (pa_cons pe_int (pa_cons pe_int pa_nil)))) (pa_cons (pe_lst (pa_cons pe_int (pa_cons pe_int (pa_cons pe_int pa_nil)))) (pa_cons (pe_lst (pa_cons pe_int (pa_cons pe_int (pa_cons pe_int pa_nil)))) (pa_cons (pe_lst (pa_cons pe_int (pa_cons pe_int (pa_cons pe_int pa_nil)))) (pa_cons (pe_lst (pa_cons pe_int (pa_cons pe_int (pa_cons pe_int pa_nil)))) (pa_cons (pe_lst (pa_cons pe_int (pa_cons pe_int (pa_cons pe_int pa_nil)))) pa_nil))))))) (pe_own claw_take (hr.mono (by decide)) (by rfl) (pa_cons (pv 0) (pa_cons pe_int pa_nil))) (fun _ _ => rfl)))
      (pss_cons (ps_for PassesOwn.never rfl (pi_list (pe_slice sl_list (pv 4) po_none (po_some (pe_ix ix_list (pe_lst (pa_cons pe_int (pa_cons pe_int (pa_cons pe_int (pa_cons pe_int (pa_cons pe_int pa_nil)))))) (pe_own claw_take (hr.mono (by decide)) (by rfl) (pa_cons (pv 0) (pa_cons pe_int pa_nil))) (fun _ _ => rfl))))) (pg_name (i := 5) nd rfl (.inl rfl)) (pss_one (ps_if (pt_not (pt_val (pe_own claw_door (hr.mono (by decide)) (by rfl) (pa_cons (pv 0) (pa_cons (pv 1) (pa_cons (pv 2) (pa_cons (pv 5) (pa_cons (pv 3) pa_nil)))))))) (pss_one (ps_ret pe_bl)) pss_nil)))
      (pss_one (ps_ret pe_bl)))), ?_⟩
    repeat walk_at "s"
    intro p1 np1
    generalize hg1 : upd H p1 _ = H1
    have s1 : Same H H1 := hg1 ▸ same_new np1
    have e1 := (congrFun hg1 p1).symm.trans upd_same
    clear hg1
    repeat walk_at "s"
    intro p2 np2
    generalize hg2 : upd H1 p2 _ = H2
    have s2 : Same H1 H2 := hg2 ▸ same_new np2
    have e2 := (congrFun hg2 p2).symm.trans upd_same
    clear hg2
    repeat walk_at "s"
    intro p3 np3
    generalize hg3 : upd H2 p3 _ = H3
    have s3 : Same H2 H3 := hg3 ▸ same_new np3
    have e3 := (congrFun hg3 p3).symm.trans upd_same
    clear hg3
    repeat walk_at "s"
    intro p4 np4
    generalize hg4 : upd H3 p4 _ = H4
    have s4 : Same H3 H4 := hg4 ▸ same_new np4
    have e4 := (congrFun hg4 p4).symm.trans upd_same
    clear hg4
    repeat walk_at "s"
    intro p5 np5
    generalize hg5 : upd H4 p5 _ = H5
    have s5 : Same H4 H5 := hg5 ▸ same_new np5
    have e5 := (congrFun hg5 p5).symm.trans upd_same
    clear hg5
    repeat walk_at "s"
    intro p6 np6
    generalize hg6 : upd H5 p6 _ = H6
    have s6 : Same H5 H6 := hg6 ▸ same_new np6
    have e6 := (congrFun hg6 p6).symm.trans upd_same
    clear hg6
    repeat walk_at "s"
    intro p7 np7
    generalize hg7 : upd H6 p7 _ = H7
    have s7 : Same H6 H7 := hg7 ▸ same_new np7
    have e7 := (congrFun hg7 p7).symm.trans upd_same
    clear hg7
    have S7 := (((((s1.trans s2).trans s3).trans s4).trans s5).trans s6).trans s7
    have W7 := W.same S7
    repeat walk_at "s"
    refine ⟨a, 6, rfl, W7.draws, by decide, fun r8 H8 x8 ra8 rb8 _ => ?_⟩
    have W8 := W7.ext x8
    have m8 : Lv T [a] H H8 := (Lv.same S7).trans (.ext x8 W7.draws (by simp))
    have keep : ∀ {c xs}, H7 c = some (.lst xs) → H c = none → H8 c = some (.lst xs) := fun e n => x8.keep _ _ e fun z => W.new n (by rw [z]; simp)
    obtain ⟨o, zs, eo, zo, lo, bo, no⟩ : ∃ (o : Addr) (zs : List Int), atI [V.ref p1, V.ref p2, V.ref p3, V.ref p4, V.ref p5, V.ref p6] r8 = some (.ref o) ∧ H8 o = some (.lst (zs.map V.int)) ∧ zs.length = 3 ∧ (∀ z ∈ zs, 0 ≤ z ∧ z ≤ 2) ∧ o ∉ (a :: r0 :: r1 :: D :: st :: pl :: M) := by
      obtain ⟨x, h1, h2⟩ := at_draw (xs := [V.ref p1, V.ref p2, V.ref p3, V.ref p4, V.ref p5, V.ref p6]) ra8 rb8
      simp only [List.mem_cons, List.not_mem_nil, or_false] at h2
      rcases h2 with rfl | rfl | rfl | rfl | rfl | rfl
      · exact ⟨p1, [0, 1, 2], h1, keep (s7 _ _ (s6 _ _ (s5 _ _ (s4 _ _ (s3 _ _ (s2 _ _ e1)))))) np1, rfl, by decide, W.new np1⟩
      · exact ⟨p2, [0, 2, 1], h1, keep (s7 _ _ (s6 _ _ (s5 _ _ (s4 _ _ (s3 _ _ e2))))) (s1.free np2), rfl, by decide, W.new (s1.free np2)⟩
      · exact ⟨p3, [1, 0, 2], h1, keep (s7 _ _ (s6 _ _ (s5 _ _ (s4 _ _ e3)))) ((s1.trans s2).free np3), rfl, by decide, W.new ((s1.trans s2).free np3)⟩
      · exact ⟨p4, [1, 2, 0], h1, keep (s7 _ _ (s6 _ _ (s5 _ _ e4))) (((s1.trans s2).trans s3).free np4), rfl, by decide, W.new (((s1.trans s2).trans s3).free np4)⟩
      · exact ⟨p5, [2, 0, 1], h1, keep (s7 _ _ (s6 _ _ e5)) ((((s1.trans s2).trans s3).trans s4).free np5), rfl, by decide, W.new ((((s1.trans s2).trans s3).trans s4).free np5)⟩
      · exact ⟨p6, [2, 1, 0], h1, keep (s7 _ _ e6) (((((s1.trans s2).trans s3).trans s4).trans s5).free np6), rfl, by decide, W.new (((((s1.trans s2).trans s3).trans s4).trans s5).free np6)⟩
    have e78 := keep e7 ((((((s1.trans s2).trans s3).trans s4).trans s5).trans s6).free np7)
    refine ⟨_, _, _, _, rfl, rfl, SqL.new e78, eo, ?_⟩
    repeat walk_at "s"
    intro p9 np9
    generalize hg9 : upd H8 p9 _ = H9
    have s9 : Same H8 H9 := hg9 ▸ same_new np9
    have e9 := (congrFun hg9 p9).symm.trans upd_same
    clear hg9
    have W9 := W8.same s9
    repeat walk_at "s"
    refine ⟨a, 5, rfl, W9.draws, by decide, fun r10 H10 x10 ra10 rb10 _ => ?_⟩
    have W10 := W9.ext x10
    have m10 : Lv T [a] H H10 := m8.trans ((Lv.same s9).trans (.ext x10 W9.draws (by simp)))
    obtain ⟨k, hk⟩ : ∃ k : Int, atI [V.int 3, V.int 3, V.int 1, V.int 2, V.int 1] r10 = some (.int k) := by
      obtain ⟨x, h1, h2⟩ := at_draw (xs := [V.int 3, V.int 3, V.int 1, V.int 2, V.int 1]) ra10 rb10
      simp only [List.mem_cons, List.not_mem_nil, or_false] at h2
      rcases h2 with rfl | rfl | rfl | rfl | rfl
      all_goals exact ⟨_, h1⟩
    refine ⟨_, _, _, _, rfl, rfl, SqL.new (x10.keep _ _ e9 (DrawAt.ne W8.draws np9)), hk, ?_⟩
    have noa : o ≠ a := fun z => no (by rw [z]; simp)
    have zo10 := x10.keep _ _ (s9 _ _ zo) noa
    refine ⟨k, rfl, ?_⟩
    refine ⟨o, zs.map V.int, rfl, SqL.new zo10, ?_⟩
    obtain ⟨ys, eys, lys, mys⟩ := cut_map (ns := zs) none (some k)
    rw [eys]
    intro p11 np11
    generalize hg11 : upd H10 p11 _ = H11
    have s11 : Same H10 H11 := hg11 ▸ same_new np11
    have e11 := (congrFun hg11 p11).symm.trans upd_same
    clear hg11
    have W11 := W10.same s11
    have m11 : Lv T [a] H H11 := m10.trans (.same s11)
    have mS11 : Lv T (a :: r0 :: r1 :: D :: st :: pl :: M) H H11 := m11.mono fun c hc => by rw [List.mem_singleton.mp hc]; simp
    have n11 : p11 ∉ [a, hd] := fun z => by
      simp only [List.mem_cons, List.not_mem_nil, or_false] at z
      rcases z with z | z
      · exact DrawAt.ne W10.draws np11 z
      · exact W10.new np11 (by rw [z]; simp [hm])
    refine ⟨_, rfl, ⟨_, SqL.new e11⟩, ?_⟩
    refine for_list (K := K) (a := p11) (xs := ys.map V.int) (fun j σ H' => Lv T [a, hd] H11 H' ∧ Wd CL T M H' a g st pl r0 r1 D s hist ∧ (∃ hs', Held (a :: r0 :: r1 :: D :: st :: pl :: M) H' hd hs' ∧ hs'.length ≤ hs.length + j) ∧ ∃ v5 : Option V, σ = [some (.ref a), some (.ref g), some (.ref b), some (.ref hd), some (.ref o), v5]) ⟨.refl, W11, ⟨hs, ⟨?_, ?_⟩, Nat.le_refl _⟩, none, rfl⟩ (fun j σ Hj _ w => SqL.new (w.1.lst e11 n11)) (fun j v σ Hj hv w => ?_) (fun σ Hj w => ?_)
    · exact m11.lst HE.1 (by simp [nha])
    · exact fun e he => (HE.2 e he).lv mS11
    · obtain ⟨mj, Wj, ⟨hs', HEj, lj⟩, v5, rfl⟩ := w
      obtain ⟨y, hy, rfl⟩ := int_at hv
      have jl : j < 3 := by have := (List.getElem?_eq_some_iff.mp hy).1; omega
      have LSj : Lv T (a :: r0 :: r1 :: D :: st :: pl :: M) H Hj := mS11.trans (mj.mono fun c hc => by
        simp only [List.mem_cons, List.not_mem_nil, or_false] at hc
        rcases hc with rfl | rfl
        · simp
        · simp [hm])
      repeat walk_at "s"
      refine ⟨M, a, g, st, pl, r0, r1, D, hd, b, s, hist, hs', y, rfl, Wj, hm, BO.lv LSj, HEj, by omega, fun hs2 H2 m2 W2 HE2 l2 => ?_⟩
      repeat walk_at "s"
      exact ⟨mj.trans m2, W2, ⟨hs2, HE2, by omega⟩, _, rfl⟩
    obtain ⟨mj, Wj, ⟨hs', HEj, lj⟩, v5, rfl⟩ := w
    repeat walk_at "s"
    exact q hs' _ ((m11.mono (by simp)).trans mj) Wj HEj (by rw [List.length_map] at lj; omega)
theorem ok_heldstay {f : Addr} {fd : FuncData} (B : Bt mg) (F : Fun K "_law_held_stay" "_law_held_stay" slaw_held_stay f fd) : FnOk P w K mg base CX0 1 f fd ["held"] spHeldStay := by
  have nd := sclaw_held_stay.nd
  refine F.ok sclaw_held_stay (fun vs H Q E h => ?_) (fun cdv A outer s H vs Q E hr h => ?_)
  · obtain ⟨S, hd, hs, rfl, _⟩ := h
    rfl
  · obtain ⟨S, hd, hs, rfl, HE, q⟩ := h
    have hu := hr.units
    refine ⟨_, (pss_one (ps_ret (pe_cmpR (op_eqD hu) (pe_lc (own := [("told", 1), ("kept", 2)]) (by rfl) nd (pi_list (pv 0)) (blkOk_by (own := [("told", 1), ("kept", 2)]) (N := ["held", "told", "kept"]) (sc := defScope slaw_held_stay) (by decide +kernel)) (fun _ _ _ _ _ => (pg_tupK (K := K) (n := 2) rfl rfl (pgs_cons (pg_name (i := 1) nd rfl (.inl rfl) (.inr rfl)) (pgs_cons (pg_name (i := 2) nd rfl (.inl rfl) (.inr rfl)) pgs_nil)) rfl rfl)) (fun _ _ _ _ _ => (pts_one (pt_cmpR (op_neD_K (K := K) rfl hu) (pe_callTy (call_list_K (K := K) rfl) (by rfl) B.list_ (by decide +kernel) (pa_cons (pv 1) pa_nil)) (pv 2) (nomark _)))) (fun _ _ _ _ _ => pe_int)) (pe_lst pa_nil) (nomark _)))), ?_⟩
    repeat walk_at "s"
    refine ⟨⟨_, SqL.new HE.1⟩, ?_⟩
    intro D2 nD2
    refine lc_list (K := K) (a := hd) (xs := hs.map V.ref) (fun j H' => Same H H' ∧ H' D2 = some (.lst (([] : List Int).map V.int))) ⟨same_new nD2, upd_same⟩ (fun j Hk _ w => w.1.seq (SqL.new HE.1)) (fun j v Hk hv w => ?_) (fun H5 w => ?_)
    · obtain ⟨w1, w2⟩ := w
      obtain ⟨e, he, rfl⟩ := ref_at hv
      obtain ⟨t, k, p, q', p', q2, us, ws, a1, a2, _, _, a3, a4, _, a5, _, _, a6, a7⟩ := HE.2 e (List.mem_of_getElem? he)
      refine ⟨e, _, rfl, .inl (.inl (w1 _ _ a1)), rfl, _, _, rfl, _, _, rfl, rfl, ?_⟩
      repeat walk_at "s"
      refine ⟨rfl, ?_⟩
      repeat walk_at "s"
      refine ⟨_, _, rfl, .inr (.inl (.inl (w1 _ _ a2))), ?_⟩
      intro p3 np3
      generalize hg3 : upd Hk p3 _ = H3
      have s3 : Same Hk H3 := hg3 ▸ same_new np3
      have e3 := (congrFun hg3 p3).symm.trans upd_same
      clear hg3
      repeat walk_at "s"
      have z := w1.trans s3
      refine ⟨_, _, dp_two e3 (SqL.new (z _ _ a3)) (SqL.new (z _ _ a4)), dp_two (z _ _ a5) (SqL.new (z _ _ a6)) (SqL.new (z _ _ a7)), shaped_two _ _, shaped_two _ _, ?_⟩
      rw [eqv_two]
      exact ⟨_, rfl, z, s3 _ _ w2⟩
    obtain ⟨s5, w2⟩ := w
    repeat walk_at "s"
    intro p6 np6
    generalize hg6 : upd H5 p6 _ = H6
    have s6 : Same H5 H6 := hg6 ▸ same_new np6
    have e6 := (congrFun hg6 p6).symm.trans upd_same
    clear hg6
    refine ⟨di [], di [], dp_ints (ns := []) (SqL.new (s6 _ _ w2)), dp_ints (ns := []) (SqL.new e6), shaped_ints _, shaped_ints _, ?_⟩
    rw [eqv_ints, decide_eq_true rfl]
    exact q _ (s5.trans s6)

theorem ok_law49 {CL f : Addr} {fd : FuncData} {T : List (Addr × Str)} (B : Bt mg) (F : Fun K "law" "law" slaw f fd) (cLive___init__ : Ob.CalN P w K mg base 1 CL "Live" ["self", "one", "other"] (spLInit K CL)) (cLive_rows : Ob.CalM P w K mg base 1 CL "rows" ["self"] (spLRows CL)) (cLive_undo : Ob.CalM P w K mg base 3 CL "undo" ["self"] (spLUndo CL)) (claw_draws : Cal P w K mg base 1 "_law_draws" ["script"] (spDraws K))
    (claw_row : Cal P w K mg base 2 "_law_row" ["draws", "most"] spRowD) (claw_start : Cal P w K mg base 3 "_law_start" ["draws"] spStart49) (claw_refused : Cal P w K mg base 8 "_law_refused" ["draws", "live", "both"] (spRefused49 K CL)) (claw_stands : Cal P w K mg base 8 "_law_stands" ["draws", "live", "both", "held"] (spStandsL K CL T)) (claw_good_behind : Cal P w K mg base 8 "_law_good_behind" ["draws", "live", "state"] (spGood49 CL T))
    (claw_deed : Cal P w K mg base 4 "_law_deed" ["draws", "live", "state"] (spDeedB K CL T)) (claw_held_stay : Cal P w K mg base 1 "_law_held_stay" ["held"] spHeldStay) : FnOk P w K mg base CX0 9 f fd ["script"] (spLawT K T) := by
  have nd := sclaw.nd
  refine F.ok sclaw (fun vs H Q E h => ?_) (fun cdv A outer s H vs Q E hr h => ?_)
  · obtain ⟨a, ns, rfl, _⟩ := h
    rfl
  · obtain ⟨sc, ns, rfl, hS, hlen, hTab, q⟩ := h
    have hu := hr.units
    refine ⟨_, (pss_cons (ps_set (i := 1) nd rfl (.inl rfl) (pe_own claw_draws (hr.mono (by decide)) (by rfl) (pa_cons (pv 0) pa_nil)))
      (pss_cons (ps_set (i := 2) nd rfl (.inl rfl) (pe_lst (pa_cons (pe_own claw_start (hr.mono (by decide)) (by rfl) (pa_cons (pv 1) pa_nil)) (pa_cons (pe_own claw_row (hr.mono (by decide)) (by rfl) (pa_cons (pv 1) (pa_cons pe_int pa_nil))) pa_nil))))
      (pss_cons (ps_set (i := 3) nd rfl (.inl rfl) (Ob.pe_n cLive___init__ (hr.mono (by decide)) (by rfl) (pa_cons (pe_callTy call_list_of (by rfl) B.list_ (by decide +kernel) (pa_cons (pe_ix ix_list (pv 2) pe_int (fun _ _ => rfl)) pa_nil)) (pa_cons (pe_callTy call_list_of (by rfl) B.list_ (by decide +kernel) (pa_cons (pe_ix ix_list (pv 2) pe_int (fun _ _ => rfl)) pa_nil)) pa_nil))))
      (pss_cons (ps_set (i := 4) nd rfl (.inl rfl) (pe_lst (pa_cons (pv 2) (pa_cons (pe_lst pa_nil) pa_nil))))
      (pss_cons (ps_set (i := 5) nd rfl (.inl rfl) (pe_lst pa_nil))
      (pss_cons (ps_set (i := 6) nd rfl (.inl rfl) pe_int)
      (pss_cons (ps_while PassesOwn.never (PW.pt (pw_or (pt_cmpR op_lt (pv 6) pe_int (nomark _)) (pw_or1 (PW.pt (pw_and (pt_cmpR (op_neD hu) (pv 1) (pe_lst pa_nil) (nomark _)) (pw_and1 (pt_cmpR op_lt (pv 6) pe_int (nomark _)))))))) (pss_cons (ps_if (PW.pt (pw_or (pt_not (pt_val (pe_own claw_refused (hr.mono (by decide)) (by rfl) (pa_cons (pv 1) (pa_cons (pv 3) (pa_cons (pe_ix ix_list (pv 4) pe_int (fun _ _ => rfl)) pa_nil)))))) (pw_or1 (pt_not (pt_val (pe_own claw_stands (hr.mono (by decide)) (by rfl) (pa_cons (pv 1) (pa_cons (pv 3) (pa_cons (pe_ix ix_list (pv 4) pe_int (fun _ _ => rfl)) (pa_cons (pv 5) pa_nil)))))))))) (pss_one (ps_ret pe_bl)) pss_nil)
      (pss_cons (ps_if (PW.pt (pw_or (pt_not (pt_val (pe_own claw_good_behind (hr.mono (by decide)) (by rfl) (pa_cons (pv 1) (pa_cons (pv 3) (pa_cons (pv 4) pa_nil)))))) (pw_or1 (pt_not (pt_val (pe_own claw_deed (hr.mono (by decide)) (by rfl) (pa_cons (pv 1) (pa_cons (pv 3) (pa_cons (pv 4) pa_nil))))))))) (pss_one (ps_ret pe_bl)) pss_nil)
      (pss_one (ps_set (i := 6) nd rfl (.inl rfl) (pe_op op_add (pv 6) pe_int))))))
      (pss_cons (ps_if (PW.pt (pw_or (pt_not (pt_val (pe_own claw_stands (hr.mono (by decide)) (by rfl) (pa_cons (pv 1) (pa_cons (pv 3) (pa_cons (pe_ix ix_list (pv 4) pe_int (fun _ _ => rfl)) (pa_cons (pv 5) pa_nil))))))) (pw_or1 (pt_not (pt_val (pe_own claw_held_stay (hr.mono (by decide)) (by rfl) (pa_cons (pv 5) pa_nil))))))) (pss_one (ps_ret pe_bl)) pss_nil)
      (pss_cons (ps_for PassesOwn.never rfl (pi_list (pe_revL (pe_ix ix_list (pv 4) pe_int (fun _ _ => rfl)))) (pg_name (i := 7) nd rfl (.inl rfl)) (pss_one (ps_if (PW.pt (pw_or (pt_cmpR op_notBl (Ob.pe_m0 (pv 3) cLive_undo (hr.mono (by decide))) pe_bl (nomark _)) (pw_or1 (pt_cmpR (op_neD hu) (pe_callTy call_list_of (by rfl) B.list_ (by decide +kernel) (pa_cons (Ob.pe_m0 (pv 3) cLive_rows (hr.mono (by decide))) pa_nil)) (pv 7) (nomark _))))) (pss_one (ps_ret pe_bl)) pss_nil)))
      (pss_one (ps_ret (pe_and (pe_cmpR op_isBl (Ob.pe_m0 (pv 3) cLive_undo (hr.mono (by decide))) pe_bl (nomark _)) (pe_one (pe_cmpR (op_eqD hu) (pe_callTy call_list_of (by rfl) B.list_ (by decide +kernel) (pa_cons (Ob.pe_m0 (pv 3) cLive_rows (hr.mono (by decide))) pa_nil)) (pv 2) (nomark _))))))))))))))), ?_⟩
    repeat walk_at "s"
    refine ⟨sc, ns, rfl, hS, hlen, fun a Ha sa na ha => ?_⟩
    have tba := hTab.ext sa
    have h2 : DrawAt Ha a := ha
    have tb2 := tba
    clear ha tba
    repeat walk_at "s"
    intro p us H3 x3 np e3 l3 f3
    have h3 := x3.hand h2
    have npa : p ≠ a := DrawAt.ne h2 np
    repeat walk_at "s"
    refine ⟨a, 300, rfl, h3, by decide, fun u wt H4 x4 nt e4 l4 f4 => ?_⟩
    have h4 := x4.hand h3
    have nua : u ≠ a := DrawAt.ne h3 nt
    have ep4 := x4.keep _ _ e3 npa
    have eu4 := e4
    have tb4 := tabs_draws h2 (x3.trans x4) tb2
    repeat walk_at "s"
    intro p5 np5
    generalize hg5 : upd H4 p5 _ = H5
    have s5 : Same H4 H5 := hg5 ▸ same_new np5
    have e5 := (congrFun hg5 p5).symm.trans upd_same
    clear hg5
    have n5 : p5 ≠ a := DrawAt.ne (by walk_at "hand") np5
    have h5 := h4.same s5
    repeat walk_at "s"
    try refine ⟨_, _, _, _, rfl, rfl, SqL.new e5, at0, ?_⟩
    repeat walk_at "s"
    refine ⟨_, _, rfl, .inl (SqL.new (s5 _ _ ep4)), ?_⟩
    intro p6 np6
    generalize hg6 : upd H5 p6 _ = H6
    have s6 : Same H5 H6 := hg6 ▸ same_new np6
    have e6 := (congrFun hg6 p6).symm.trans upd_same
    clear hg6
    repeat walk_at "s"
    try refine ⟨_, _, _, _, rfl, rfl, SqL.new (s6 _ _ e5), at1, ?_⟩
    repeat walk_at "s"
    have S56 := s5.trans s6
    refine ⟨_, _, rfl, .inl (SqL.new (S56 _ _ eu4)), ?_⟩
    intro p7 np7
    generalize hg7 : upd H6 p7 _ = H7
    have s7 : Same H6 H7 := hg7 ▸ same_new np7
    have e7 := (congrFun hg7 p7).symm.trans upd_same
    clear hg7
    have S7 := S56.trans s7
    have e67 := s7 _ _ e6
    have gd : Gd2 (us, wt) := ⟨f3, f4, by show us.length ≤ 300; omega, by show wt.length ≤ 300; omega⟩
    repeat walk_at "s"
    intro g dx ng nd' ne
    refine live_made (s := (us, wt)) (SqL.new e67) (SqL.new e7) gd ng nd' ne fun r0 r1 D H10 s10 nr0 nr1 nD L10 => ⟨rfl, ?_⟩
    repeat walk_at "s"
    intro p12 np12
    generalize hg12 : upd H10 p12 _ = H12
    have s12 : Same H10 H12 := hg12 ▸ same_new np12
    have e12 := (congrFun hg12 p12).symm.trans upd_same
    clear hg12
    repeat walk_at "s"
    intro p13 np13
    generalize hg13 : upd H12 p13 _ = H13
    have s13 : Same H12 H13 := hg13 ▸ same_new np13
    have e13 := (congrFun hg13 p13).symm.trans upd_same
    clear hg13
    repeat walk_at "s"
    have h7 : DrawAt H7 a := h4.same S7
    have f7 : ∀ {c : Addr} {o : HO}, H7 c = some o → c ≠ r0 ∧ c ≠ r1 ∧ c ≠ D := fun e => ⟨ne_of_none e nr0, ne_of_none e nr1, ne_of_none e nD⟩
    have f10 : ∀ {c : Addr} {o : HO}, H10 c = some o → c ≠ p13 ∧ c ≠ p12 := fun e => ⟨ne_of_none (s12 _ _ e) np13, ne_of_none e np12⟩
    obtain ⟨dx', T', ts', log', R10⟩ := id L10
    obtain ⟨dl, ed7, _⟩ := id h7
    have S13 := s12.trans s13
    have eb7 := s7 _ _ (s6 _ _ e5)
    have ep7 := S7 _ _ ep4
    have eu7 := S7 _ _ eu4
    have tb13 := ((tb4.ext S7).ext s10).ext S13
    have oldS : ∀ {c : Addr} {xs : List V}, H7 c = some (.lst xs) → c ≠ a → c ∉ (a :: r0 :: r1 :: D :: p13 :: p12 :: []) := fun e n z => by
      have y := f7 e
      have v := f10 (s10 _ _ e)
      simp only [List.mem_cons, List.not_mem_nil, or_false] at z
      rcases z with z | z | z | z | z | z
      · exact n z
      · exact y.1 z
      · exact y.2.1 z
      · exact y.2.2 z
      · exact v.1 z
      · exact v.2 z
    have S := s10.trans S13
    have BO : Both (a :: r0 :: r1 :: D :: p13 :: p12 :: []) H13 p5 (us, wt) := ⟨oldS eb7 n5, p, u, S _ _ eb7, oldS ep7 npa, oldS eu7 nua, S _ _ ep7, S _ _ eu7⟩
    have W13 : Wd CL T [] H13 a g p13 p12 r0 r1 D (us, wt) [] := by
      refine ⟨(h7.same s10).same S13, L10.same S13, ⟨p5, [], e13, s13 _ _ e12, BO, rfl, fun j c x h => nomatch h⟩, fun c hc => (nomatch hc), ?_, tb13⟩
      simp only [List.nodup_cons, List.mem_cons, List.not_mem_nil, or_false, not_or, List.nodup_nil, and_true, not_false_eq_true]
      have ea10 := s10 _ _ ed7
      exact ⟨⟨(f7 ed7).1, (f7 ed7).2.1, (f7 ed7).2.2, (f10 ea10).1, (f10 ea10).2⟩, ⟨R10.n01, R10.nD0.symm, (f10 R10.h0).1, (f10 R10.h0).2⟩, ⟨R10.nD1.symm, (f10 R10.h1).1, (f10 R10.h1).2⟩, ⟨(f10 R10.hD).1, (f10 R10.hD).2⟩, Ne.symm (ne_of_none e12 np13)⟩
    have bott : ((us, wt) :: ([] : List R2)).getLast? = some (us, wt) := rfl
    repeat walk_at "s"
    intro p14 np14
    generalize hg14 : upd H13 p14 _ = H14
    have s14 : Same H13 H14 := hg14 ▸ same_new np14
    have e14 := (congrFun hg14 p14).symm.trans upd_same
    clear hg14
    have W14 := W13.add np14 s14 e14
    have BO14 : Both (a :: r0 :: r1 :: D :: p13 :: p12 :: [p14]) H14 p5 (us, wt) := BO.add np14 s14 fun c hc => by
      simp only [List.mem_cons, List.not_mem_nil, or_false] at hc ⊢
      rcases hc with h | h | h | h | h | h | h <;> simp [h]
    have H14h : Held (a :: r0 :: r1 :: D :: p13 :: p12 :: [p14]) H14 p14 [] := ⟨e14, fun e he => nomatch he⟩
    have na14 : p14 ≠ a := DrawAt.ne W13.draws np14
    clear W13 BO
    have bott : ((us, wt) :: ([] : List R2)).getLast? = some (us, wt) := rfl
    have nds := W14.nd
    simp only [List.nodup_cons, List.mem_cons, List.not_mem_nil, or_false, not_or, List.nodup_nil, and_true, not_false_eq_true] at nds
    obtain ⟨⟨na0, na1, naD, nas, nap, na4⟩, ⟨n01, n0D, n0s, n0p, n04⟩, ⟨n1D, n1s, n1p, n14⟩, ⟨nDs, nDp, nD4⟩, ⟨nsp, ns4⟩, np4⟩ := nds
    have hd1 : p14 ∉ [a, r0, r1, D] := by simp; exact ⟨na14, Ne.symm n04, Ne.symm n14, Ne.symm nD4⟩
    have hd2 : p14 ∉ [a, r0, r1, D, p13, p12] := by simp; exact ⟨na14, Ne.symm n04, Ne.symm n14, Ne.symm nD4, Ne.symm ns4, Ne.symm np4⟩
    have sub1 : ∀ c ∈ [a, r0, r1, D], c ∈ (a :: r0 :: r1 :: D :: p13 :: p12 :: [p14]) := fun c h => in4 h
    have sub2 : ∀ c ∈ [a, r0, r1, D, p13, p12], c ∈ (a :: r0 :: r1 :: D :: p13 :: p12 :: [p14]) := fun c h => in6 h
    have sub3 : ∀ c ∈ [a, p14], c ∈ (a :: r0 :: r1 :: D :: p13 :: p12 :: [p14]) := fun c h => by simp at h ⊢; rcases h with h | h <;> simp [h]
    repeat walk_at "s"
    refine ⟨fun m σ H1 => ∃ (k : Nat) (hs : List Addr) (s : R2) (hist : List R2), m = 12 - k ∧ k ≤ 12 ∧ Wd CL T [p14] H1 a g p13 p12 r0 r1 D s hist ∧ Held (a :: r0 :: r1 :: D :: p13 :: p12 :: [p14]) H1 p14 hs ∧ hist.length ≤ k ∧ hs.length ≤ 3 * k ∧ (s :: hist).getLast? = some (us, wt) ∧ Both (a :: r0 :: r1 :: D :: p13 :: p12 :: [p14]) H1 p5 (us, wt) ∧ σ = [some (.ref sc), some (.ref a), some (.ref p5), some (.ref g), some (.ref p13), some (.ref p14), some (.int (k : Int)), none],
      ⟨_, 0, [], _, [], rfl, by decide, W14, H14h, Nat.le_refl _, Nat.le_refl _, bott, BO14, rfl⟩, fun m σ H1 w => ?_⟩
    clear W14 H14h BO14
    obtain ⟨k, hs, s, hist, rfl, hk, W1, HE1, lh, lhs, bt, X1, rfl⟩ := w
    refine test_split (fun H2 => Wd CL T [p14] H2 a g p13 p12 r0 r1 D s hist ∧ Held (a :: r0 :: r1 :: D :: p13 :: p12 :: [p14]) H2 p14 hs ∧ Both (a :: r0 :: r1 :: D :: p13 :: p12 :: [p14]) H2 p5 (us, wt) ∧ k < 12) (fun H2 => Wd CL T [p14] H2 a g p13 p12 r0 r1 D s hist ∧ Held (a :: r0 :: r1 :: D :: p13 :: p12 :: [p14]) H2 p14 hs ∧ Both (a :: r0 :: r1 :: D :: p13 :: p12 :: [p14]) H2 p5 (us, wt)) (fun KK kt kf => ?_) (fun H2 h2 => ?_) (fun H2 h2 => ?_)
    · repeat walk_at "s"
      by_cases c : (k : Int) < 1
      · rw [decide_eq_true c]
        exact kt H1 ⟨W1, HE1, X1, by omega⟩
      · rw [decide_eq_false c]
        refine iteF ?_
        repeat walk_at "s"
        obtain ⟨ds, ed, rd⟩ := W1.draws
        intro p15 np15
        generalize hg15 : upd H1 p15 _ = H15
        have s15 : Same H1 H15 := hg15 ▸ same_new np15
        have e15 := (congrFun hg15 p15).symm.trans upd_same
        clear hg15
        have W15 := W1.same s15
        have X15 := X1.lv (.same s15 : Lv T _ _ _)
        have HE15 := HE1.lv (T := T) (S' := []) (.same s15) (fun _ h => nomatch h) (fun h => nomatch h)
        refine ⟨_, _, dp_ints (SqL.new (s15 _ _ ed)), dp_ints (ns := []) (SqL.new e15), shaped_ints _, shaped_ints _, ?_⟩
        rw [eqv_ints]
        refine ⟨_, rfl, ?_⟩
        by_cases z : ds = []
        · rw [decide_eq_true z]
          exact kf H15 ⟨W15, HE15, X15⟩
        · rw [decide_eq_false z]
          refine iteT ?_
          repeat walk_at "s"
          by_cases c3 : (k : Int) < 12
          · rw [decide_eq_true c3]
            exact kt H15 ⟨W15, HE15, X15, by omega⟩
          · rw [decide_eq_false c3]
            exact kf H15 ⟨W15, HE15, X15⟩
    · obtain ⟨W2, HE2, X2, k12⟩ := h2
      refine iteT ?_
      refine ⟨_, fun σ' H' k => k, ?_⟩
      obtain ⟨b', bs, est, epl, BO, lbs, Bs⟩ := id W2.state
      obtain ⟨nb', pp, qq, eb', npp, nqq, epp, eqq⟩ := id BO
      have ne : ∀ {c : Addr}, c ∉ (a :: r0 :: r1 :: D :: p13 :: p12 :: [p14]) → c ≠ a := fun h z => h (by rw [z]; simp)
      repeat walk_at "s"
      try refine ⟨_, _, _, _, rfl, rfl, SqL.new est, at0, ?_⟩
      repeat walk_at "s"
      refine ⟨a, g, r0, r1, D, b', pp, qq, s, hist, rfl, W2.draws, W2.live, Ne.symm na0, Ne.symm na1, Ne.symm naD, eb', ne nb', ne npp, ne nqq, epp, eqq, fun H3 x3 => ?_⟩
      have W3 := W2.ext x3
      have l3 : Lv T [a] H2 H3 := .ext x3 W2.draws (by simp)
      have L3 : Lv T (a :: r0 :: r1 :: D :: p13 :: p12 :: [p14]) H2 H3 := l3.mono fun c h => by rw [List.mem_singleton.mp h]; simp
      have X3 := X2.lv L3
      have BO3 := BO.lv L3
      have HE3 := HE2.lv l3 (fun c h => by rw [List.mem_singleton.mp h]; simp) (by simpa using na14)
      have est3 := l3.lst est (by simpa using Ne.symm nas)
      repeat walk_at "s"
      try refine ⟨_, _, _, _, rfl, rfl, SqL.new est3, at0, ?_⟩
      repeat walk_at "s"
      refine ⟨[p14], a, g, p13, p12, r0, r1, D, p14, b', s, hist, hs, rfl, W3, by simp, BO3, HE3, by omega, fun hs' H4 m4 W4 HE4 l4 => ?_⟩
      have X4 := X3.lv (m4.mono sub3)
      repeat walk_at "s"
      refine ⟨[p14], a, g, p13, p12, r0, r1, D, s, hist, rfl, W4, by omega, fun H5 m5 W5 => ?_⟩
      have X5 := X4.lv (m5.mono sub1)
      have HE5 := HE4.lv m5 sub1 hd1
      repeat walk_at "s"
      refine ⟨[p14], a, g, p13, p12, r0, r1, D, s, hist, rfl, W5, by omega, fun s' hist' H6 m6 W6 l6 g6 => ?_⟩
      have X6 := X5.lv (m6.mono sub2)
      have HE6 := HE5.lv m6 sub2 hd2
      rw [bt] at g6
      repeat walk_at "s"
      refine ⟨12 - (k + 1), by omega, k + 1, hs', s', hist', rfl, by omega, W6, HE6, by omega, by omega, g6, X6, ?_⟩
      rw [Int.natCast_add]
      rfl
    · obtain ⟨W2, HE2, X2⟩ := h2
      refine iteF ?_
      obtain ⟨b', bs, est, epl, BO, lbs, Bs⟩ := id W2.state
      repeat walk_at "s"
      try refine ⟨_, _, _, _, rfl, rfl, SqL.new est, at0, ?_⟩
      repeat walk_at "s"
      refine ⟨[p14], a, g, p13, p12, r0, r1, D, p14, b', s, hist, hs, rfl, W2, by simp, BO, HE2, by omega, fun hs' H4 m4 W4 HE4 l4 => ?_⟩
      have X4 := X2.lv (m4.mono sub3)
      repeat walk_at "s"
      refine ⟨_, p14, hs', rfl, HE4, fun H5 s5 => ?_⟩
      have W5 := W4.same s5
      have X5 := X4.lv (.same s5 : Lv T _ _ _)
      clear HE4 HE2 W4 X4 BO est epl Bs lbs
      obtain ⟨b', bs, est, epl, BO, lbs, Bs⟩ := id W5.state
      repeat walk_at "s"
      refine ⟨p12, _, rfl, SqL.new epl, ?_⟩
      intro p16 np16
      generalize hg16 : upd H5 p16 _ = H16
      have s16 : Same H5 H16 := hg16 ▸ same_new np16
      have e16 := (congrFun hg16 p16).symm.trans upd_same
      clear hg16
      rw [← List.map_reverse] at e16
      have lr : bs.reverse.length = hist.length := by rw [List.length_reverse, lbs]
      have Rv : ∀ (j : Nat) (c : Addr) (x : R2), bs.reverse[j]? = some c → hist[j]? = some x → Both (a :: r0 :: r1 :: D :: p13 :: p12 :: [p14]) H16 c x := fun j c x h1 h2 => by
        have lj := (List.getElem?_eq_some_iff.mp h2).1
        rw [List.getElem?_reverse (by omega)] at h1
        refine (Bs _ c x h1 ?_).lv (.same s16 : Lv T _ _ _)
        rw [List.getElem?_reverse (by omega), ← h2]
        congr 1
        omega
      have W16 := W5.same s16
      have X16 := X5.lv (.same s16 : Lv T _ _ _)
      have sub0 : ∀ c ∈ [r0, r1, D], c ∈ (a :: r0 :: r1 :: D :: p13 :: p12 :: [p14]) := fun c h => in3 h
      have nR : p16 ∉ [r0, r1, D] := fun h => W5.new np16 (sub0 _ h)
      repeat walk_at "s"
      refine ⟨⟨_, SqL.new e16⟩, ?_⟩
      refine for_list (K := K) (a := p16) (xs := bs.reverse.map V.ref) (fun j σ H' => Lv T [r0, r1, D] H16 H' ∧ ∃ (sj : R2) (v7 : Option V), (s :: hist)[j]? = some sj ∧ LiveAt CL H' g r0 r1 D sj (hist.drop j) ∧ σ = [some (.ref sc), some (.ref a), some (.ref p5), some (.ref g), some (.ref p13), some (.ref p14), some (.int (k : Int)), v7]) ⟨.refl, s, none, rfl, W16.live, rfl⟩ (fun j σ Hj _ w => w.1.seq nR e16) (fun j v σ Hj hv w => ?_) (fun σ Hj w => ?_)
      · obtain ⟨mj, sj, v7, es, Lj, rfl⟩ := w
        obtain ⟨c, hc, rfl⟩ := ref_at hv
        have jl : j < hist.length := by rw [← lr]; exact (List.getElem?_eq_some_iff.mp hc).1
        obtain ⟨x, hx⟩ : ∃ x, hist[j]? = some x := ⟨_, List.getElem?_eq_getElem jl⟩
        have dj : hist.drop j = x :: hist.drop (j + 1) := by
          rw [List.drop_eq_getElem_cons jl]
          congr 1
          exact (List.getElem?_eq_some_iff.mp hx).2
        obtain ⟨dxj, Tj, tsj, logj, Rj⟩ := id Lj
        repeat walk_at "s"
        refine ⟨g, dxj, _, rfl, Rj.hg, rows_no _ _ (by decide +kernel) (by decide +kernel), ?_⟩
        refine ⟨g, r0, r1, D, sj, hist.drop j, rfl, Lj, (fun e => by rw [dj] at e; cases e), fun p rest Hu e mu Lu => ?_⟩
        rw [dj] at e
        obtain ⟨rfl, rfl⟩ := List.cons.inj e
        obtain ⟨dxu, Tu, tsu, logu, Ru⟩ := id Lu
        have mu' := mj.trans (mu T)
        repeat walk_at "s"
        refine ⟨g, dxu, _, rfl, Ru.hg, rows_no _ _ (by decide +kernel) (by decide +kernel), ?_⟩
        refine ⟨g, r0, r1, D, _, _, rfl, Lu, fun t6 p6 u6 H6 s6 nt6 np6 nu6 n66 et6 ep6 eu6 => ?_⟩
        repeat walk_at "s"
        refine ⟨_, _, rfl, .inr (.inl (.inl et6)), ?_⟩
        intro p7 np7
        generalize hg7 : upd H6 p7 _ = H7
        have s7 : Same H6 H7 := hg7 ▸ same_new np7
        have e7 := (congrFun hg7 p7).symm.trans upd_same
        clear hg7
        have m7 := (mu'.trans (.same s6)).trans (.same s7)
        have X7 := (Rv j c _ hc hx).lv (m7.mono sub0)
        repeat walk_at "s"
        refine ⟨_, _, dp_two e7 (SqL.new (s7 _ _ ep6)) (SqL.new (s7 _ _ eu6)), dp_db X7, shaped_two _ _, shaped_two _ _, ?_⟩
        rw [eqv_two]
        refine ⟨_, rfl, ?_⟩
        refine iteF ?_
        exact ⟨m7, _, _, by rw [List.getElem?_cons_succ]; exact hx, (Lu.same s6).same s7, rfl⟩
      obtain ⟨mj, sj, v7, es, Lj, rfl⟩ := w
      rw [List.length_map, lr] at es Lj
      rw [List.drop_length] at Lj
      have esj : sj = (us, wt) := by
        rw [List.getLast?_eq_getElem?, List.length_cons, Nat.add_sub_cancel] at bt
        rw [bt] at es
        exact (Option.some.inj es).symm
      subst esj
      have Xj := X16.lv (mj.mono sub0)
      obtain ⟨dxj, Tj, tsj, logj, Rj⟩ := id Lj
      repeat walk_at "s"
      refine ⟨g, dxj, _, rfl, Rj.hg, rows_no _ _ (by decide +kernel) (by decide +kernel), ?_⟩
      refine ⟨g, r0, r1, D, (us, wt), [], rfl, Lj, fun _ => ?_, fun p9 rest9 H9 e => nomatch e⟩
      repeat walk_at "s"
      refine ⟨g, dxj, _, rfl, Rj.hg, rows_no _ _ (by decide +kernel) (by decide +kernel), ?_⟩
      refine ⟨g, r0, r1, D, (us, wt), [], rfl, Lj, fun t6 p6 u6 H6 s6 nt6 np6 nu6 n66 et6 ep6 eu6 => ?_⟩
      repeat walk_at "s"
      refine ⟨_, _, rfl, .inr (.inl (.inl et6)), ?_⟩
      intro p7 np7
      generalize hg7 : upd H6 p7 _ = H7
      have s7 : Same H6 H7 := hg7 ▸ same_new np7
      have e7 := (congrFun hg7 p7).symm.trans upd_same
      clear hg7
      have X7 := (Xj.lv (.same s6 : Lv T _ _ _)).lv (.same s7 : Lv T _ _ _)
      repeat walk_at "s"
      refine ⟨_, _, dp_two e7 (SqL.new (s7 _ _ ep6)) (SqL.new (s7 _ _ eu6)), dp_db X7, shaped_two _ _, shaped_two _ _, ?_⟩
      rw [eqv_two]
      exact q _

theorem ok_rowd {f : Addr} {fd : FuncData} (B : Bt mg) (F : Fun K "_law_row" "_law_row" slaw_row f fd) (claw_take : Cal P w K mg base 1 "_law_take" ["draws", "many"] spTake) : FnOk P w K mg base CX0 2 f fd ["draws", "most"] spRowD := by
  have nd := sclaw_row.nd
  refine F.ok sclaw_row (fun vs H Q E h => ?_) (fun cdv A outer s H vs Q E hr h => ?_)
  · obtain ⟨a, m, rfl, _⟩ := h
    rfl
  · obtain ⟨a, M, rfl, h0, hM, q⟩ := h
    have hu := hr.units
    have t15 : (10 : Int) ^ Int.toNat 15 = 1000000000000000 := by decide
    have t12 : (10 : Int) ^ Int.toNat 12 = 1000000000000 := by decide
    have t6 : (10 : Int) ^ Int.toNat 6 = 1000000 := by decide
    refine ⟨_, (pss_cons (ps_set (i := 2) nd rfl (.inl rfl) (pe_callB (call_min2 rfl) (by rfl) B.min_ (by decide +kernel) (pa_cons (pv 1) (pa_cons (pe_own claw_take (hr.mono (by decide)) (by rfl) (pa_cons (pv 0) (pa_cons pe_int pa_nil))) pa_nil))))
      (Evl.pss_cut (ps_if (pt_cmpR op_eq (pe_own claw_take (hr.mono (by decide)) (by rfl) (pa_cons (pv 0) (pa_cons pe_int pa_nil))) pe_int (nomark _)) (pss_one (ps_set (i := 2) nd rfl (.inl rfl) (pe_ix ix_list (pe_lst (pa_cons (pv 1) (pa_cons (pe_own claw_take (hr.mono (by decide)) (by rfl) (pa_cons (pv 0) (pa_cons (pe_op op_add (pv 1) pe_int) pa_nil))) pa_nil))) (pe_own claw_take (hr.mono (by decide)) (by rfl) (pa_cons (pv 0) (pa_cons pe_int pa_nil))) (fun _ _ => rfl)))) pss_nil)
      (pss_cons (ps_set (i := 3) nd rfl (.inl rfl) (pe_lst (pa_cons pe_int (pa_cons pe_int (pa_cons pe_int (pa_cons pe_int (pa_cons pe_int (pa_cons (pe_op op_pow pe_int pe_int) (pa_cons (pe_op op_pow pe_int pe_int) (pa_cons (pe_op op_fdivW (pe_op op_pow pe_int pe_int) pe_int) pa_nil))))))))))
      (pss_cons (ps_set (i := 4) nd rfl (.inl rfl) (pe_ix ix_list (pv 3) (pe_own claw_take (hr.mono (by decide)) (by rfl) (pa_cons (pv 0) (pa_cons pe_int pa_nil))) (fun _ _ => rfl)))
      (pss_cons (ps_set (i := 5) nd rfl (.inl rfl) (pe_cmpR op_eq (pe_own claw_take (hr.mono (by decide)) (by rfl) (pa_cons (pv 0) (pa_cons pe_int pa_nil))) pe_int (nomark _)))
      (pss_cons (ps_set (i := 6) nd rfl (.inl rfl) (pe_op op_sub (pv 4) pe_int))
      (Evl.pss_cut (ps_if (PW.pt (pw_or (pt_val (pv 5)) (pw_or1 (pt_cmpR op_gt (pv 4) pe_int (nomark _))))) (pss_one (ps_set (i := 6) nd rfl (.inl rfl) (pe_ix ix_list (pv 3) pe_int (fun _ _ => rfl)))) pss_nil)
      (pss_cons (ps_set (i := 7) nd rfl (.inl rfl) (pe_op op_mulW (pe_op op_sub (pe_own claw_take (hr.mono (by decide)) (by rfl) (pa_cons (pv 0) (pa_cons pe_int pa_nil))) pe_int) (pe_ix ix_list (pe_lst (pa_cons pe_int (pa_cons pe_int (pa_cons (pe_op op_pow pe_int pe_int) (pa_cons (pe_op op_sub (pe_op op_pow pe_int pe_int) pe_int) pa_nil))))) (pe_own claw_take (hr.mono (by decide)) (by rfl) (pa_cons (pv 0) (pa_cons pe_int pa_nil))) (fun _ _ => rfl))))
      (pss_cons (ps_set (i := 8) nd rfl (.inl rfl) (pe_op op_sub (pe_op op_pow pe_int pe_int) (pe_op op_mulW (pv 6) (pv 2))))
      (pss_cons (ps_set (i := 7) nd rfl (.inl rfl) (pe_ix ix_list (pe_lst (pa_cons (pe_callB (call_min2 rfl) (by rfl) B.min_ (by decide +kernel) (pa_cons (pv 8) (pa_cons (pv 7) pa_nil))) (pa_cons (pe_op op_sub pe_int (pe_op op_pow pe_int pe_int)) (pa_cons (pv 8) (pa_cons (pe_op op_sub (pe_own claw_take (hr.mono (by decide)) (by rfl) (pa_cons (pv 0) (pa_cons pe_int pa_nil))) pe_int) pa_nil))))) (pe_own claw_take (hr.mono (by decide)) (by rfl) (pa_cons (pv 0) (pa_cons pe_int pa_nil))) (fun _ _ => rfl)))
      (pss_cons (ps_set (i := 9) nd rfl (.inl rfl) (pe_own claw_take (hr.mono (by decide)) (by rfl) (pa_cons (pv 0) (pa_cons pe_int pa_nil))))
      (pss_cons (ps_set (i := 10) nd rfl (.inl rfl) (pe_op op_add pe_int (pe_own claw_take (hr.mono (by decide)) (by rfl) (pa_cons (pv 0) (pa_cons pe_int pa_nil)))))
      (pss_cons (ps_set (i := 11) nd rfl (.inl rfl) (pe_ix ix_list (pe_lst (pa_cons pe_int (pa_cons pe_int (pa_cons (pe_op op_add pe_int (pe_own claw_take (hr.mono (by decide)) (by rfl) (pa_cons (pv 0) (pa_cons pe_int pa_nil)))) pa_nil)))) (pe_own claw_take (hr.mono (by decide)) (by rfl) (pa_cons (pv 0) (pa_cons pe_int pa_nil))) (fun _ _ => rfl)))
      (pss_cons (ps_set (i := 12) nd rfl (.inl rfl) (pe_lst pa_nil))
      (pss_cons (ps_for PassesOwn.never rfl (pi_range1 (by rfl) B.range_ (pa_cons (pv 2) pa_nil)) (pg_name (i := 13) nd rfl (.inl rfl)) (pss_cons (ps_set (i := 14) nd rfl (.inl rfl) (pe_op op_mod (pe_op op_add (pe_op op_add (pe_op op_mulW (pe_op op_mulW (pv 13) (pv 13)) (pv 9)) (pe_op op_mulW (pv 13) (pv 10))) (pe_op op_mulW (pe_op op_fdivW (pv 13) pe_int) pe_int)) pe_int))
      (Evl.pss_cut (ps_if (pt_val (pv 5)) (pss_one (ps_set (i := 4) nd rfl (.inl rfl) (pe_ix ix_list (pv 3) (pe_op op_mod (pe_op op_add (pv 14) (pe_op op_mulW (pv 13) (pv 13))) pe_int) (fun _ _ => rfl)))) pss_nil)
      (Evl.pss_cut (ps_if (pt_cmpR op_lt (pv 2) pe_int (nomark _)) (pss_one (ps_set (i := 14) nd rfl (.inl rfl) (pe_own claw_take (hr.mono (by decide)) (by rfl) (pa_cons (pv 0) (pa_cons pe_int pa_nil))))) pss_nil)
      (Evl.pss_cut (ps_if (PW.pt (pw_or (pt_cmpR op_lt (pv 2) pe_int (nomark _)) (pw_or1 (pt_cmpR op_eq (pe_op op_mod (pv 13) (pv 11)) pe_int (nomark _))))) (pss_one (ps_set (i := 7) nd rfl (.inl rfl) (pe_op op_add (pv 7) (pe_ix ix_list (pe_lst (pa_cons (pe_op op_mod (pv 14) (pv 4)) (pa_cons (pe_op op_add (pe_op op_mulW (pv 14) (pe_op op_fdivW (pv 4) pe_int)) (pe_op op_mod (pv 14) pe_int)) pa_nil))) (pe_callTy call_int1 (by rfl) B.int_ (by decide +kernel) (pa_cons (pe_cmpR op_gt (pv 4) pe_int (nomark _)) pa_nil)) (fun _ _ => rfl))))) pss_nil)
      (pss_one (ps_expr (pe_bm PySem.F.plainAttrs_list PySem.F.slot_list_append PySem.F.type_list_append mt_append (pv 12) (pa_cons (pv 7) pa_nil)))))))))
      (pss_one (ps_ret (pv 12)))))))))))))))))), ?_⟩
    repeat walk_at "s"
    refine ⟨a, _, rfl, (by walk_at "hand"), (by walk_at "pos"), ?_⟩
    intro r1 H1 x1 ra1 rb1 rc1
    refine ⟨_, _, rfl, ?_⟩
    obtain ⟨m1, hm1, b1⟩ : ∃ k : Nat, (if r1 < (M : Int) then r1 else (M : Int)) = (k : Int) ∧ k ≤ M := by
      split
      · exact ⟨r1.toNat, by omega, by omega⟩
      · exact ⟨M, rfl, Nat.le_refl _⟩
    rw [hm1]
    -- many
    refine ⟨fun σ' H' => ∃ (m : Nat), m ≤ M ∧ ExtD a H H' ∧ σ' = [some (.ref a), some (.int (M : Int)), some (.int (m : Int)), none, none, none, none, none, none, none, none, none, none, none, none], ?_, ?_⟩
    · repeat walk_at "s"
      refine ⟨a, _, rfl, (by walk_at "hand"), (by walk_at "pos"), ?_⟩
      intro r2 H2 x2 ra2 rb2 rc2
      repeat walk_at "s"
      refine ⟨rfl, _, rfl, ?_⟩
      refine ite2 (fun z => ?_) (fun z => ?_)
      · repeat walk_at "s"
        refine ⟨a, _, rfl, (by walk_at "hand"), (by walk_at "pos"), ?_⟩
        intro r3 H3 x3 ra3 rb3 rc3
        repeat walk_at "s"
        intro p4 np4
        generalize hg4 : upd H3 p4 _ = H4
        have s4 : Same H3 H4 := hg4 ▸ same_new np4
        have e4 := (congrFun hg4 p4).symm.trans upd_same
        clear hg4
        have n4 : p4 ≠ a := DrawAt.ne (by walk_at "hand") np4
        repeat walk_at "s"
        refine ⟨a, _, rfl, (by walk_at "hand"), (by walk_at "pos"), ?_⟩
        intro r5 H5 x5 ra5 rb5 rc5
        obtain ⟨m2, hm2, b2⟩ : ∃ k : Nat, atI [V.int (M : Int), V.int r3] r5 = some (.int (k : Int)) ∧ k ≤ M := by
          obtain ⟨x, h1, h2⟩ := at_draw (xs := [V.int (M : Int), V.int r3]) ra5 rb5
          simp only [List.mem_cons, List.not_mem_nil, or_false] at h2
          rcases h2 with rfl | rfl
          · exact ⟨M, h1, Nat.le_refl _⟩
          · exact ⟨r3.toNat, by rw [show ((r3.toNat : Nat) : Int) = r3 from by omega]; exact h1, by omega⟩
        refine ⟨_, _, _, _, rfl, rfl, SqL.new (x5.keep _ _ e4 n4), hm2, ?_⟩
        exact ⟨m2, b2, (((x1.trans x2).trans x3).trans (.same s4)).trans x5, rfl⟩
      · exact ⟨m1, b1, x1.trans x2, rfl⟩
    rintro σ' H5 ⟨m, bm, X5, rfl⟩
    have h5 := X5.hand h0
    -- bases
    repeat walk_at "s"
    intro p6 np6
    generalize hg6 : upd H5 p6 _ = H6
    have s6 : Same H5 H6 := hg6 ▸ same_new np6
    have e6 := (congrFun hg6 p6).symm.trans upd_same
    clear hg6
    have n6 : p6 ≠ a := DrawAt.ne (by walk_at "hand") np6
    have e6' : H6 p6 = some (.lst (baseL.map V.int)) := e6
    clear e6
    repeat walk_at "s"
    refine ⟨a, _, rfl, (by walk_at "hand"), (by walk_at "pos"), ?_⟩
    intro r7 H7 x7 ra7 rb7 rc7
    obtain ⟨b, hb, mb⟩ : ∃ b : Int, atI (baseL.map V.int) r7 = some (.int b) ∧ b ∈ baseL := by
      obtain ⟨x, h1, h2⟩ := at_draw (xs := baseL.map V.int) ra7 rb7
      obtain ⟨b, hb, rfl⟩ := List.mem_map.mp h2
      exact ⟨b, h1, hb⟩
    have e67 := x7.keep _ _ e6' n6
    refine ⟨_, _, _, _, rfl, rfl, SqL.new e67, hb, ?_⟩
    repeat walk_at "s"
    refine ⟨a, _, rfl, (by walk_at "hand"), (by walk_at "pos"), ?_⟩
    intro r8 H8 x8 ra8 rb8 rc8
    repeat walk_at "s"
    refine ⟨rfl, ?_⟩
    repeat walk_at "s"
    obtain ⟨mx, hmx⟩ : ∃ c : Bool, decide (V.int r8 = V.int 1) = c := ⟨_, rfl⟩
    rw [hmx]
    have X8 : ExtD a H H8 := ((X5.trans (.same s6)).trans x7).trans x8
    have e68 := x8.keep _ _ e67 n6
    -- most_step
    refine ⟨fun σ' H' => ∃ ms : Int, H' = H8 ∧ OkB b ms ∧ (mx = true → ms = 3322259136212) ∧ 0 ≤ ms ∧ ms ≤ 3322259136212 ∧ σ' = [some (.ref a), some (.int (M : Int)), some (.int (m : Int)), some (.ref p6), some (.int b), some (.bl mx), some (.int ms), none, none, none, none, none, none, none, none], ?_, ?_⟩
    · have ok := okB_big mb
      have at7 : atI (baseL.map V.int) 7 = some (.int 3322259136212) := atI_nat (j := 7) rfl
      repeat walk_at "s"
      cases mx with
      | true =>
        refine iteT ?_
        repeat walk_at "s"
        refine ⟨_, _, _, _, rfl, rfl, SqL.new e68, at7, ?_⟩
        exact ⟨_, rfl, ok, fun _ => rfl, by decide, by decide, rfl⟩
      | false =>
        refine iteF ?_
        repeat walk_at "s"
        refine ite2 (fun z => ?_) (fun z => ?_)
        · repeat walk_at "s"
          refine ⟨_, _, _, _, rfl, rfl, SqL.new e68, at7, ?_⟩
          exact ⟨_, rfl, ok, fun _ => rfl, by decide, by decide, rfl⟩
        · have z1 : ¬ 1000 < b := fun k => z (decide_eq_true k)
          have pos : 0 < b ∧ b ≤ 1000 := by
            rcases ok with ⟨k1, k2, _⟩ | ⟨k1, _⟩
            · exact ⟨k1, k2⟩
            · omega
          exact ⟨b - 1, rfl, .inl ⟨pos.1, pos.2, Int.le_refl _⟩, (fun k => nomatch k), by omega, by omega, rfl⟩
    rintro σ' H8' ⟨ms, hH, okb, hms, ms0, ms1, rfl⟩
    have hH := hH.symm
    subst hH
    -- number
    have tm := Int.mul_le_mul ms1 (show (m : Int) ≤ 300 by omega) (show 0 ≤ (m : Int) by omega) (by decide)
    have tm0 := Int.mul_nonneg ms0 (show 0 ≤ (m : Int) by omega)
    obtain ⟨top, htop⟩ : ∃ t : Int, 1000000000000000 - ms * (m : Int) = t := ⟨_, rfl⟩
    have htop' : (10 : Int) ^ Int.toNat 15 - ms * (m : Int) = top := by rw [t15]; exact htop
    repeat walk_at "s"
    refine ⟨a, _, rfl, (by walk_at "hand"), (by walk_at "pos"), ?_⟩
    intro r9 H9 x9 ra9 rb9 rc9
    repeat walk_at "s"
    intro p10 np10
    generalize hg10 : upd H9 p10 _ = H10
    have s10 : Same H9 H10 := hg10 ▸ same_new np10
    have e10 := (congrFun hg10 p10).symm.trans upd_same
    clear hg10
    have n10 : p10 ≠ a := DrawAt.ne (by walk_at "hand") np10
    repeat walk_at "s"
    refine ⟨a, _, rfl, (by walk_at "hand"), (by walk_at "pos"), ?_⟩
    intro r11 H11 x11 ra11 rb11 rc11
    obtain ⟨c1, hc1, c10, c11⟩ : ∃ k : Int, atI [V.int 1, V.int 1000, V.int (10 ^ Int.toNat 6), V.int (10 ^ Int.toNat 12 - 1)] r11 = some (.int k) ∧ 0 ≤ k ∧ k ≤ 999999999999 := by
      obtain ⟨x, h1, h2⟩ := at_draw (xs := [V.int 1, V.int 1000, V.int (10 ^ Int.toNat 6), V.int (10 ^ Int.toNat 12 - 1)]) ra11 rb11
      simp only [List.mem_cons, List.not_mem_nil, or_false] at h2
      rcases h2 with rfl | rfl | rfl | rfl
      all_goals exact ⟨_, h1, by decide, by decide⟩
    refine ⟨_, _, _, _, rfl, rfl, SqL.new (x11.keep _ _ e10 n10), hc1, ?_⟩
    repeat walk_at "s"
    have lowp : -1000000000000000 ≤ (r9 - 500) * c1 := by
      by_cases k : 0 ≤ r9 - 500
      · have := Int.mul_nonneg k c10
        omega
      · have k2 := Int.mul_le_mul_of_nonneg_left c11 (show 0 ≤ 500 - r9 by omega)
        have k3 := Int.mul_le_mul_of_nonneg_right (show 500 - r9 ≤ 500 by omega) (show (0 : Int) ≤ 999999999999 by decide)
        have k4 : (r9 - 500) * c1 = -((500 - r9) * c1) := by rw [← Int.neg_mul]; congr 1; omega
        omega
    -- top, number
    dsimp only
    rw [htop']
    repeat walk_at "s"
    refine ⟨_, _, rfl, ?_⟩
    obtain ⟨n0, hn0, n01, n02⟩ : ∃ k : Int, (if (r9 - 500) * c1 < top then (r9 - 500) * c1 else top) = k ∧ -1000000000000000 ≤ k ∧ k ≤ top := ⟨_, rfl, by split <;> omega, by split <;> omega⟩
    rw [hn0]
    repeat walk_at "s"
    refine ⟨a, _, rfl, (by walk_at "hand"), (by walk_at "pos"), ?_⟩
    intro r12 H12 x12 ra12 rb12 rc12
    repeat walk_at "s"
    intro p13 np13
    generalize hg13 : upd H12 p13 _ = H13
    have s13 : Same H12 H13 := hg13 ▸ same_new np13
    have e13 := (congrFun hg13 p13).symm.trans upd_same
    clear hg13
    have n13 : p13 ≠ a := DrawAt.ne (by walk_at "hand") np13
    repeat walk_at "s"
    refine ⟨a, _, rfl, (by walk_at "hand"), (by walk_at "pos"), ?_⟩
    intro r14 H14 x14 ra14 rb14 rc14
    obtain ⟨n1, hn1, n11, n12⟩ : ∃ k : Int, atI [V.int n0, V.int (0 - 10 ^ Int.toNat 15), V.int top, V.int (r12 - 10)] r14 = some (.int k) ∧ -1000000000000000 ≤ k ∧ k ≤ top := by
      obtain ⟨x, h1, h2⟩ := at_draw (xs := [V.int n0, V.int (0 - 10 ^ Int.toNat 15), V.int top, V.int (r12 - 10)]) ra14 rb14
      simp only [List.mem_cons, List.not_mem_nil, or_false] at h2
      rcases h2 with rfl | rfl | rfl | rfl
      · exact ⟨_, h1, n01, n02⟩
      · exact ⟨_, h1, by omega, by omega⟩
      · exact ⟨_, h1, by omega, Int.le_refl _⟩
      · exact ⟨_, h1, by omega, by omega⟩
    refine ⟨_, _, _, _, rfl, rfl, SqL.new (x14.keep _ _ e13 n13), hn1, ?_⟩
    -- one, other, likes
    repeat walk_at "s"
    refine ⟨a, _, rfl, (by walk_at "hand"), (by walk_at "pos"), ?_⟩
    intro r15 H15 x15 ra15 rb15 rc15
    repeat walk_at "s"
    refine ⟨a, _, rfl, (by walk_at "hand"), (by walk_at "pos"), ?_⟩
    intro r16 H16 x16 ra16 rb16 rc16
    repeat walk_at "s"
    refine ⟨a, _, rfl, (by walk_at "hand"), (by walk_at "pos"), ?_⟩
    intro r17 H17 x17 ra17 rb17 rc17
    repeat walk_at "s"
    intro p18 np18
    generalize hg18 : upd H17 p18 _ = H18
    have s18 : Same H17 H18 := hg18 ▸ same_new np18
    have e18 := (congrFun hg18 p18).symm.trans upd_same
    clear hg18
    have n18 : p18 ≠ a := DrawAt.ne (by walk_at "hand") np18
    repeat walk_at "s"
    refine ⟨a, _, rfl, (by walk_at "hand"), (by walk_at "pos"), ?_⟩
    intro r19 H19 x19 ra19 rb19 rc19
    obtain ⟨lk, hlk, lk0⟩ : ∃ k : Int, atI [V.int 1, V.int 1, V.int (1 + r17)] r19 = some (.int k) ∧ 0 < k := by
      obtain ⟨x, h1, h2⟩ := at_draw (xs := [V.int 1, V.int 1, V.int (1 + r17)]) ra19 rb19
      simp only [List.mem_cons, List.not_mem_nil, or_false] at h2
      rcases h2 with rfl | rfl | rfl
      all_goals exact ⟨_, h1, by omega⟩
    refine ⟨_, _, _, _, rfl, rfl, SqL.new (x19.keep _ _ e18 n18), hlk, ?_⟩
    repeat walk_at "s"
    intro p20 np20
    generalize hg20 : upd H19 p20 _ = H20
    have s20 : Same H19 H20 := hg20 ▸ same_new np20
    have e20 := (congrFun hg20 p20).symm.trans upd_same
    clear hg20
    have n20 : p20 ≠ a := DrawAt.ne (by walk_at "hand") np20
    have X8b : ExtD a H8 H19 := (((((((((x9.trans (.same s10)).trans x11).trans x12).trans (.same s13)).trans x14).trans x15).trans x16).trans x17).trans (.same s18)).trans x19
    have X19 : ExtD a H H19 := X8.trans X8b
    have e6b := X8b.keep _ _ e68 n6
    have h19 := X19.hand h0
    have at7 : ∀ r : Int, 0 ≤ r → r < 8 → ∃ b : Int, atI (baseL.map V.int) r = some (.int b) ∧ b ∈ baseL := fun r ra rb => by
      obtain ⟨x, h1, h2⟩ := at_draw (xs := baseL.map V.int) ra rb
      obtain ⟨b, hb, rfl⟩ := List.mem_map.mp h2
      exact ⟨b, h1, hb⟩
    refine ⟨_, rfl, ?_⟩
    clear ra1 rb1 rc1 ra7 rb7 rc7 ra8 rb8 rc8 ra9 rb9 rc9 ra11 rb11 rc11 ra12 rb12 rc12 ra14 rb14 rc14 rb15 rb16 ra17 rb17 rc17 ra19 rb19 rc19 hc1 c10 c11 lowp hn0 n01 n02 hlk hn1 tm htop' t15 t12 t6 hb mb
    refine ⟨(m : Int), rfl, by omega, by omega, ?_⟩
    refine for_range (lo := 0) (n := m) (fun i σ H' => ∃ (b' num : Int) (fs : List Int) (v13 v14 : Option V), ExtD a H19 H' ∧ H' p20 = some (.lst (fs.map V.int)) ∧ OkB b' ms ∧ -1000000000000000 ≤ num ∧ num ≤ top + ms * (i : Int) ∧ fs.Pairwise (· ≤ ·) ∧ (∀ x ∈ fs, -1000000000000000 ≤ x ∧ x ≤ num) ∧ fs.length = i ∧ σ = [some (.ref a), some (.int (M : Int)), some (.int (m : Int)), some (.ref p6), some (.int b'), some (.bl mx), some (.int ms), some (.int num), some (.int top), some (.int r15), some (.int (1 + r16)), some (.int lk), some (.ref p20), v13, v14])
      ⟨b, n1, [], none, none, .same s20, e20, okb, n11, by omega, List.Pairwise.nil, (fun _ z => nomatch z), rfl, rfl⟩ (fun i σ Hi hi w => ?_) (fun σ Hi w => ?_)
    · obtain ⟨b', num, fs, v13, v14, Xi, eF, okb', nl, nu, srt, bnd, lf, rfl⟩ := w
      have hi' : (i : Int) < (m : Int) := by omega
      have hi3 : (0 : Int) + (i : Int) ≤ 300 := by omega
      have kk0 : 0 ≤ ((0 : Int) + (i : Int)) * (0 + (i : Int)) := Int.mul_nonneg (by omega) (by omega)
      have kk1 : ((0 : Int) + (i : Int)) * (0 + (i : Int)) ≤ 300 * 300 := Int.mul_le_mul hi3 hi3 (by omega) (by decide)
      repeat walk_at "s"
      -- base
      refine ⟨fun σ' H' => ∃ (b2 t : Int), H' = Hi ∧ OkB b2 ms ∧ 0 ≤ t ∧ t < 9973 ∧ σ' = [some (.ref a), some (.int (M : Int)), some (.int (m : Int)), some (.ref p6), some (.int b2), some (.bl mx), some (.int ms), some (.int num), some (.int top), some (.int r15), some (.int (1 + r16)), some (.int lk), some (.ref p20), some (.int (0 + (i : Int))), some (.int t)], ?_, ?_⟩
      · have tm0 := fun (u : Int) => Int.emod_nonneg u (show (9973 : Int) ≠ 0 by decide)
        have tm1 := fun (u : Int) => Int.emod_lt_of_pos u (show (0 : Int) < 9973 by decide)
        repeat walk_at "s"
        cases mx with
        | true =>
          refine iteT ?_
          repeat walk_at "s"
          obtain ⟨b2, hb2, mb2⟩ := at7 _ (Int.emod_nonneg _ (by decide)) (Int.emod_lt_of_pos _ (by decide))
          refine ⟨_, _, _, _, rfl, rfl, SqL.new (Xi.keep _ _ e6b n6), hb2, ?_⟩
          exact ⟨b2, _, rfl, by rw [hms rfl]; exact okB_big mb2, tm0 _, tm1 _, rfl⟩
        | false =>
          refine iteF ?_
          exact ⟨b', _, rfl, okb', tm0 _, tm1 _, rfl⟩
      rintro σ' Hj ⟨b2, t, hHj, okb2, t0, t1, rfl⟩
      have hHj := hHj.symm
      subst hHj
      have hand := Xi.hand h19
      -- turn
      refine ⟨fun σ' H' => ∃ (t : Int), ExtD a Hi H' ∧ 0 ≤ t ∧ t < 9973 ∧ σ' = [some (.ref a), some (.int (M : Int)), some (.int (m : Int)), some (.ref p6), some (.int b2), some (.bl mx), some (.int ms), some (.int num), some (.int top), some (.int r15), some (.int (1 + r16)), some (.int lk), some (.ref p20), some (.int (0 + (i : Int))), some (.int t)], ?_, ?_⟩
      · repeat walk_at "s"
        refine ite2 (fun z => ?_) (fun z => ?_)
        · repeat walk_at "s"
          refine ⟨a, _, rfl, (by walk_at "hand"), (by walk_at "pos"), ?_⟩
          intro r21 H21 x21 ra21 rb21 rc21
          exact ⟨r21, x21, ra21, by omega, rfl⟩
        · exact ⟨t, .refl, t0, t1, rfl⟩
      rintro σ' Hk ⟨u, xk, u0, u1, rfl⟩
      have handk := xk.hand hand
      have eFk := xk.keep _ _ eF n20
      obtain ⟨st, hst, st0, st1⟩ := okB_step okb2 u0 u1
      have b2pos : 0 < b2 := by rcases okb2 with ⟨k, _⟩ | ⟨k, _⟩ <;> omega
      have b2top : b2 ≤ 3322259136212 := by rcases okb2 with ⟨_, k, _⟩ | ⟨_, k⟩ <;> omega
      -- number
      refine ⟨fun σ' H' => ∃ (n2 : Int), ExtD a Hi H' ∧ num ≤ n2 ∧ n2 ≤ num + ms ∧ σ' = [some (.ref a), some (.int (M : Int)), some (.int (m : Int)), some (.ref p6), some (.int b2), some (.bl mx), some (.int ms), some (.int n2), some (.int top), some (.int r15), some (.int (1 + r16)), some (.int lk), some (.ref p20), some (.int (0 + (i : Int))), some (.int u)], ?_, ?_⟩
      · repeat walk_at "s"
        refine ite2 (fun z => ?_) (fun z => ?_)
        · refine iteT ?_
          repeat walk_at "s"
          intro p22 np22
          generalize hg22 : upd Hk p22 _ = H22
          have s22 : Same Hk H22 := hg22 ▸ same_new np22
          have e22 := (congrFun hg22 p22).symm.trans upd_same
          clear hg22
          have n22 : p22 ≠ a := DrawAt.ne (by walk_at "hand") np22
          repeat walk_at "s"
          refine .inr ⟨_, rfl, ?_⟩
          refine ⟨_, _, _, _, rfl, rfl, SqL.new e22, hst, ?_⟩
          refine ⟨_, _, rfl, rfl, ?_⟩
          exact ⟨num + st, xk.trans (.same s22), by omega, by omega, rfl⟩
        · repeat walk_at "s"
          refine ⟨rfl, _, rfl, ?_⟩
          refine ite2 (fun z => ?_) (fun z => ?_)
          · repeat walk_at "s"
            intro p22 np22
            generalize hg22 : upd Hk p22 _ = H22
            have s22 : Same Hk H22 := hg22 ▸ same_new np22
            have e22 := (congrFun hg22 p22).symm.trans upd_same
            clear hg22
            have n22 : p22 ≠ a := DrawAt.ne (by walk_at "hand") np22
            repeat walk_at "s"
            refine .inr ⟨_, rfl, ?_⟩
            refine ⟨_, _, _, _, rfl, rfl, SqL.new e22, hst, ?_⟩
            refine ⟨_, _, rfl, rfl, ?_⟩
            exact ⟨num + st, xk.trans (.same s22), by omega, by omega, rfl⟩
          · exact ⟨num, xk, by omega, by omega, rfl⟩
      rintro σ' Hl ⟨n2, xl, nn1, nn2, rfl⟩
      have eFl := xl.keep _ _ eF n20
      have Xl := Xi.trans xl
      have ms_i : ms * ((i : Int) + 1) = ms * (i : Int) + ms := by rw [Int.mul_add, Int.mul_one]
      repeat walk_at "s"
      refine ⟨.inl ⟨rfl, _, SqL.new eFl⟩, ?_⟩
      repeat walk_at "s"
      refine ⟨p20, _, _, rfl, rfl, eFl, smallLt (by rw [List.length_map]; omega), ?_⟩
      refine ⟨b2, n2, fs ++ [n2], _, _, ext_appD np20 n20 Xl, by rw [upd_same, List.map_append]; rfl, okb2, by omega, by rw [Int.natCast_add]; show n2 ≤ top + ms * ((i : Int) + 1); omega, ?_, fun x hx => ?_, by rw [List.length_append, lf]; rfl, rfl⟩
      · refine List.pairwise_append.mpr ⟨srt, List.pairwise_singleton _ _, fun x hx y hy => ?_⟩
        rw [List.mem_singleton.mp hy]
        have := (bnd x hx).2
        omega
      · rcases List.mem_append.mp hx with hx | hx
        · have := bnd x hx
          omega
        · rw [List.mem_singleton.mp hx]
          omega
    · obtain ⟨b', num, fs, v13, v14, Xi, eF, okb', nl, nu, srt, bnd, lf, rfl⟩ := w
      repeat walk_at "s"
      refine q p20 fs Hi (X19.trans Xi) (X19.free n20 np20) eF (by omega) ⟨srt, fun x hx => ?_⟩
      have := bnd x hx
      omega

end
theorem all_mk {l : PySem.W.OpenLaw} {w : World} {K : PySem.W.Frag} {h : Heap} {mg : Str → Option Value} {fa f0 f1 f2 f3 f4 f5 f6 f7 f8 f9 f10 f11 f12 f13 f14 f15 f16 f17 f18 f19 f20 f21 f22 f23 f24 f25 f26 f27 f28 f29 f30 f31 f32 f33 f34 f35 f36 f37 f38 f39 f40 f41 f42 f43 f44 f45 f46 : Addr} (X : K.In h) (G : h.Ns mainGlobals mg) (hfa : mg "law" = some (.ref fa))
    {od0 an0 od1 an1 od2 an2 od3 an3 od4 an4 od5 an5 od6 an6 od7 an7 od8 an8 od9 an9 od10 an10 od11 an11 od12 an12 od13 an13 od14 an14 od15 an15 od16 an16 od17 an17 od18 an18 od19 an19 od20 an20 od21 an21 od22 an22 od23 an23 od24 an24 od25 an25 od26 an26 od27 an27 od28 an28 od29 an29 od30 an30 od31 an31 od32 an32 od33 an33 od34 an34 od35 an35 od36 an36 od37 an37 od38 an38 od39 an39 od40 an40 od41 an41 od42 an42 od43 an43 od44 an44 od45 an45 od46 an46 : Option Addr} {sl0 sl1 sl2 sl3 sl4 sl5 sl6 sl7 sl8 sl9 sl10 sl11 sl12 sl13 sl14 sl15 sl16 sl17 sl18 sl19 sl20 sl21 sl22 sl23 sl24 sl25 sl26 sl27 sl28 sl29 sl30 sl31 sl32 sl33 sl34 sl35 sl36 sl37 sl38 sl39 sl40 sl41 sl42 sl43 sl44 sl45 sl46 : Array (Option Value)} {oc0 kV0 dc0 pm0 ct0 cd0 oc1 kV1 dc1 pm1 ct1 cd1 oc2 kV2 dc2 pm2 ct2 cd2 oc3 kV3 dc3 pm3 ct3 cd3 oc4 kV4 dc4 pm4 ct4 cd4 oc5 kV5 dc5 pm5 ct5 cd5 oc6 kV6 dc6 pm6 ct6 cd6 oc7 kV7 dc7 pm7 ct7 cd7 oc8 kV8 dc8 pm8 ct8 cd8 oc9 kV9 dc9 pm9 ct9 cd9 oc10 kV10 dc10 pm10 ct10 cd10 oc11 kV11 dc11 pm11 ct11 oc12 kV12 dc12 pm12 ct12 cd12 oc13 kV13 dc13 pm13 ct13 cd13 oc14 kV14 dc14 pm14 ct14 cd14 oc15 kV15 dc15 pm15 ct15 cd15 oc16 kV16 dc16 pm16 ct16 cd16 oc17 kV17 dc17 pm17 ct17 cd17 oc18 kV18 dc18 pm18 ct18 cd18 oc19 kV19 dc19 pm19 ct19 cd19 oc20 kV20 dc20 pm20 ct20 cd20 oc21 kV21 dc21 pm21 ct21 cd21 oc22 kV22 dc22 pm22 ct22 cd22 oc23 kV23 dc23 pm23 ct23 cd23 oc24 kV24 dc24 pm24 ct24 cd24 oc25 kV25 dc25 pm25 ct25 cd25 oc26 kV26 dc26 pm26 ct26 cd26 oc27 kV27 dc27 pm27 ct27 cd27 oc28 kV28 dc28 pm28 ct28 cd28 oc29 kV29 dc29 pm29 ct29 cd29 oc30 kV30 dc30 pm30 ct30 cd30 oc31 kV31 dc31 pm31 ct31 cd31 oc32 kV32 dc32 pm32 ct32 cd32 oc33 kV33 dc33 pm33 ct33 cd33 oc34 kV34 dc34 pm34 ct34 cd34 oc35 kV35 dc35 pm35 ct35 cd35 oc36 kV36 dc36 pm36 ct36 cd36 oc37 kV37 dc37 pm37 ct37 cd37 oc38 kV38 dc38 pm38 ct38 cd38 oc39 kV39 dc39 pm39 ct39 cd39 oc40 kV40 dc40 pm40 ct40 cd40 oc41 kV41 dc41 pm41 ct41 cd41 oc42 kV42 dc42 pm42 ct42 cd42 oc43 kV43 dc43 pm43 ct43 cd43 oc44 kV44 dc44 pm44 ct44 cd44 oc45 kV45 dc45 pm45 ct45 cd45 oc46 kV46 dc46 pm46 ct46 cd46 : Value}
    {cc11 PP11 : Addr} {em11 : Value} {dm11 : Option Addr} {vm11 : Array Value} {sm11 : Array (Option Value)}
    {CL : Addr} (aCL : PySem.W.nsIn K mainGlobals "Live" = some (some (.ref CL))) (pgCL : PySem.W.plainGet K CL Str.empty = true) (hdCL : PySem.W.hasDictIn K CL = true) (poCL : PySem.W.plainOver K CL = true) (saCL : PySem.W.findIn K (.ref CL) "__setattr__" = some (some (.builtin "object.__setattr__"))) (mkCL : PySem.W.makesIn K CL = true) (kcCL : PySem.W.keepIn K (.ref CL) = true)
    (nfCL0 : PySem.W.findIn K (.ref CL) "_rows" = some none)
    (nfCL1 : PySem.W.findIn K (.ref CL) "_done" = some none)
    (a0 : PySem.W.nsIn K mainGlobals "_law_draws" = some (some (.ref f0))) (l0 : K.lookup f0 = some ⟨oc0, od0, .func (PySem.W.fnOf "_law_draws" "_law_draws" (defArgs slaw_draws) (defBody slaw_draws) (defScope slaw_draws) .none kV0 dc0 pm0 an0 cd0 ct0), sl0⟩) (c0 : PySem.W.codeIn K cd0 "_law_draws" = true) (k0 : PySem.W.keepIn K (.ref f0) = true)
    (a1 : PySem.W.nsIn K mainGlobals "_law_take" = some (some (.ref f1))) (l1 : K.lookup f1 = some ⟨oc1, od1, .func (PySem.W.fnOf "_law_take" "_law_take" (defArgs slaw_take) (defBody slaw_take) (defScope slaw_take) .none kV1 dc1 pm1 an1 cd1 ct1), sl1⟩) (c1 : PySem.W.codeIn K cd1 "_law_take" = true) (k1 : PySem.W.keepIn K (.ref f1) = true)
    (a2 : PySem.W.nsIn K mainGlobals "_law_row" = some (some (.ref f2))) (l2 : K.lookup f2 = some ⟨oc2, od2, .func (PySem.W.fnOf "_law_row" "_law_row" (defArgs slaw_row) (defBody slaw_row) (defScope slaw_row) .none kV2 dc2 pm2 an2 cd2 ct2), sl2⟩) (c2 : PySem.W.codeIn K cd2 "_law_row" = true) (k2 : PySem.W.keepIn K (.ref f2) = true)
    (a3 : PySem.W.nsIn K mainGlobals "sums_below" = some (some (.ref f3))) (l3 : K.lookup f3 = some ⟨oc3, od3, .func (PySem.W.fnOf "sums_below" "sums_below" (defArgs ssums_below) (defBody ssums_below) (defScope ssums_below) .none kV3 dc3 pm3 an3 cd3 ct3), sl3⟩) (c3 : PySem.W.codeIn K cd3 "sums_below" = true) (k3 : PySem.W.keepIn K (.ref f3) = true)
    (a4 : PySem.W.nsIn K mainGlobals "is_whole" = some (some (.ref f4))) (l4 : K.lookup f4 = some ⟨oc4, od4, .func (PySem.W.fnOf "is_whole" "is_whole" (defArgs sis_whole) (defBody sis_whole) (defScope sis_whole) .none kV4 dc4 pm4 an4 cd4 ct4), sl4⟩) (c4 : PySem.W.codeIn K cd4 "is_whole" = true) (k4 : PySem.W.keepIn K (.ref f4) = true)
    (a5 : PySem.W.nsIn K mainGlobals "many_below" = some (some (.ref f5))) (l5 : K.lookup f5 = some ⟨oc5, od5, .func (PySem.W.fnOf "many_below" "many_below" (defArgs smany_below) (defBody smany_below) (defScope smany_below) .none kV5 dc5 pm5 an5 cd5 ct5), sl5⟩) (c5 : PySem.W.codeIn K cd5 "many_below" = true) (k5 : PySem.W.keepIn K (.ref f5) = true)
    (a6 : PySem.W.nsIn K mainGlobals "many_to" = some (some (.ref f6))) (l6 : K.lookup f6 = some ⟨oc6, od6, .func (PySem.W.fnOf "many_to" "many_to" (defArgs smany_to) (defBody smany_to) (defScope smany_to) .none kV6 dc6 pm6 an6 cd6 ct6), sl6⟩) (c6 : PySem.W.codeIn K cd6 "many_to" = true) (k6 : PySem.W.keepIn K (.ref f6) = true)
    (a7 : PySem.W.nsIn K mainGlobals "check_place" = some (some (.ref f7))) (l7 : K.lookup f7 = some ⟨oc7, od7, .func (PySem.W.fnOf "check_place" "check_place" (defArgs scheck_place) (defBody scheck_place) (defScope scheck_place) .none kV7 dc7 pm7 an7 cd7 ct7), sl7⟩) (c7 : PySem.W.codeIn K cd7 "check_place" = true) (k7 : PySem.W.keepIn K (.ref f7) = true)
    (a8 : PySem.W.nsIn K mainGlobals "span_of" = some (some (.ref f8))) (l8 : K.lookup f8 = some ⟨oc8, od8, .func (PySem.W.fnOf "span_of" "span_of" (defArgs sspan_of) (defBody sspan_of) (defScope sspan_of) .none kV8 dc8 pm8 an8 cd8 ct8), sl8⟩) (c8 : PySem.W.codeIn K cd8 "span_of" = true) (k8 : PySem.W.keepIn K (.ref f8) = true)
    (a9 : PySem.W.nsIn K mainGlobals "pair_at" = some (some (.ref f9))) (l9 : K.lookup f9 = some ⟨oc9, od9, .func (PySem.W.fnOf "pair_at" "pair_at" (defArgs spair_at) (defBody spair_at) (defScope spair_at) .none kV9 dc9 pm9 an9 cd9 ct9), sl9⟩) (c9 : PySem.W.codeIn K cd9 "pair_at" = true) (k9 : PySem.W.keepIn K (.ref f9) = true)
    (a10 : PySem.W.nsIn K mainGlobals "number_at" = some (some (.ref f10))) (l10 : K.lookup f10 = some ⟨oc10, od10, .func (PySem.W.fnOf "number_at" "number_at" (defArgs snumber_at) (defBody snumber_at) (defScope snumber_at) .none kV10 dc10 pm10 an10 cd10 ct10), sl10⟩) (c10 : PySem.W.codeIn K cd10 "number_at" = true) (k10 : PySem.W.keepIn K (.ref f10) = true)
    (a11 : PySem.W.nsIn K mainGlobals "bare_sum_at" = some (some (.ref f11))) (l11 : K.lookup f11 = some ⟨oc11, od11, .func (PySem.W.fnOf "bare_sum_at" "bare_sum_at" (defArgs sbare_sum_at) (defBody sbare_sum_at) (defScope sbare_sum_at) .none kV11 dc11 pm11 an11 (.ref cc11) ct11), sl11⟩) (c11 : PySem.W.codeIn K (.ref cc11) "bare_sum_at" = true) (k11 : PySem.W.keepIn K (.ref f11) = true)
    (lm11 : K.lookup cc11 = some ⟨em11, dm11, .fields vm11, sm11⟩) (hv11 : vm11[11]? = some (.ref PP11)) (nk11 : K.lookup PP11 = none)
    (a12 : PySem.W.nsIn K mainGlobals "sum_at" = some (some (.ref f12))) (l12 : K.lookup f12 = some ⟨oc12, od12, .func (PySem.W.fnOf "sum_at" "sum_at" (defArgs ssum_at) (defBody ssum_at) (defScope ssum_at) .none kV12 dc12 pm12 an12 cd12 ct12), sl12⟩) (c12 : PySem.W.codeIn K cd12 "sum_at" = true) (k12 : PySem.W.keepIn K (.ref f12) = true)
    (a13 : PySem.W.nsIn K mainGlobals "stands_in" = some (some (.ref f13))) (l13 : K.lookup f13 = some ⟨oc13, od13, .func (PySem.W.fnOf "stands_in" "stands_in" (defArgs sstands_in) (defBody sstands_in) (defScope sstands_in) .none kV13 dc13 pm13 an13 cd13 ct13), sl13⟩) (c13 : PySem.W.codeIn K cd13 "stands_in" = true) (k13 : PySem.W.keepIn K (.ref f13) = true)
    (a14 : PySem.W.nsIn K mainGlobals "put_in" = some (some (.ref f14))) (l14 : K.lookup f14 = some ⟨oc14, od14, .func (PySem.W.fnOf "put_in" "put_in" (defArgs sput_in) (defBody sput_in) (defScope sput_in) .none kV14 dc14 pm14 an14 cd14 ct14), sl14⟩) (c14 : PySem.W.codeIn K cd14 "put_in" = true) (k14 : PySem.W.keepIn K (.ref f14) = true)
    (a15 : PySem.W.nsIn K mainGlobals "take_out" = some (some (.ref f15))) (l15 : K.lookup f15 = some ⟨oc15, od15, .func (PySem.W.fnOf "take_out" "take_out" (defArgs stake_out) (defBody stake_out) (defScope stake_out) .none kV15 dc15 pm15 an15 cd15 ct15), sl15⟩) (c15 : PySem.W.codeIn K cd15 "take_out" = true) (k15 : PySem.W.keepIn K (.ref f15) = true)
    (a16 : PySem.W.findIn K (.ref CL) "__init__" = some (some (.ref f16))) (i16 : PySem.W.isFn K (.ref f16) = true) (l16 : K.lookup f16 = some ⟨oc16, od16, .func (PySem.W.fnOf "__init__" "Live.__init__" (defArgs sLive___init__) (defBody sLive___init__) (defScope sLive___init__) .none kV16 dc16 pm16 an16 cd16 ct16), sl16⟩) (c16 : PySem.W.codeIn K cd16 "Live.__init__" = true) (k16 : PySem.W.keepIn K (.ref f16) = true)
    (a17 : PySem.W.findIn K (.ref CL) "_row_of" = some (some (.ref f17))) (i17 : PySem.W.isFn K (.ref f17) = true) (l17 : K.lookup f17 = some ⟨oc17, od17, .func (PySem.W.fnOf "_row_of" "Live._row_of" (defArgs sLive__row_of) (defBody sLive__row_of) (defScope sLive__row_of) .none kV17 dc17 pm17 an17 cd17 ct17), sl17⟩) (c17 : PySem.W.codeIn K cd17 "Live._row_of" = true) (k17 : PySem.W.keepIn K (.ref f17) = true)
    (a18 : PySem.W.findIn K (.ref CL) "put" = some (some (.ref f18))) (i18 : PySem.W.isFn K (.ref f18) = true) (l18 : K.lookup f18 = some ⟨oc18, od18, .func (PySem.W.fnOf "put" "Live.put" (defArgs sLive_put) (defBody sLive_put) (defScope sLive_put) .none kV18 dc18 pm18 an18 cd18 ct18), sl18⟩) (c18 : PySem.W.codeIn K cd18 "Live.put" = true) (k18 : PySem.W.keepIn K (.ref f18) = true)
    (a19 : PySem.W.findIn K (.ref CL) "take" = some (some (.ref f19))) (i19 : PySem.W.isFn K (.ref f19) = true) (l19 : K.lookup f19 = some ⟨oc19, od19, .func (PySem.W.fnOf "take" "Live.take" (defArgs sLive_take) (defBody sLive_take) (defScope sLive_take) .none kV19 dc19 pm19 an19 cd19 ct19), sl19⟩) (c19 : PySem.W.codeIn K cd19 "Live.take" = true) (k19 : PySem.W.keepIn K (.ref f19) = true)
    (a20 : PySem.W.findIn K (.ref CL) "undo" = some (some (.ref f20))) (i20 : PySem.W.isFn K (.ref f20) = true) (l20 : K.lookup f20 = some ⟨oc20, od20, .func (PySem.W.fnOf "undo" "Live.undo" (defArgs sLive_undo) (defBody sLive_undo) (defScope sLive_undo) .none kV20 dc20 pm20 an20 cd20 ct20), sl20⟩) (c20 : PySem.W.codeIn K cd20 "Live.undo" = true) (k20 : PySem.W.keepIn K (.ref f20) = true)
    (a21 : PySem.W.findIn K (.ref CL) "rows" = some (some (.ref f21))) (i21 : PySem.W.isFn K (.ref f21) = true) (l21 : K.lookup f21 = some ⟨oc21, od21, .func (PySem.W.fnOf "rows" "Live.rows" (defArgs sLive_rows) (defBody sLive_rows) (defScope sLive_rows) .none kV21 dc21 pm21 an21 cd21 ct21), sl21⟩) (c21 : PySem.W.codeIn K cd21 "Live.rows" = true) (k21 : PySem.W.keepIn K (.ref f21) = true)
    (a22 : PySem.W.findIn K (.ref CL) "below" = some (some (.ref f22))) (i22 : PySem.W.isFn K (.ref f22) = true) (l22 : K.lookup f22 = some ⟨oc22, od22, .func (PySem.W.fnOf "below" "Live.below" (defArgs sLive_below) (defBody sLive_below) (defScope sLive_below) .none kV22 dc22 pm22 an22 cd22 ct22), sl22⟩) (c22 : PySem.W.codeIn K cd22 "Live.below" = true) (k22 : PySem.W.keepIn K (.ref f22) = true)
    (a23 : PySem.W.findIn K (.ref CL) "at" = some (some (.ref f23))) (i23 : PySem.W.isFn K (.ref f23) = true) (l23 : K.lookup f23 = some ⟨oc23, od23, .func (PySem.W.fnOf "at" "Live.at" (defArgs sLive_at) (defBody sLive_at) (defScope sLive_at) .none kV23 dc23 pm23 an23 cd23 ct23), sl23⟩) (c23 : PySem.W.codeIn K cd23 "Live.at" = true) (k23 : PySem.W.keepIn K (.ref f23) = true)
    (a24 : PySem.W.nsIn K mainGlobals "_law_in" = some (some (.ref f24))) (l24 : K.lookup f24 = some ⟨oc24, od24, .func (PySem.W.fnOf "_law_in" "_law_in" (defArgs slaw_in) (defBody slaw_in) (defScope slaw_in) .none kV24 dc24 pm24 an24 cd24 ct24), sl24⟩) (c24 : PySem.W.codeIn K cd24 "_law_in" = true) (k24 : PySem.W.keepIn K (.ref f24) = true)
    (a25 : PySem.W.nsIn K mainGlobals "_law_out" = some (some (.ref f25))) (l25 : K.lookup f25 = some ⟨oc25, od25, .func (PySem.W.fnOf "_law_out" "_law_out" (defArgs slaw_out) (defBody slaw_out) (defScope slaw_out) .none kV25 dc25 pm25 an25 cd25 ct25), sl25⟩) (c25 : PySem.W.codeIn K cd25 "_law_out" = true) (k25 : PySem.W.keepIn K (.ref f25) = true)
    (a26 : PySem.W.nsIn K mainGlobals "_law_number" = some (some (.ref f26))) (l26 : K.lookup f26 = some ⟨oc26, od26, .func (PySem.W.fnOf "_law_number" "_law_number" (defArgs slaw_number) (defBody slaw_number) (defScope slaw_number) .none kV26 dc26 pm26 an26 cd26 ct26), sl26⟩) (c26 : PySem.W.codeIn K cd26 "_law_number" = true) (k26 : PySem.W.keepIn K (.ref f26) = true)
    (a27 : PySem.W.nsIn K mainGlobals "_law_deed" = some (some (.ref f27))) (l27 : K.lookup f27 = some ⟨oc27, od27, .func (PySem.W.fnOf "_law_deed" "_law_deed" (defArgs slaw_deed) (defBody slaw_deed) (defScope slaw_deed) .none kV27 dc27 pm27 an27 cd27 ct27), sl27⟩) (c27 : PySem.W.codeIn K cd27 "_law_deed" = true) (k27 : PySem.W.keepIn K (.ref f27) = true)
    (a28 : PySem.W.nsIn K mainGlobals "_law_whole" = some (some (.ref f28))) (l28 : K.lookup f28 = some ⟨oc28, od28, .func (PySem.W.fnOf "_law_whole" "_law_whole" (defArgs slaw_whole) (defBody slaw_whole) (defScope slaw_whole) .none kV28 dc28 pm28 an28 cd28 ct28), sl28⟩) (c28 : PySem.W.codeIn K cd28 "_law_whole" = true) (k28 : PySem.W.keepIn K (.ref f28) = true)
    (a29 : PySem.W.nsIn K mainGlobals "_law_wholes" = some (some (.ref f29))) (l29 : K.lookup f29 = some ⟨oc29, od29, .func (PySem.W.fnOf "_law_wholes" "_law_wholes" (defArgs slaw_wholes) (defBody slaw_wholes) (defScope slaw_wholes) .none kV29 dc29 pm29 an29 cd29 ct29), sl29⟩) (c29 : PySem.W.codeIn K cd29 "_law_wholes" = true) (k29 : PySem.W.keepIn K (.ref f29) = true)
    (a30 : PySem.W.nsIn K mainGlobals "_law_asked" = some (some (.ref f30))) (l30 : K.lookup f30 = some ⟨oc30, od30, .func (PySem.W.fnOf "_law_asked" "_law_asked" (defArgs slaw_asked) (defBody slaw_asked) (defScope slaw_asked) .none kV30 dc30 pm30 an30 cd30 ct30), sl30⟩) (c30 : PySem.W.codeIn K cd30 "_law_asked" = true) (k30 : PySem.W.keepIn K (.ref f30) = true)
    (a31 : PySem.W.nsIn K mainGlobals "_law_below" = some (some (.ref f31))) (l31 : K.lookup f31 = some ⟨oc31, od31, .func (PySem.W.fnOf "_law_below" "_law_below" (defArgs slaw_below) (defBody slaw_below) (defScope slaw_below) .none kV31 dc31 pm31 an31 cd31 ct31), sl31⟩) (c31 : PySem.W.codeIn K cd31 "_law_below" = true) (k31 : PySem.W.keepIn K (.ref f31) = true)
    (a32 : PySem.W.nsIn K mainGlobals "_law_many_below" = some (some (.ref f32))) (l32 : K.lookup f32 = some ⟨oc32, od32, .func (PySem.W.fnOf "_law_many_below" "_law_many_below" (defArgs slaw_many_below) (defBody slaw_many_below) (defScope slaw_many_below) .none kV32 dc32 pm32 an32 cd32 ct32), sl32⟩) (c32 : PySem.W.codeIn K cd32 "_law_many_below" = true) (k32 : PySem.W.keepIn K (.ref f32) = true)
    (a33 : PySem.W.nsIn K mainGlobals "_law_pair_at" = some (some (.ref f33))) (l33 : K.lookup f33 = some ⟨oc33, od33, .func (PySem.W.fnOf "_law_pair_at" "_law_pair_at" (defArgs slaw_pair_at) (defBody slaw_pair_at) (defScope slaw_pair_at) .none kV33 dc33 pm33 an33 cd33 ct33), sl33⟩) (c33 : PySem.W.codeIn K cd33 "_law_pair_at" = true) (k33 : PySem.W.keepIn K (.ref f33) = true)
    (a34 : PySem.W.nsIn K mainGlobals "_law_door" = some (some (.ref f34))) (l34 : K.lookup f34 = some ⟨oc34, od34, .func (PySem.W.fnOf "_law_door" "_law_door" (defArgs slaw_door) (defBody slaw_door) (defScope slaw_door) .none kV34 dc34 pm34 an34 cd34 ct34), sl34⟩) (c34 : PySem.W.codeIn K cd34 "_law_door" = true) (k34 : PySem.W.keepIn K (.ref f34) = true)
    (a35 : PySem.W.nsIn K mainGlobals "_law_stands" = some (some (.ref f35))) (l35 : K.lookup f35 = some ⟨oc35, od35, .func (PySem.W.fnOf "_law_stands" "_law_stands" (defArgs slaw_stands) (defBody slaw_stands) (defScope slaw_stands) .none kV35 dc35 pm35 an35 cd35 ct35), sl35⟩) (c35 : PySem.W.codeIn K cd35 "_law_stands" = true) (k35 : PySem.W.keepIn K (.ref f35) = true)
    (a36 : PySem.W.nsIn K mainGlobals "_law_held_stay" = some (some (.ref f36))) (l36 : K.lookup f36 = some ⟨oc36, od36, .func (PySem.W.fnOf "_law_held_stay" "_law_held_stay" (defArgs slaw_held_stay) (defBody slaw_held_stay) (defScope slaw_held_stay) .none kV36 dc36 pm36 an36 cd36 ct36), sl36⟩) (c36 : PySem.W.codeIn K cd36 "_law_held_stay" = true) (k36 : PySem.W.keepIn K (.ref f36) = true)
    (a37 : PySem.W.nsIn K mainGlobals "_law_caught" = some (some (.ref f37))) (l37 : K.lookup f37 = some ⟨oc37, od37, .func (PySem.W.fnOf "_law_caught" "_law_caught" (defArgs slaw_caught) (defBody slaw_caught) (defScope slaw_caught) .none kV37 dc37 pm37 an37 cd37 ct37), sl37⟩) (c37 : PySem.W.codeIn K cd37 "_law_caught" = true) (k37 : PySem.W.keepIn K (.ref f37) = true)
    (a38 : PySem.W.nsIn K mainGlobals "_law_deep" = some (some (.ref f38))) (l38 : K.lookup f38 = some ⟨oc38, od38, .func (PySem.W.fnOf "_law_deep" "_law_deep" (defArgs slaw_deep) (defBody slaw_deep) (defScope slaw_deep) .none kV38 dc38 pm38 an38 cd38 ct38), sl38⟩) (c38 : PySem.W.codeIn K cd38 "_law_deep" = true) (k38 : PySem.W.keepIn K (.ref f38) = true)
    (a39 : PySem.W.nsIn K mainGlobals "_law_odd" = some (some (.ref f39))) (l39 : K.lookup f39 = some ⟨oc39, od39, .func (PySem.W.fnOf "_law_odd" "_law_odd" (defArgs slaw_odd) (defBody slaw_odd) (defScope slaw_odd) .none kV39 dc39 pm39 an39 cd39 ct39), sl39⟩) (c39 : PySem.W.codeIn K cd39 "_law_odd" = true) (k39 : PySem.W.keepIn K (.ref f39) = true)
    (a40 : PySem.W.nsIn K mainGlobals "_law_no_side" = some (some (.ref f40))) (l40 : K.lookup f40 = some ⟨oc40, od40, .func (PySem.W.fnOf "_law_no_side" "_law_no_side" (defArgs slaw_no_side) (defBody slaw_no_side) (defScope slaw_no_side) .none kV40 dc40 pm40 an40 cd40 ct40), sl40⟩) (c40 : PySem.W.codeIn K cd40 "_law_no_side" = true) (k40 : PySem.W.keepIn K (.ref f40) = true)
    (a41 : PySem.W.nsIn K mainGlobals "_law_not_there" = some (some (.ref f41))) (l41 : K.lookup f41 = some ⟨oc41, od41, .func (PySem.W.fnOf "_law_not_there" "_law_not_there" (defArgs slaw_not_there) (defBody slaw_not_there) (defScope slaw_not_there) .none kV41 dc41 pm41 an41 cd41 ct41), sl41⟩) (c41 : PySem.W.codeIn K cd41 "_law_not_there" = true) (k41 : PySem.W.keepIn K (.ref f41) = true)
    (a42 : PySem.W.nsIn K mainGlobals "_law_no_place" = some (some (.ref f42))) (l42 : K.lookup f42 = some ⟨oc42, od42, .func (PySem.W.fnOf "_law_no_place" "_law_no_place" (defArgs slaw_no_place) (defBody slaw_no_place) (defScope slaw_no_place) .none kV42 dc42 pm42 an42 cd42 ct42), sl42⟩) (c42 : PySem.W.codeIn K cd42 "_law_no_place" = true) (k42 : PySem.W.keepIn K (.ref f42) = true)
    (a43 : PySem.W.nsIn K mainGlobals "_law_refused" = some (some (.ref f43))) (l43 : K.lookup f43 = some ⟨oc43, od43, .func (PySem.W.fnOf "_law_refused" "_law_refused" (defArgs slaw_refused) (defBody slaw_refused) (defScope slaw_refused) .none kV43 dc43 pm43 an43 cd43 ct43), sl43⟩) (c43 : PySem.W.codeIn K cd43 "_law_refused" = true) (k43 : PySem.W.keepIn K (.ref f43) = true)
    (a44 : PySem.W.nsIn K mainGlobals "_law_good_behind" = some (some (.ref f44))) (l44 : K.lookup f44 = some ⟨oc44, od44, .func (PySem.W.fnOf "_law_good_behind" "_law_good_behind" (defArgs slaw_good_behind) (defBody slaw_good_behind) (defScope slaw_good_behind) .none kV44 dc44 pm44 an44 cd44 ct44), sl44⟩) (c44 : PySem.W.codeIn K cd44 "_law_good_behind" = true) (k44 : PySem.W.keepIn K (.ref f44) = true)
    (a45 : PySem.W.nsIn K mainGlobals "_law_start" = some (some (.ref f45))) (l45 : K.lookup f45 = some ⟨oc45, od45, .func (PySem.W.fnOf "_law_start" "_law_start" (defArgs slaw_start) (defBody slaw_start) (defScope slaw_start) .none kV45 dc45 pm45 an45 cd45 ct45), sl45⟩) (c45 : PySem.W.codeIn K cd45 "_law_start" = true) (k45 : PySem.W.keepIn K (.ref f45) = true)
    (a46 : PySem.W.nsIn K mainGlobals "law" = some (some (.ref f46))) (l46 : K.lookup f46 = some ⟨oc46, od46, .func (PySem.W.fnOf "law" "law" (defArgs slaw) (defBody slaw) (defScope slaw) .none kV46 dc46 pm46 an46 cd46 ct46), sl46⟩) (c46 : PySem.W.codeIn K cd46 "law" = true) (k46 : PySem.W.keepIn K (.ref f46) = true)
    {tMO : Tok} (aMO : PySem.W.nsIn K mainGlobals "MOST" = some (some (.int 300 tMO)))
    {CP CS C1 C2 C3 C4 : Addr}
    (aC2 : PySem.W.nsIn K mainGlobals "NoSide" = some (some (.ref C2)))
    (aC3 : PySem.W.nsIn K mainGlobals "NoNumber" = some (some (.ref C3)))
    (aCP : PySem.W.nsIn K mainGlobals "NoPlace" = some (some (.ref CP)))
    (aS : PySem.W.nsIn K mainGlobals "SumError" = some (some (.ref CS)))
    (aC1 : PySem.W.nsIn K mainGlobals "NoCommand" = some (some (.ref C1)))
    (aC4 : PySem.W.nsIn K mainGlobals "NoText" = some (some (.ref C4)))
    (bS : PySem.W.subIn K (.ref CS) (.type "BaseException") = some true)
    (hS : PySem.W.hasDictIn K CS = true)
    (tS : PySem.W.typeIn K (.ref CS) = some (.type "type"))
    (en : PySem.W.specialIn K (.builtin "object.__class__") "__get__" = some (some (.builtin "getset_descriptor.__get__")))
    (et : PySem.W.takesIn K (.builtin "object.__class__") = some true)
    (zve : PySem.W.nsIn K mainGlobals "ValueError" = some none)
    (xx2 : PySem.W.excIn K C2 [.type "ValueError", .type "Exception", .type "BaseException", .type "object"] "ValueError.__new__" = true)
    (kk2 : PySem.W.keepIn K (.ref C2) = true)
    (bb2 : PySem.W.subIn K (.ref C2) (.type "BaseException") = some true)
    (tt2 : PySem.W.typeIn K (.ref C2) = some (.type "type"))
    (ss2 : PySem.W.subIn K (.ref C2) (.ref CS) = some true)
    (hh2 : PySem.W.hasDictIn K C2 = true)
    (eg2 : PySem.W.findIn K (.ref C2) "__getattribute__" = some (some (.builtin "BaseException.__getattribute__")))
    (ek2 : PySem.W.findIn K (.ref C2) "__getattr__" = some none)
    (ec2 : PySem.W.findIn K (.ref C2) "__class__" = some (some (.builtin "object.__class__")))
    (em2 : PySem.W.mroIn K C2 (.type "object") = some true)
    (fno2 : PySem.W.kitAny K (.ref C2) [.ref C1, .ref C4] = some false)
    (fval2 : PySem.W.kitOne K (.ref C2) (.type "ValueError") = some true)
    (fk22 : PySem.W.kitOne K (.ref C2) (.ref C2) = some true)
    (fk23 : PySem.W.kitOne K (.ref C2) (.ref C3) = some false)
    (fk2P : PySem.W.kitOne K (.ref C2) (.ref CP) = some false)
    (xx3 : PySem.W.excIn K C3 [.type "ValueError", .type "Exception", .type "BaseException", .type "object"] "ValueError.__new__" = true)
    (kk3 : PySem.W.keepIn K (.ref C3) = true)
    (bb3 : PySem.W.subIn K (.ref C3) (.type "BaseException") = some true)
    (tt3 : PySem.W.typeIn K (.ref C3) = some (.type "type"))
    (ss3 : PySem.W.subIn K (.ref C3) (.ref CS) = some true)
    (hh3 : PySem.W.hasDictIn K C3 = true)
    (eg3 : PySem.W.findIn K (.ref C3) "__getattribute__" = some (some (.builtin "BaseException.__getattribute__")))
    (ek3 : PySem.W.findIn K (.ref C3) "__getattr__" = some none)
    (ec3 : PySem.W.findIn K (.ref C3) "__class__" = some (some (.builtin "object.__class__")))
    (em3 : PySem.W.mroIn K C3 (.type "object") = some true)
    (fno3 : PySem.W.kitAny K (.ref C3) [.ref C1, .ref C4] = some false)
    (fval3 : PySem.W.kitOne K (.ref C3) (.type "ValueError") = some true)
    (fk32 : PySem.W.kitOne K (.ref C3) (.ref C2) = some false)
    (fk33 : PySem.W.kitOne K (.ref C3) (.ref C3) = some true)
    (fk3P : PySem.W.kitOne K (.ref C3) (.ref CP) = some false)
    (xxP : PySem.W.excIn K CP [.type "ValueError", .type "Exception", .type "BaseException", .type "object"] "ValueError.__new__" = true)
    (kkP : PySem.W.keepIn K (.ref CP) = true)
    (bbP : PySem.W.subIn K (.ref CP) (.type "BaseException") = some true)
    (ttP : PySem.W.typeIn K (.ref CP) = some (.type "type"))
    (ssP : PySem.W.subIn K (.ref CP) (.ref CS) = some true)
    (hhP : PySem.W.hasDictIn K CP = true)
    (egP : PySem.W.findIn K (.ref CP) "__getattribute__" = some (some (.builtin "BaseException.__getattribute__")))
    (ekP : PySem.W.findIn K (.ref CP) "__getattr__" = some none)
    (ecP : PySem.W.findIn K (.ref CP) "__class__" = some (some (.builtin "object.__class__")))
    (emP : PySem.W.mroIn K CP (.type "object") = some true)
    (fnoP : PySem.W.kitAny K (.ref CP) [.ref C1, .ref C4] = some false)
    (fvalP : PySem.W.kitOne K (.ref CP) (.type "ValueError") = some true)
    (fkP2 : PySem.W.kitOne K (.ref CP) (.ref C2) = some false)
    (fkP3 : PySem.W.kitOne K (.ref CP) (.ref C3) = some false)
    (fkPP : PySem.W.kitOne K (.ref CP) (.ref CP) = some true)
    (zlen : PySem.W.nsIn K mainGlobals "len" = some none)
    (zlist : PySem.W.nsIn K mainGlobals "list" = some none)
    (zenumerate : PySem.W.nsIn K mainGlobals "enumerate" = some none)
    (zint : PySem.W.nsIn K mainGlobals "int" = some none)
    (zbool : PySem.W.nsIn K mainGlobals "bool" = some none)
    (zsum : PySem.W.nsIn K mainGlobals "sum" = some none)
    (zsorted : PySem.W.nsIn K mainGlobals "sorted" = some none)
    (zmin : PySem.W.nsIn K mainGlobals "min" = some none)
    (zmax : PySem.W.nsIn K mainGlobals "max" = some none)
    (zrange : PySem.W.nsIn K mainGlobals "range" = some none)
    (zisinstance : PySem.W.nsIn K mainGlobals "isinstance" = some none)
    (zrepr : PySem.W.nsIn K mainGlobals "repr" = some none)
    (ztuple : PySem.W.nsIn K mainGlobals "tuple" = some none)
    (zdict : PySem.W.nsIn K mainGlobals "dict" = some none)
    (zabs : PySem.W.nsIn K mainGlobals "abs" = some none)
    (zstr : PySem.W.nsIn K mainGlobals "str" = some none)
    : ∃ (fd : FuncData) (cs : List (Addr × Addr)) (sp : L2.Sp), (∀ p ∈ cs, K.lookup p.2 = none) ∧ (∀ p ∈ cs, ∃ m ∈ [("bare_sum_at" : Str)], PySem.W.tabIn K m = some p) ∧ (∀ (s : Shared) (v : Value), BindsTo s fd ⟨[v], []⟩ [("script", v)]) ∧
      (∀ (H : Hp) (a : Addr) (ns : List Int), ns.length ≤ 63 → (∀ p ∈ cs, H p.2 = some (.tbl #[])) → SqL K H a (ns.map V.int) → sp [.ref a] H (fun v _ => v = .bl true) fun _ _ _ => False) ∧
      ∀ base : Heap, K.In base → base.Ns mainGlobals mg → (∀ p ∈ cs, LamX.TabB base mg p.1 p.2) → Gd.FnG l.prog w K mg base 9 fa fd ["script"] sp := by
  have e := hfa.symm.trans (PySem.W.mg_of X G a46)
  cases e
  have B : Bt mg := ⟨PySem.W.mg_none_of X G zlen, PySem.W.mg_none_of X G zlist, PySem.W.mg_none_of X G zenumerate, PySem.W.mg_none_of X G zint, PySem.W.mg_none_of X G zbool, PySem.W.mg_none_of X G zsum, PySem.W.mg_none_of X G zsorted, PySem.W.mg_none_of X G zmin, PySem.W.mg_none_of X G zmax, PySem.W.mg_none_of X G zrange, PySem.W.mg_none_of X G zisinstance, PySem.W.mg_none_of X G zrepr, PySem.W.mg_none_of X G ztuple, PySem.W.mg_none_of X G zdict, PySem.W.mg_none_of X G zabs, PySem.W.mg_none_of X G zstr⟩
  have rs2 : Rsd K mg "NoSide" C2 CS := ⟨PySem.W.mg_of X G aC2, xx2, kk2, bb2, tt2, PySem.W.exm_ref bS hS tS ss2, ⟨eg2, ek2, bb2, hh2, ec2, en, et, em2⟩⟩
  have rk2 : Kin K C2 C1 C4 C2 C3 CP true false false := ⟨fno2, fval2, fk22, fk23, fk2P⟩
  have rs3 : Rsd K mg "NoNumber" C3 CS := ⟨PySem.W.mg_of X G aC3, xx3, kk3, bb3, tt3, PySem.W.exm_ref bS hS tS ss3, ⟨eg3, ek3, bb3, hh3, ec3, en, et, em3⟩⟩
  have rk3 : Kin K C3 C1 C4 C2 C3 CP false true false := ⟨fno3, fval3, fk32, fk33, fk3P⟩
  have rsP : Rsd K mg "NoPlace" CP CS := ⟨PySem.W.mg_of X G aCP, xxP, kkP, bbP, ttP, PySem.W.exm_ref bS hS tS ssP, ⟨egP, ekP, bbP, hhP, ecP, en, et, emP⟩⟩
  have rkP : Kin K CP C1 C4 C2 C3 CP false false true := ⟨fnoP, fvalP, fkP2, fkP3, fkPP⟩
  have rs : Rsds K mg CP C1 C2 C3 C4 CS := ⟨PySem.W.mg_of X G aS, PySem.W.mg_of X G aC1, PySem.W.mg_of X G aC4, rs2, rs3, rsP, rk2, rk3, rkP⟩
  have zVE := PySem.W.mg_none_of X G zve
  have li : LiT K CL := ⟨⟨pgCL, hdCL, poCL, saCL⟩, nfCL0, nfCL1⟩
  have most := PySem.W.mg_of X G aMO
  have F0 := fun_mk (st := slaw_draws) l0 c0 k0
  have b0 := F0.binds (ps := ["script"]) fun _ _ _ _ _ _ us hl => match us, hl with | [_], _ => rfl
  have F1 := fun_mk (st := slaw_take) l1 c1 k1
  have b1 := F1.binds (ps := ["draws", "many"]) fun _ _ _ _ _ _ us hl => match us, hl with | [_, _], _ => rfl
  have F2 := fun_mk (st := slaw_row) l2 c2 k2
  have b2 := F2.binds (ps := ["draws", "most"]) fun _ _ _ _ _ _ us hl => match us, hl with | [_, _], _ => rfl
  have F3 := fun_mk (st := ssums_below) l3 c3 k3
  have b3 := F3.binds (ps := ["one", "other", "number"]) fun _ _ _ _ _ _ us hl => match us, hl with | [_, _, _], _ => rfl
  have F4 := fun_mk (st := sis_whole) l4 c4 k4
  have b4 := F4.binds (ps := ["thing"]) fun _ _ _ _ _ _ us hl => match us, hl with | [_], _ => rfl
  have F5 := fun_mk (st := smany_below) l5 c5 k5
  have b5 := F5.binds (ps := ["row", "number"]) fun _ _ _ _ _ _ us hl => match us, hl with | [_, _], _ => rfl
  have F6 := fun_mk (st := smany_to) l6 c6 k6
  have b6 := F6.binds (ps := ["row", "number"]) fun _ _ _ _ _ _ us hl => match us, hl with | [_, _], _ => rfl
  have F7 := fun_mk (st := scheck_place) l7 c7 k7
  have b7 := F7.binds (ps := ["thing", "many"]) fun _ _ _ _ _ _ us hl => match us, hl with | [_, _], _ => rfl
  have F8 := fun_mk (st := sspan_of) l8 c8 k8
  have b8 := F8.binds (ps := ["row", "number"]) fun _ _ _ _ _ _ us hl => match us, hl with | [_, _], _ => rfl
  have F9 := fun_mk (st := spair_at) l9 c9 k9
  have b9 := F9.binds (ps := ["spans", "place"]) fun _ _ _ _ _ _ us hl => match us, hl with | [_, _], _ => rfl
  have F10 := fun_mk (st := snumber_at) l10 c10 k10
  have b10 := F10.binds (ps := ["place", "low", "high", "count_below"]) fun _ _ _ _ _ _ us hl => match us, hl with | [_, _, _, _], _ => rfl
  have F11 := Lm.func_mk (st := sbare_sum_at) l11 c11 k11
  have b11 := F11.fun.binds (ps := ["one", "other", "place"]) fun _ _ _ _ _ _ us hl => match us, hl with | [_, _, _], _ => rfl
  have F12 := fun_mk (st := ssum_at) l12 c12 k12
  have b12 := F12.binds (ps := ["one", "other", "place"]) fun _ _ _ _ _ _ us hl => match us, hl with | [_, _, _], _ => rfl
  have F13 := fun_mk (st := sstands_in) l13 c13 k13
  have b13 := F13.binds (ps := ["row", "number"]) fun _ _ _ _ _ _ us hl => match us, hl with | [_, _], _ => rfl
  have F14 := fun_mk (st := sput_in) l14 c14 k14
  have b14 := F14.binds (ps := ["row", "number"]) fun _ _ _ _ _ _ us hl => match us, hl with | [_, _], _ => rfl
  have F15 := fun_mk (st := stake_out) l15 c15 k15
  have b15 := F15.binds (ps := ["row", "number"]) fun _ _ _ _ _ _ us hl => match us, hl with | [_, _], _ => rfl
  have F16 := fun_mk (st := sLive___init__) l16 c16 k16
  have b16 := F16.binds (ps := ["self", "one", "other"]) fun _ _ _ _ _ _ us hl => match us, hl with | [_, _, _], _ => rfl
  have F17 := fun_mk (st := sLive__row_of) l17 c17 k17
  have b17 := F17.binds (ps := ["self", "side"]) fun _ _ _ _ _ _ us hl => match us, hl with | [_, _], _ => rfl
  have F18 := fun_mk (st := sLive_put) l18 c18 k18
  have b18 := F18.binds (ps := ["self", "side", "number"]) fun _ _ _ _ _ _ us hl => match us, hl with | [_, _, _], _ => rfl
  have F19 := fun_mk (st := sLive_take) l19 c19 k19
  have b19 := F19.binds (ps := ["self", "side", "number"]) fun _ _ _ _ _ _ us hl => match us, hl with | [_, _, _], _ => rfl
  have F20 := fun_mk (st := sLive_undo) l20 c20 k20
  have b20 := F20.binds (ps := ["self"]) fun _ _ _ _ _ _ us hl => match us, hl with | [_], _ => rfl
  have F21 := fun_mk (st := sLive_rows) l21 c21 k21
  have b21 := F21.binds (ps := ["self"]) fun _ _ _ _ _ _ us hl => match us, hl with | [_], _ => rfl
  have F22 := fun_mk (st := sLive_below) l22 c22 k22
  have b22 := F22.binds (ps := ["self", "number"]) fun _ _ _ _ _ _ us hl => match us, hl with | [_, _], _ => rfl
  have F23 := fun_mk (st := sLive_at) l23 c23 k23
  have b23 := F23.binds (ps := ["self", "place"]) fun _ _ _ _ _ _ us hl => match us, hl with | [_, _], _ => rfl
  have F24 := fun_mk (st := slaw_in) l24 c24 k24
  have b24 := F24.binds (ps := ["row", "number"]) fun _ _ _ _ _ _ us hl => match us, hl with | [_, _], _ => rfl
  have F25 := fun_mk (st := slaw_out) l25 c25 k25
  have b25 := F25.binds (ps := ["row", "number"]) fun _ _ _ _ _ _ us hl => match us, hl with | [_, _], _ => rfl
  have F26 := fun_mk (st := slaw_number) l26 c26 k26
  have b26 := F26.binds (ps := ["draws", "row"]) fun _ _ _ _ _ _ us hl => match us, hl with | [_, _], _ => rfl
  have F27 := fun_mk (st := slaw_deed) l27 c27 k27
  have b27 := F27.binds (ps := ["draws", "live", "state"]) fun _ _ _ _ _ _ us hl => match us, hl with | [_, _, _], _ => rfl
  have F28 := fun_mk (st := slaw_whole) l28 c28 k28
  have b28 := F28.binds (ps := ["thing"]) fun _ _ _ _ _ _ us hl => match us, hl with | [_], _ => rfl
  have F29 := fun_mk (st := slaw_wholes) l29 c29 k29
  have b29 := F29.binds (ps := ["thing", "many"]) fun _ _ _ _ _ _ us hl => match us, hl with | [_, _], _ => rfl
  have F30 := fun_mk (st := slaw_asked) l30 c30 k30
  have b30 := F30.binds (ps := ["draws", "one", "other"]) fun _ _ _ _ _ _ us hl => match us, hl with | [_, _, _], _ => rfl
  have F31 := fun_mk (st := slaw_below) l31 c31 k31
  have b31 := F31.binds (ps := ["one", "other", "number"]) fun _ _ _ _ _ _ us hl => match us, hl with | [_, _, _], _ => rfl
  have F32 := fun_mk (st := slaw_many_below) l32 c32 k32
  have b32 := F32.binds (ps := ["one", "other", "number"]) fun _ _ _ _ _ _ us hl => match us, hl with | [_, _, _], _ => rfl
  have F33 := fun_mk (st := slaw_pair_at) l33 c33 k33
  have b33 := F33.binds (ps := ["one", "other", "place"]) fun _ _ _ _ _ _ us hl => match us, hl with | [_, _, _], _ => rfl
  have F34 := fun_mk (st := slaw_door) l34 c34 k34
  have b34 := F34.binds (ps := ["draws", "live", "both", "way", "held"]) fun _ _ _ _ _ _ us hl => match us, hl with | [_, _, _, _, _], _ => rfl
  have F35 := fun_mk (st := slaw_stands) l35 c35 k35
  have b35 := F35.binds (ps := ["draws", "live", "both", "held"]) fun _ _ _ _ _ _ us hl => match us, hl with | [_, _, _, _], _ => rfl
  have F36 := fun_mk (st := slaw_held_stay) l36 c36 k36
  have b36 := F36.binds (ps := ["held"]) fun _ _ _ _ _ _ us hl => match us, hl with | [_], _ => rfl
  have F37 := fun_mk (st := slaw_caught) l37 c37 k37
  have b37 := F37.binds (ps := ["live", "way", "side", "number"]) fun _ _ _ _ _ _ us hl => match us, hl with | [_, _, _, _], _ => rfl
  have F38 := fun_mk (st := slaw_deep) l38 c38 k38
  have b38 := F38.binds (ps := ["many"]) fun _ _ _ _ _ _ us hl => match us, hl with | [_], _ => rfl
  have F39 := fun_mk (st := slaw_odd) l39 c39 k39
  have b39 := F39.binds (ps := ["draws"]) fun _ _ _ _ _ _ us hl => match us, hl with | [_], _ => rfl
  have F40 := fun_mk (st := slaw_no_side) l40 c40 k40
  have b40 := F40.binds (ps := ["draws"]) fun _ _ _ _ _ _ us hl => match us, hl with | [_], _ => rfl
  have F41 := fun_mk (st := slaw_not_there) l41 c41 k41
  have b41 := F41.binds (ps := ["draws", "row"]) fun _ _ _ _ _ _ us hl => match us, hl with | [_, _], _ => rfl
  have F42 := fun_mk (st := slaw_no_place) l42 c42 k42
  have b42 := F42.binds (ps := ["draws", "size"]) fun _ _ _ _ _ _ us hl => match us, hl with | [_, _], _ => rfl
  have F43 := fun_mk (st := slaw_refused) l43 c43 k43
  have b43 := F43.binds (ps := ["draws", "live", "both"]) fun _ _ _ _ _ _ us hl => match us, hl with | [_, _, _], _ => rfl
  have F44 := fun_mk (st := slaw_good_behind) l44 c44 k44
  have b44 := F44.binds (ps := ["draws", "live", "state"]) fun _ _ _ _ _ _ us hl => match us, hl with | [_, _, _], _ => rfl
  have F45 := fun_mk (st := slaw_start) l45 c45 k45
  have b45 := F45.binds (ps := ["draws"]) fun _ _ _ _ _ _ us hl => match us, hl with | [_], _ => rfl
  have F46 := fun_mk (st := slaw) l46 c46 k46
  have b46 := F46.binds (ps := ["script"]) fun _ _ _ _ _ _ us hl => match us, hl with | [_], _ => rfl
  refine ⟨PySem.W.fnOf "law" "law" (defArgs slaw) (defBody slaw) (defScope slaw) .none kV46 dc46 pm46 an46 cd46 ct46, [(cc11, PP11)], spLawT K [(PP11, (("bare_sum_at" : Str) ++ ".<locals>.") ++ "<lambda>")], fun p hp => ?_, fun p hp => ?_, fun s v => .of_eq rfl, fun H a ns hl hT hS => ⟨a, ns, rfl, hS, hl, fun p hp => ?_, fun _ => rfl⟩, fun base _ _ TB => ?_⟩
  · simp only [List.mem_cons, List.not_mem_nil, or_false] at hp
    rcases hp with rfl
    · exact nk11
  · simp only [List.mem_cons, List.not_mem_nil, or_false] at hp
    rcases hp with rfl
    · exact ⟨"bare_sum_at", (List.Mem.head _), Lm.tab_at a11 l11 lm11 hv11⟩
  · simp only [List.mem_cons, List.not_mem_nil, or_false] at hp
    rcases hp with rfl
    · exact LamX.TabS.nil (hT (cc11, PP11) (List.Mem.head _))
  have g0 : Cal l.prog w K mg base 1 "_law_draws" ["script"] (spDraws K) := ⟨_, _, ok_draws B F0, PySem.W.mg_of X G a0, k0, b0⟩
  have g1 : Cal l.prog w K mg base 1 "_law_take" ["draws", "many"] spTake := ⟨_, _, ok_take F1, PySem.W.mg_of X G a1, k1, b1⟩
  have g2 : Cal l.prog w K mg base 2 "_law_row" ["draws", "most"] spRowD := ⟨_, _, ok_rowd B F2 g1, PySem.W.mg_of X G a2, k2, b2⟩
  have g3 : Cal l.prog w K mg base 1 "sums_below" ["one", "other", "number"] (spSums K) := ⟨_, _, ok_sums_below B F3, PySem.W.mg_of X G a3, k3, b3⟩
  have g4 : Cal l.prog w K mg base 1 "is_whole" ["thing"] (spIsWhole K) := ⟨_, _, ok_is_whole B F4, PySem.W.mg_of X G a4, k4, b4⟩
  have g5 : Cal l.prog w K mg base 1 "many_below" ["row", "number"] (spBelow K) := ⟨_, _, ok_many_below B F5, PySem.W.mg_of X G a5, k5, b5⟩
  have g6 : Cal l.prog w K mg base 2 "many_to" ["row", "number"] (spTo K) := ⟨_, _, ok_many_to B F6 g5, PySem.W.mg_of X G a6, k6, b6⟩
  have x7 : Xc.CalX l.prog w K mg base 2 "check_place" ["thing", "many"] (spCheckR K CP) := ⟨_, _, ok_check_ref49 F7 rs g4, PySem.W.mg_of X G a7, k7, b7⟩
  have g7 : Cal l.prog w K mg base 2 "check_place" ["thing", "many"] spCheck := ⟨_, _, ok_check_place F7 g4, PySem.W.mg_of X G a7, k7, b7⟩
  have g8 : Cal l.prog w K mg base 3 "span_of" ["row", "number"] (spSpan K) := ⟨_, _, ok_span_of F8 g5 g6, PySem.W.mg_of X G a8, k8, b8⟩
  have g9 : Cal l.prog w K mg base 1 "pair_at" ["spans", "place"] (spPairAt K) := ⟨_, _, ok_pair_at F9, PySem.W.mg_of X G a9, k9, b9⟩
  have g11 : Cal l.prog w K mg base 4 "bare_sum_at" ["one", "other", "place"] (spBare K [(PP11, (("bare_sum_at" : Str) ++ ".<locals>.") ++ "<lambda>")]) := ⟨_, _, ok_bare_sum_at F11 (TB (cc11, PP11) (List.Mem.head _)) (T := [(PP11, (("bare_sum_at" : Str) ++ ".<locals>.") ++ "<lambda>")]) (List.Mem.head _) (fun p hp hq => by simp only [List.mem_cons, List.not_mem_nil, or_false] at hp; rcases hp with rfl <;> first | exact absurd hq (by assumption) | rfl) F10 (PySem.W.mg_of X G a10) b10 g3, PySem.W.mg_of X G a11, k11, b11⟩
  have x12 : Xc.CalX l.prog w K mg base 5 "sum_at" ["one", "other", "place"] (spSumR K CP) := ⟨_, _, ok_sum_ref B F12 x7, PySem.W.mg_of X G a12, k12, b12⟩
  have g12 : Cal l.prog w K mg base 5 "sum_at" ["one", "other", "place"] (spSumT K [(PP11, (("bare_sum_at" : Str) ++ ".<locals>.") ++ "<lambda>")]) := ⟨_, _, ok_sum_at B F12 g3 g7 g11 g8 g9, PySem.W.mg_of X G a12, k12, b12⟩
  have g13 : Cal l.prog w K mg base 2 "stands_in" ["row", "number"] (spStands K) := ⟨_, _, ok_stands_in B F13 g5, PySem.W.mg_of X G a13, k13, b13⟩
  have g14 : Cal l.prog w K mg base 2 "put_in" ["row", "number"] spPutIn := ⟨_, _, ok_put_in F14 g5, PySem.W.mg_of X G a14, k14, b14⟩
  have g15 : Cal l.prog w K mg base 2 "take_out" ["row", "number"] spTakeOut := ⟨_, _, ok_take_out F15 g5, PySem.W.mg_of X G a15, k15, b15⟩
  have g16 : Ob.CalN l.prog w K mg base 1 CL "Live" ["self", "one", "other"] (spLInit K CL) := ⟨_, _, ok_linit B F16 li, ⟨mkCL, a16, i16, kcCL⟩, PySem.W.mg_of X G aCL, b16⟩
  have x17 : Ob.CalMX l.prog w K mg base 2 CL "_row_of" ["self", "side"] (spLRowR K CL C2) := ⟨li.cl, _, _, ok_lrow_ref F17 rs g4, ⟨a17, i17, k17⟩, b17⟩
  have g17 : Ob.CalM l.prog w K mg base 2 CL "_row_of" ["self", "side"] (spLRow CL) := ⟨li.cl, _, _, ok_lrow F17 li g4, ⟨a17, i17, k17⟩, b17⟩
  have x18 : Ob.CalMX l.prog w K mg base 3 CL "put" ["self", "side", "number"] (spLPutR2 K CL C2 C3 CP) := ⟨li.cl, _, _, ok_lput_ref B F18 li most rs g4 g17 x17, ⟨a18, i18, k18⟩, b18⟩
  have g18 : Ob.CalM l.prog w K mg base 3 CL "put" ["self", "side", "number"] (spLPut CL) := ⟨li.cl, _, _, ok_lput B F18 li most g4 g14 g17, ⟨a18, i18, k18⟩, b18⟩
  have x19 : Ob.CalMX l.prog w K mg base 3 CL "take" ["self", "side", "number"] (spLTakeR2 K CL C2 C3 CP) := ⟨li.cl, _, _, ok_ltake_ref2 F19 li rs g4 g13 g17 x17, ⟨a19, i19, k19⟩, b19⟩
  have g19 : Ob.CalM l.prog w K mg base 3 CL "take" ["self", "side", "number"] (spLTake CL) := ⟨li.cl, _, _, ok_ltake F19 li g4 g13 g15 g17, ⟨a19, i19, k19⟩, b19⟩
  have g20 : Ob.CalM l.prog w K mg base 3 CL "undo" ["self"] (spLUndo CL) := ⟨li.cl, _, _, ok_lundo F20 li g14 g15, ⟨a20, i20, k20⟩, b20⟩
  have g21 : Ob.CalM l.prog w K mg base 1 CL "rows" ["self"] (spLRows CL) := ⟨li.cl, _, _, ok_lrows B F21 li, ⟨a21, i21, k21⟩, b21⟩
  have g22 : Ob.CalM l.prog w K mg base 2 CL "below" ["self", "number"] (spLBelow CL) := ⟨li.cl, _, _, ok_lbelow F22 li g3, ⟨a22, i22, k22⟩, b22⟩
  have x23 : Ob.CalMX l.prog w K mg base 6 CL "at" ["self", "place"] (spLAtR K CL CP) := ⟨li.cl, _, _, ok_lat_ref F23 li x12, ⟨a23, i23, k23⟩, b23⟩
  have g23 : Ob.CalM l.prog w K mg base 6 CL "at" ["self", "place"] (spLAt CL [(PP11, (("bare_sum_at" : Str) ++ ".<locals>.") ++ "<lambda>")]) := ⟨li.cl, _, _, ok_lat F23 li g12, ⟨a23, i23, k23⟩, b23⟩
  have g24 : Cal l.prog w K mg base 1 "_law_in" ["row", "number"] (spInL K) := ⟨_, _, ok_lawin B F24, PySem.W.mg_of X G a24, k24, b24⟩
  have g25 : Cal l.prog w K mg base 1 "_law_out" ["row", "number"] (spOutL K) := ⟨_, _, ok_lawout F25, PySem.W.mg_of X G a25, k25, b25⟩
  have g26 : Cal l.prog w K mg base 2 "_law_number" ["draws", "row"] spNumL := ⟨_, _, ok_lawnum B F26 g1, PySem.W.mg_of X G a26, k26, b26⟩
  have g27 : Cal l.prog w K mg base 4 "_law_deed" ["draws", "live", "state"] (spDeedB K CL [(PP11, (("bare_sum_at" : Str) ++ ".<locals>.") ++ "<lambda>")]) := ⟨_, _, ok_deedb B F27 g18 g19 g20 g1 g24 g25 g26, PySem.W.mg_of X G a27, k27, b27⟩
  have g28 : Cal l.prog w K mg base 1 "_law_whole" ["thing"] spWhole1 := ⟨_, _, ok_whole1 B F28, PySem.W.mg_of X G a28, k28, b28⟩
  have g29 : Cal l.prog w K mg base 2 "_law_wholes" ["thing", "many"] (spWholes2 K) := ⟨_, _, ok_wholes2 B F29 g28, PySem.W.mg_of X G a29, k29, b29⟩
  have g30 : Cal l.prog w K mg base 2 "_law_asked" ["draws", "one", "other"] spAskedD := ⟨_, _, ok_askedd B F30 g1, PySem.W.mg_of X G a30, k30, b30⟩
  have g31 : Cal l.prog w K mg base 1 "_law_below" ["one", "other", "number"] (spBelowL K) := ⟨_, _, ok_belowl B F31, PySem.W.mg_of X G a31, k31, b31⟩
  have g32 : Cal l.prog w K mg base 2 "_law_many_below" ["one", "other", "number"] (spSums2 K) := ⟨_, _, ok_manybelow B F32 g31, PySem.W.mg_of X G a32, k32, b32⟩
  have g33 : Cal l.prog w K mg base 3 "_law_pair_at" ["one", "other", "place"] (spLPair K) := ⟨_, _, ok_lpair F33 g31 g32, PySem.W.mg_of X G a33, k33, b33⟩
  have g34 : Cal l.prog w K mg base 7 "_law_door" ["draws", "live", "both", "way", "held"] (spDoor K CL [(PP11, (("bare_sum_at" : Str) ++ ".<locals>.") ++ "<lambda>")]) := ⟨_, _, ok_door B F34 g21 g22 g23 g1 g30 g28 g29 g32 g33, PySem.W.mg_of X G a34, k34, b34⟩
  have g35 : Cal l.prog w K mg base 8 "_law_stands" ["draws", "live", "both", "held"] (spStandsL K CL [(PP11, (("bare_sum_at" : Str) ++ ".<locals>.") ++ "<lambda>")]) := ⟨_, _, ok_standsl F35 g1 g34, PySem.W.mg_of X G a35, k35, b35⟩
  have g36 : Cal l.prog w K mg base 1 "_law_held_stay" ["held"] spHeldStay := ⟨_, _, ok_heldstay B F36, PySem.W.mg_of X G a36, k36, b36⟩
  have g37 : Cal l.prog w K mg base 7 "_law_caught" ["live", "way", "side", "number"] (spCaught49 K CL) := ⟨_, _, ok_caught49 B F37 zVE rs x18 x19 x23, PySem.W.mg_of X G a37, k37, b37⟩
  have g38 : Cal l.prog w K mg base 1 "_law_deep" ["many"] (spDeepL K) := ⟨_, _, ok_deep43 B F38, PySem.W.mg_of X G a38, k38, b38⟩
  have g39 : Cal l.prog w K mg base 2 "_law_odd" ["draws"] (spOdd49 K) := ⟨_, _, ok_odd49 F39 g1 g38, PySem.W.mg_of X G a39, k39, b39⟩
  have g40 : Cal l.prog w K mg base 3 "_law_no_side" ["draws"] (spNoSide49 K) := ⟨_, _, ok_noside49 F40 g1 g39, PySem.W.mg_of X G a40, k40, b40⟩
  have g41 : Cal l.prog w K mg base 2 "_law_not_there" ["draws", "row"] spNotThere49 := ⟨_, _, ok_notthere49 B F41 g1, PySem.W.mg_of X G a41, k41, b41⟩
  have g42 : Cal l.prog w K mg base 3 "_law_no_place" ["draws", "size"] (spNoPlace49 K) := ⟨_, _, ok_noplace49 F42 g1 g39, PySem.W.mg_of X G a42, k42, b42⟩
  have g43 : Cal l.prog w K mg base 8 "_law_refused" ["draws", "live", "both"] (spRefused49 K CL) := ⟨_, _, ok_refused49 B F43 g1 g26 g40 g39 g37 g41 g42, PySem.W.mg_of X G a43, k43, b43⟩
  have g44 : Cal l.prog w K mg base 8 "_law_good_behind" ["draws", "live", "state"] (spGood49 CL [(PP11, (("bare_sum_at" : Str) ++ ".<locals>.") ++ "<lambda>")]) := ⟨_, _, ok_good49 B F44 g18 g19 g20 g1 g41 g37, PySem.W.mg_of X G a44, k44, b44⟩
  have g45 : Cal l.prog w K mg base 3 "_law_start" ["draws"] spStart49 := ⟨_, _, ok_start49 B F45 g1 g2, PySem.W.mg_of X G a45, k45, b45⟩
  exact Gd.FnG.of (ok_law49 B F46 g16 g21 g20 g0 g2 g45 g43 g35 g44 g27 g36)
end Sp
open PySem PySem.W PyProof.Rows
set_option maxRecDepth 100000 in
set_option maxHeartbeats 0 in
theorem PySem.Challenge.cw_sumplace_k49_changes_refused_holds : PySem.Challenge.rw_sumplace_k49_changes_refused.Holds := by
  w_on; o_law; k_head; (case hw => w_witness2)
  k_fill
  refine Gd.walkT (l := PySem.Challenge.rw_sumplace_k49_changes_refused) (n := 63) (k := 9) (x := "script") ["bare_sum_at"] rfl (by decide) rfl ⟨rfl, by decide, by decide⟩ ?known (fun w h Y => PySem.W.km_in_of Y) ?F
  case known =>
    intro m hm
    simp only [List.mem_cons, List.not_mem_nil, or_false] at hm
    rcases hm with rfl <;> first | rfl | decide +kernel
  case F =>
    intro w mg fa h KX G hmg
    refine' Sp.all_mk KX G hmg ?aCL ?pgCL ?hdCL ?poCL ?saCL ?mkCL ?kcCL ?nfCL0 ?nfCL1 ?a0 ?l0 ?c0 ?k0 ?a1 ?l1 ?c1 ?k1 ?a2 ?l2 ?c2 ?k2 ?a3 ?l3 ?c3 ?k3 ?a4 ?l4 ?c4 ?k4 ?a5 ?l5 ?c5 ?k5 ?a6 ?l6 ?c6 ?k6 ?a7 ?l7 ?c7 ?k7 ?a8 ?l8 ?c8 ?k8 ?a9 ?l9 ?c9 ?k9 ?a10 ?l10 ?c10 ?k10 ?a11 ?l11 ?c11 ?k11 ?lm11 ?hv11 ?nk11 ?a12 ?l12 ?c12 ?k12 ?a13 ?l13 ?c13 ?k13 ?a14 ?l14 ?c14 ?k14 ?a15 ?l15 ?c15 ?k15 ?a16 ?i16 ?l16 ?c16 ?k16 ?a17 ?i17 ?l17 ?c17 ?k17 ?a18 ?i18 ?l18 ?c18 ?k18 ?a19 ?i19 ?l19 ?c19 ?k19 ?a20 ?i20 ?l20 ?c20 ?k20 ?a21 ?i21 ?l21 ?c21 ?k21 ?a22 ?i22 ?l22 ?c22 ?k22 ?a23 ?i23 ?l23 ?c23 ?k23 ?a24 ?l24 ?c24 ?k24 ?a25 ?l25 ?c25 ?k25 ?a26 ?l26 ?c26 ?k26 ?a27 ?l27 ?c27 ?k27 ?a28 ?l28 ?c28 ?k28 ?a29 ?l29 ?c29 ?k29 ?a30 ?l30 ?c30 ?k30 ?a31 ?l31 ?c31 ?k31 ?a32 ?l32 ?c32 ?k32 ?a33 ?l33 ?c33 ?k33 ?a34 ?l34 ?c34 ?k34 ?a35 ?l35 ?c35 ?k35 ?a36 ?l36 ?c36 ?k36 ?a37 ?l37 ?c37 ?k37 ?a38 ?l38 ?c38 ?k38 ?a39 ?l39 ?c39 ?k39 ?a40 ?l40 ?c40 ?k40 ?a41 ?l41 ?c41 ?k41 ?a42 ?l42 ?c42 ?k42 ?a43 ?l43 ?c43 ?k43 ?a44 ?l44 ?c44 ?k44 ?a45 ?l45 ?c45 ?k45 ?a46 ?l46 ?c46 ?k46 ?aMO ?aC2 ?aC3 ?aCP ?aS ?aC1 ?aC4 ?bS ?hS ?tS ?en ?et ?zve ?xx2 ?kk2 ?bb2 ?tt2 ?ss2 ?hh2 ?eg2 ?ek2 ?ec2 ?em2 ?fno2 ?fval2 ?fk22 ?fk23 ?fk2P ?xx3 ?kk3 ?bb3 ?tt3 ?ss3 ?hh3 ?eg3 ?ek3 ?ec3 ?em3 ?fno3 ?fval3 ?fk32 ?fk33 ?fk3P ?xxP ?kkP ?bbP ?ttP ?ssP ?hhP ?egP ?ekP ?ecP ?emP ?fnoP ?fvalP ?fkP2 ?fkP3 ?fkPP ?zlen ?zlist ?zenumerate ?zint ?zbool ?zsum ?zsorted ?zmin ?zmax ?zrange ?zisinstance ?zrepr ?ztuple ?zdict ?zabs ?zstr
    (case aCL => k_is)
    (case pgCL => k_is)
    (case hdCL => k_is)
    (case poCL => k_is)
    (case saCL => k_is)
    (case mkCL => k_is)
    (case kcCL => k_is)
    (case nfCL0 => k_is)
    (case nfCL1 => k_is)
    (case a0 => k_is)
    (case l0 => k_is)
    (case c0 => k_is)
    (case k0 => k_is)
    (case a1 => k_is)
    (case l1 => k_is)
    (case c1 => k_is)
    (case k1 => k_is)
    (case a2 => k_is)
    (case l2 => k_is)
    (case c2 => k_is)
    (case k2 => k_is)
    (case a3 => k_is)
    (case l3 => k_is)
    (case c3 => k_is)
    (case k3 => k_is)
    (case a4 => k_is)
    (case l4 => k_is)
    (case c4 => k_is)
    (case k4 => k_is)
    (case a5 => k_is)
    (case l5 => k_is)
    (case c5 => k_is)
    (case k5 => k_is)
    (case a6 => k_is)
    (case l6 => k_is)
    (case c6 => k_is)
    (case k6 => k_is)
    (case a7 => k_is)
    (case l7 => k_is)
    (case c7 => k_is)
    (case k7 => k_is)
    (case a8 => k_is)
    (case l8 => k_is)
    (case c8 => k_is)
    (case k8 => k_is)
    (case a9 => k_is)
    (case l9 => k_is)
    (case c9 => k_is)
    (case k9 => k_is)
    (case a10 => k_is)
    (case l10 => k_is)
    (case c10 => k_is)
    (case k10 => k_is)
    (case a11 => k_is)
    (case l11 => k_is)
    (case c11 => k_is)
    (case k11 => k_is)
    (case lm11 => k_is)
    (case hv11 => rfl)
    (case nk11 => first | rfl | decide +kernel)
    (case a12 => k_is)
    (case l12 => k_is)
    (case c12 => k_is)
    (case k12 => k_is)
    (case a13 => k_is)
    (case l13 => k_is)
    (case c13 => k_is)
    (case k13 => k_is)
    (case a14 => k_is)
    (case l14 => k_is)
    (case c14 => k_is)
    (case k14 => k_is)
    (case a15 => k_is)
    (case l15 => k_is)
    (case c15 => k_is)
    (case k15 => k_is)
    (case a16 => k_is)
    (case i16 => k_is)
    (case l16 => k_is)
    (case c16 => k_is)
    (case k16 => k_is)
    (case a17 => k_is)
    (case i17 => k_is)
    (case l17 => k_is)
    (case c17 => k_is)
    (case k17 => k_is)
    (case a18 => k_is)
    (case i18 => k_is)
    (case l18 => k_is)
    (case c18 => k_is)
    (case k18 => k_is)
    (case a19 => k_is)
    (case i19 => k_is)
    (case l19 => k_is)
    (case c19 => k_is)
    (case k19 => k_is)
    (case a20 => k_is)
    (case i20 => k_is)
    (case l20 => k_is)
    (case c20 => k_is)
    (case k20 => k_is)
    (case a21 => k_is)
    (case i21 => k_is)
    (case l21 => k_is)
    (case c21 => k_is)
    (case k21 => k_is)
    (case a22 => k_is)
    (case i22 => k_is)
    (case l22 => k_is)
    (case c22 => k_is)
    (case k22 => k_is)
    (case a23 => k_is)
    (case i23 => k_is)
    (case l23 => k_is)
    (case c23 => k_is)
    (case k23 => k_is)
    (case a24 => k_is)
    (case l24 => k_is)
    (case c24 => k_is)
    (case k24 => k_is)
    (case a25 => k_is)
    (case l25 => k_is)
    (case c25 => k_is)
    (case k25 => k_is)
    (case a26 => k_is)
    (case l26 => k_is)
    (case c26 => k_is)
    (case k26 => k_is)
    (case a27 => k_is)
    (case l27 => k_is)
    (case c27 => k_is)
    (case k27 => k_is)
    (case a28 => k_is)
    (case l28 => k_is)
    (case c28 => k_is)
    (case k28 => k_is)
    (case a29 => k_is)
    (case l29 => k_is)
    (case c29 => k_is)
    (case k29 => k_is)
    (case a30 => k_is)
    (case l30 => k_is)
    (case c30 => k_is)
    (case k30 => k_is)
    (case a31 => k_is)
    (case l31 => k_is)
    (case c31 => k_is)
    (case k31 => k_is)
    (case a32 => k_is)
    (case l32 => k_is)
    (case c32 => k_is)
    (case k32 => k_is)
    (case a33 => k_is)
    (case l33 => k_is)
    (case c33 => k_is)
    (case k33 => k_is)
    (case a34 => k_is)
    (case l34 => k_is)
    (case c34 => k_is)
    (case k34 => k_is)
    (case a35 => k_is)
    (case l35 => k_is)
    (case c35 => k_is)
    (case k35 => k_is)
    (case a36 => k_is)
    (case l36 => k_is)
    (case c36 => k_is)
    (case k36 => k_is)
    (case a37 => k_is)
    (case l37 => k_is)
    (case c37 => k_is)
    (case k37 => k_is)
    (case a38 => k_is)
    (case l38 => k_is)
    (case c38 => k_is)
    (case k38 => k_is)
    (case a39 => k_is)
    (case l39 => k_is)
    (case c39 => k_is)
    (case k39 => k_is)
    (case a40 => k_is)
    (case l40 => k_is)
    (case c40 => k_is)
    (case k40 => k_is)
    (case a41 => k_is)
    (case l41 => k_is)
    (case c41 => k_is)
    (case k41 => k_is)
    (case a42 => k_is)
    (case l42 => k_is)
    (case c42 => k_is)
    (case k42 => k_is)
    (case a43 => k_is)
    (case l43 => k_is)
    (case c43 => k_is)
    (case k43 => k_is)
    (case a44 => k_is)
    (case l44 => k_is)
    (case c44 => k_is)
    (case k44 => k_is)
    (case a45 => k_is)
    (case l45 => k_is)
    (case c45 => k_is)
    (case k45 => k_is)
    (case a46 => k_is)
    (case l46 => k_is)
    (case c46 => k_is)
    (case k46 => k_is)
    (case aMO => k_is)
    (case aC2 => k_is)
    (case aC3 => k_is)
    (case aCP => k_is)
    (case aS => k_is)
    (case aC1 => k_is)
    (case aC4 => k_is)
    (case bS => k_is)
    (case hS => k_is)
    (case tS => k_is)
    (case en => k_is)
    (case et => k_is)
    (case zve => k_is)
    (case xx2 => k_exc)
    (case kk2 => k_is)
    (case bb2 => k_is)
    (case tt2 => k_is)
    (case ss2 => k_is)
    (case hh2 => k_is)
    (case eg2 => k_is)
    (case ek2 => k_is)
    (case ec2 => k_is)
    (case em2 => k_is)
    (case fno2 => first | rfl | decide +kernel)
    (case fval2 => first | rfl | decide +kernel)
    (case fk22 => first | rfl | decide +kernel)
    (case fk23 => first | rfl | decide +kernel)
    (case fk2P => first | rfl | decide +kernel)
    (case xx3 => k_exc)
    (case kk3 => k_is)
    (case bb3 => k_is)
    (case tt3 => k_is)
    (case ss3 => k_is)
    (case hh3 => k_is)
    (case eg3 => k_is)
    (case ek3 => k_is)
    (case ec3 => k_is)
    (case em3 => k_is)
    (case fno3 => first | rfl | decide +kernel)
    (case fval3 => first | rfl | decide +kernel)
    (case fk32 => first | rfl | decide +kernel)
    (case fk33 => first | rfl | decide +kernel)
    (case fk3P => first | rfl | decide +kernel)
    (case xxP => k_exc)
    (case kkP => k_is)
    (case bbP => k_is)
    (case ttP => k_is)
    (case ssP => k_is)
    (case hhP => k_is)
    (case egP => k_is)
    (case ekP => k_is)
    (case ecP => k_is)
    (case emP => k_is)
    (case fnoP => first | rfl | decide +kernel)
    (case fvalP => first | rfl | decide +kernel)
    (case fkP2 => first | rfl | decide +kernel)
    (case fkP3 => first | rfl | decide +kernel)
    (case fkPP => first | rfl | decide +kernel)
    (case zlen => k_is)
    (case zlist => k_is)
    (case zenumerate => k_is)
    (case zint => k_is)
    (case zbool => k_is)
    (case zsum => k_is)
    (case zsorted => k_is)
    (case zmin => k_is)
    (case zmax => k_is)
    (case zrange => k_is)
    (case zisinstance => k_is)
    (case zrepr => k_is)
    (case ztuple => k_is)
    (case zdict => k_is)
    (case zabs => k_is)
    (case zstr => k_is)
